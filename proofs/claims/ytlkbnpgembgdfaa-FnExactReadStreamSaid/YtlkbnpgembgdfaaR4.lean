/-
  A text cut at the first colon.
-/
import Derived.Test.YtlkbnpgembgdfaaR3
import Derived.Laws.Strings
namespace Go.Proofs.Ytlkbnpgembgdfaa.Sx
open Go Go.RowKit
set_option linter.unusedVariables false
set_option linter.unusedSimpArgs false

/-- The two parts, and whether there was a colon. -/
def CutP (a b : ByteArray) (ok : Bool) (w : World) (e : Ending) (w' : World) : Prop := e = .returned (.tuple #[.string a, .string b, .bool ok]) ∧ Below w.heap.size w w'
set_option maxRecDepth 1000000 in
set_option maxHeartbeats 4000000 in
theorem idx77 (t : ByteArray) (w : World) : Calls Try.prog 77 #[.string t, .string ⟨#[58]⟩] w fun e w' => e = .returned (.int .i64 (Lib.indexByte t.data.toList 58)) ∧ Same w w' := by
  have ix := idxC t w
  obtain ⟨i, hi⟩ : ∃ i, Lib.indexByte t.data.toList 58 = i := ⟨_, rfl⟩
  rw [hi] at ix ⊢
  have hlB : ∀ W : World, (Builtin.len_ #[9] 3 #[.string ⟨#[58]⟩]).run Try.prog W = .ok (.int .i64 1) W := fun W => rfl
  obtain ⟨tt, htt⟩ : ∃ tt, ([58] == t.toList) = tt := ⟨_, rfl⟩
  cases tt
  · clear hi
    go_enter Try.func77, Try.ntmps77
    go_wp2_with (go_at_call 78; refine ix.mono ?_; rintro e W1 ⟨rfl, rfl⟩)
    go_ret
    exact ⟨rfl, rfl⟩
  · have h0 : i = 0 := by
      rw [← hi, ← ByteArray.toList_eq, ← LawfulBEq.eq_of_beq htt]
      rfl
    subst h0
    clear hi ix
    go_enter Try.func77, Try.ntmps77
    go_wp2
    go_ret
    exact ⟨rfl, rfl⟩
set_option maxRecDepth 1000000 in
set_option maxHeartbeats 4000000 in
theorem cut_no72 (t : ByteArray) (w : World) (h : Lib.indexByte t.data.toList 58 = -1) : Calls Try.prog 72 #[.string t, .string ⟨#[58]⟩] w (CutP t ⟨#[]⟩ false w) := by
  have ix := idx77 t w
  rw [h] at ix
  clear h
  go_enter Try.func72, Try.ntmps72
  go_wp2_with (go_at_call 77; refine ix.mono ?_)
  first | (rintro e W1 rfl hs) | (rintro e W1 ⟨rfl, hs⟩)
  obtain rfl := hs.out
  go_wp2
  refine bodyPost_ret (v := .tuple #[.string t, .string ⟨#[]⟩, .bool false]) (by simp [results, Try.results72, go_sem]) rfl ?_
  exact ⟨rfl, Below.refl _ _⟩
set_option maxRecDepth 1000000 in
set_option maxHeartbeats 4000000 in
theorem cut_yes72 (t : ByteArray) (k : Nat) (w : World) (hk : k < t.size) (ht : t.size ≤ 1048576) (h : Lib.indexByte t.data.toList 58 = k) : Calls Try.prog 72 #[.string t, .string ⟨#[58]⟩] w (CutP (t.extract 0 k) (t.extract (k + 1) t.size) true w) := by
  have ix := idx77 t w
  rw [h] at ix
  have hlB : ∀ W : World, (Builtin.len_ #[9] 3 #[.string ⟨#[58]⟩]).run Try.prog W = .ok (.int .i64 1) W := fun W => rfl
  have g1 : (k : Int) ≤ t.size := by omega
  have g2 : (k : Int) + 1 ≤ t.size := by omega
  have g3 : (0 : Int) ≤ k := by omega
  have g4 : (0 : Int) ≤ (k : Int) + 1 := by omega
  have g5 : ((k : Int) + 1).toNat = k + 1 := by omega
  clear h hk
  go_enter Try.func72, Try.ntmps72
  go_wp2_with (go_at_call 77; refine ix.mono ?_)
  first | (rintro e W1 rfl hs) | (rintro e W1 ⟨rfl, hs⟩)
  obtain rfl := hs.out
  clear hs ix
  go_wp2
  go_region
  all_goals
    go_wp2
    refine bodyPost_ret (v := .tuple #[.string (t.extract 0 k), .string (t.extract (k + 1) t.size), .bool true]) (by simp [results, Try.results72, go_sem]) rfl ?_
    exact ⟨rfl, rfl, rfl, rfl, Nat.le_refl _, fun _ _ => rfl⟩
set_option maxRecDepth 1000000 in
theorem cutI (t a b : ByteArray) (ok : Bool) (w : World) (h : Calls Try.prog 72 #[.string t, .string ⟨#[58]⟩] w (CutP a b ok w)) : Calls Try.prog 53 #[.string t, .string ⟨#[58]⟩] w (CutP a b ok w) := by
  go_enter Try.func53, Try.ntmps53
  go_wp2_with (go_at_call 72; refine h.mono ?_)
  first | (rintro e W1 rfl hs) | (rintro e W1 ⟨rfl, hs⟩)
  go_wp2
  refine bodyPost_ret (v := .tuple #[.string a, .string b, .bool ok]) (by simp [results, Try.results53, go_sem]) rfl ?_
  exact ⟨rfl, hs⟩
/-! ### Where the first colon is -/
def cI (t : ByteArray) : Int := Lib.indexByte t.data.toList 58
def cA (t : ByteArray) : ByteArray := if cI t = -1 then t else t.extract 0 (cI t).toNat
def cB (t : ByteArray) : ByteArray := if cI t = -1 then ⟨#[]⟩ else t.extract ((cI t).toNat + 1) t.size
def cO (t : ByteArray) : Bool := !decide (cI t = -1)
theorem idx_spec (l : List UInt8) (c : UInt8) : (Lib.indexByte l c = -1 ∧ ∀ j, j < l.length → l.getD j 0 ≠ c) ∨ ∃ k : Nat, Lib.indexByte l c = k ∧ k < l.length ∧ l.getD k 0 = c ∧ ∀ j, j < k → l.getD j 0 ≠ c := by
  induction l with
  | nil => exact .inl ⟨rfl, fun j h => absurd h (Nat.not_lt_zero _)⟩
  | cons x l ih =>
    unfold Lib.indexByte
    by_cases hx : x = c
    · subst hx
      exact .inr ⟨0, by simp, by simp, by simp, fun j h => absurd h (Nat.not_lt_zero _)⟩
    · have hx' : (x == c) = false := by rw [beq_eq_false_iff_ne]; exact hx
      rw [hx', if_neg (by decide)]
      rcases ih with ⟨h1, h2⟩ | ⟨k, h1, h2, h3, h4⟩
      · rw [h1, if_pos (by decide)]
        refine .inl ⟨rfl, fun j hj => ?_⟩
        cases j with
        | zero => simpa using hx
        | succ j => simpa using h2 j (by simpa using hj)
      · rw [h1, if_neg (by simp)]
        refine .inr ⟨k + 1, by simp, by simpa using h2, by simpa using h3, fun j hj => ?_⟩
        cases j with
        | zero => simpa using hx
        | succ j => simpa using h4 j (by omega)
theorem cut (t : ByteArray) (ht : t.size ≤ 1048576) (w : World) : Calls Try.prog 53 #[.string t, .string ⟨#[58]⟩] w (CutP (cA t) (cB t) (cO t) w) := by
  refine cutI _ _ _ _ _ ?_
  rcases idx_spec t.data.toList 58 with ⟨h1, _⟩ | ⟨k, h1, h2, _⟩
  · have e : cI t = -1 := h1
    have := cut_no72 t w h1
    unfold cA cB cO
    rw [e, if_pos rfl, if_pos rfl]
    exact this
  · have e : cI t = k := h1
    have := cut_yes72 t k w (by simpa using h2) ht h1
    unfold cA cB cO
    rw [e, if_neg (by omega), if_neg (by omega), decide_eq_false (by omega)]
    exact this
theorem cA_size (t : ByteArray) : (cA t).size ≤ t.size := by
  unfold cA
  split
  · exact Nat.le_refl _
  · rw [ByteArray.size_extract]; omega
theorem cB_size (t : ByteArray) : (cB t).size ≤ t.size := by
  unfold cB
  split
  · exact Nat.zero_le _
  · rw [ByteArray.size_extract]; omega
end Go.Proofs.Ytlkbnpgembgdfaa.Sx
