/-
  Valid streams: both programs' functions.
-/
import Derived.Test.YtjmpdilffmpkgaaH2
namespace Go.Proofs.Ytjmpdilffmpkgaa.Sx
open Go Go.RowKit
set_option linter.unusedVariables false
set_option linter.unusedSimpArgs false

/-- All numbers of a list are digits. -/
def dgB (l : List Int) : Bool := l.all fun x => decide (-1 ≤ x) && decide (x ≤ 1)
theorem dgB_iff (l : List Int) : dgB l = true ↔ ∀ x ∈ l, -1 ≤ x ∧ x ≤ 1 := by simp [dgB]
theorem dgB_bad {l : List Int} {x : Int} (hx : x ∈ l) (h : ¬ (-1 ≤ x ∧ x ≤ 1)) : dgB l = false := by
  rw [← Bool.not_eq_true, dgB_iff]
  exact fun e => h (e x hx)
theorem dgB_good {l : List Int} {n : Nat} (hn : l.length ≤ n) (h : ∀ j, j < n → -1 ≤ l.getD j 0 ∧ l.getD j 0 ≤ 1) : dgB l = true := by
  rw [dgB_iff]
  intro x hx
  obtain ⟨j, hj, rfl⟩ := List.getElem_of_mem hx
  have := h j (by omega)
  rwa [List.getD_eq_getElem?_getD, List.getElem?_eq_getElem hj] at this
theorem getD_some {l : List Int} {j : Nat} (h : j < l.length) : l[j]? = some (l.getD j 0) := by rw [List.getD_eq_getElem?_getD, List.getElem?_eq_getElem h]; rfl
theorem getD_mem {l : List Int} {j : Nat} (h : j < l.length) : l.getD j 0 ∈ l := List.mem_of_getElem? (getD_some h)
/-- A stream that is valid. -/
def vsB (a b : List Int) : Bool := decide (a.length ≤ 16) && (decide (1 ≤ b.length) && decide (b.length ≤ 14)) && dgB a && dgB b
theorem vsB_iff (a b : List Int) : vsB a b = true ↔ a.length ≤ 16 ∧ 1 ≤ b.length ∧ b.length ≤ 14 ∧ dgB a = true ∧ dgB b = true := by
  unfold vsB
  simp only [Bool.and_eq_true, decide_eq_true_eq]
  constructor
  · rintro ⟨⟨⟨h1, h2, h3⟩, h4⟩, h5⟩; exact ⟨h1, h2, h3, h4, h5⟩
  · rintro ⟨h1, h2, h3, h4, h5⟩; exact ⟨⟨⟨h1, h2, h3⟩, h4⟩, h5⟩

set_option maxRecDepth 1000000 in
set_option maxHeartbeats 4000000 in
theorem digits_some (b o c : Nat) (l : List Int) (w : World) (hlen : l.length ≤ 9223372036854775807) (hcs : ∀ i x, l[i]? = some x → w.cell? ⟨b, o + i, none⟩ = some (.int .i8 x)) :
    Calls Try.prog 59 #[.slice (some ⟨b, o, none⟩) l.length c] w fun e w' => e = .returned (.bool (dgB l)) ∧ Same w w' := by
  have hlB : ∀ W : World, (Builtin.len_ #[37] 3 #[.slice (some ⟨b, o, none⟩) l.length c]).run Try.prog W = .ok (.int .i64 l.length) W := fun W => rfl
  obtain ⟨n, hn⟩ : ∃ n, l.length = n := ⟨_, rfl⟩
  rw [hn] at hlen hlB ⊢
  have HN := Lib.hid hn
  have HC := Lib.hid hcs
  clear hn hcs
  go_enter Try.func59, Try.ntmps59
  go_wp2
  go_loop [3] (fun i => ∃ j : Nat, j ≤ n ∧ i = .int .i64 j ∧ Hid (∀ p, p < j → -1 ≤ l.getD p 0 ∧ l.getD p 0 ≤ 1)) (fun i => n - (RowKit.intOf i).toNat)
  case atStart => exact ⟨0, Nat.zero_le _, rfl, fun p hp => absurd hp (Nat.not_lt_zero _)⟩
  case round =>
    obtain ⟨j, hj, rfl, hI⟩ := hrel
    by_cases hlt : j < n
    · have hc := HC.out j _ (getD_some (by rw [HN.out]; exact hlt))
      have hm : l.getD j 0 ∈ l := getD_mem (by rw [HN.out]; exact hlt)
      have HM := Lib.hid hm
      have HX : Hid (∀ p, p < j + 1 → (-1 ≤ l.getD j 0 ∧ l.getD j 0 ≤ 1) → -1 ≤ l.getD p 0 ∧ l.getD p 0 ≤ 1) := fun p hp hx => by
        by_cases e : p = j
        · subst e; exact hx
        · exact hI.out p (by omega)
      clear hm
      obtain ⟨x, hx⟩ : ∃ x, l.getD j 0 = x := ⟨_, rfl⟩
      rw [hx] at hc
      have HE := Lib.hid hx
      clear hx
      by_cases h1 : x < -1
      · have hf := dgB_bad HM.out (by rw [HE.out]; omega)
        have HF := Lib.hid hf
        clear hf
        go_wp2
        go_ret
        exact ⟨by rw [HF.out]; rfl, rfl⟩
      · by_cases h2 : 1 < x
        · have hf := dgB_bad HM.out (by rw [HE.out]; omega)
          have HF := Lib.hid hf
          clear hf
          go_wp2
          go_ret
          exact ⟨by rw [HF.out]; rfl, rfl⟩
        · go_wp2
          go_round
          case rel => exact ⟨j + 1, by omega, by simp, fun p hp => HX.out p hp (by rw [HE.out]; omega)⟩
          case measure => simp [RowKit.intOf]; omega
    · obtain rfl : j = n := by omega
      have hf := dgB_good (l := l) (n := j) (by rw [HN.out]; exact Nat.le_refl _) hI.out
      have HF := Lib.hid hf
      clear hf
      go_wp2
      go_ret
      exact ⟨by rw [HF.out]; rfl, rfl⟩
set_option maxRecDepth 100000 in
theorem digits_none (w : World) : Calls Try.prog 59 #[.slice none 0 0] w fun e w' => e = .returned (.bool (dgB [])) ∧ Same w w' := by
  have hlB : ∀ W : World, (Builtin.len_ #[37] 3 #[.slice none 0 0]).run Try.prog W = .ok (.int .i64 0) W := fun W => rfl
  go_enter Try.func59, Try.ntmps59
  go_wp2
  go_loop [3] (fun i => i = .int .i64 0) (fun i => 0)
  case atStart => exact rfl
  case round =>
    obtain rfl := hrel
    go_wp2
    go_ret
    exact ⟨rfl, rfl⟩
theorem digits {w : World} {l : List Int} {v : Value} (h : IsL .i8 w l v) (hlen : l.length ≤ 9223372036854775807) :
    Calls Try.prog 59 #[v] w fun e w' => e = .returned (.bool (dgB l)) ∧ Same w w' := by
  rcases h with ⟨rfl, rfl⟩ | ⟨b, o, c, rfl, h2, h3⟩
  · exact digits_none w
  · exact digits_some b o c l w hlen h3
set_option maxRecDepth 100000 in
theorem noDigit (x : Int) (w : World) : Calls Try.prog 63 #[.int .i8 x] w fun e w' => e = .returned (.bool (!(decide (-1 ≤ x) && decide (x ≤ 1)))) ∧ Same w w' := by
  by_cases h1 : x < -1
  · have h3 : ¬ -1 ≤ x := by omega
    rw [decide_eq_false h3]
    go_enter Try.func63, Try.ntmps63
    go_wp2
    go_ret
    exact ⟨rfl, rfl⟩
  · have h3 : -1 ≤ x := by omega
    rw [decide_eq_true h3]
    by_cases h2 : 1 < x
    · have h4 : ¬ x ≤ 1 := by omega
      rw [decide_eq_false h4]
      clear h4 h3
      go_enter Try.func63, Try.ntmps63
      go_wp2
      go_ret
      exact ⟨rfl, rfl⟩
    · have h4 : x ≤ 1 := by omega
      rw [decide_eq_true h4]
      clear h3 h4
      go_enter Try.func63, Try.ntmps63
      go_wp2
      go_ret
      exact ⟨rfl, rfl⟩
/-- Whether there is no digit, and where. -/
def Found (l : List Int) (r : Int) : Prop := if dgB l then r = -1 else 0 ≤ r
set_option maxRecDepth 1000000 in
set_option maxHeartbeats 4000000 in
theorem index_some (b o c : Nat) (l : List Int) (w : World) (hlen : l.length ≤ 9223372036854775807) (hcs : ∀ i x, l[i]? = some x → w.cell? ⟨b, o + i, none⟩ = some (.int .i8 x)) :
    Calls Try.prog 75 #[.slice (some ⟨b, o, none⟩) l.length c, .func (.func 63) #[] #[]] w fun e w' => ∃ r, e = .returned (.int .i64 r) ∧ Found l r ∧ Same w w' := by
  have hlB : ∀ W : World, (Builtin.len_ #[37] 3 #[.slice (some ⟨b, o, none⟩) l.length c]).run Try.prog W = .ok (.int .i64 l.length) W := fun W => rfl
  obtain ⟨n, hn⟩ : ∃ n, l.length = n := ⟨_, rfl⟩
  rw [hn] at hlen hlB ⊢
  have HN := Lib.hid hn
  have HC := Lib.hid hcs
  clear hn hcs
  go_enter Try.func75, Try.ntmps75
  go_wp2
  go_loop [8] (fun i => ∃ j : Nat, j ≤ n ∧ i = .int .i64 j ∧ Hid (∀ p, p < j → -1 ≤ l.getD p 0 ∧ l.getD p 0 ≤ 1)) (fun i => n - (RowKit.intOf i).toNat)
  case atStart => exact ⟨0, Nat.zero_le _, rfl, fun p hp => absurd hp (Nat.not_lt_zero _)⟩
  case round =>
    obtain ⟨j, hj, rfl, hI⟩ := hrel
    by_cases hlt : j < n
    · have hc := HC.out j _ (getD_some (by rw [HN.out]; exact hlt))
      have HM := Lib.hid (getD_mem (l := l) (j := j) (by rw [HN.out]; exact hlt))
      have HX : Hid (∀ p, p < j + 1 → (-1 ≤ l.getD j 0 ∧ l.getD j 0 ≤ 1) → -1 ≤ l.getD p 0 ∧ l.getD p 0 ≤ 1) := fun p hp hx => by
        by_cases e : p = j
        · subst e; exact hx
        · exact hI.out p (by omega)
      obtain ⟨x, hx⟩ : ∃ x, l.getD j 0 = x := ⟨_, rfl⟩
      rw [hx] at hc
      have HE := Lib.hid hx
      have nd := noDigit x w
      clear hx
      by_cases h1 : -1 ≤ x ∧ x ≤ 1
      · rw [decide_eq_true h1.1, decide_eq_true h1.2] at nd
        have HG := Lib.hid h1
        clear h1
        go_wp2_with (go_at_call 63; refine nd.mono ?_; rintro e W1 ⟨rfl, hs⟩; obtain rfl := hs.out; clear hs)
        go_round
        case rel => exact ⟨j + 1, by omega, by simp, fun p hp => HX.out p hp (by rw [HE.out]; exact HG.out)⟩
        case measure => simp [RowKit.intOf]; omega
      · have hf := dgB_bad HM.out (by rw [HE.out]; exact h1)
        have HF := Lib.hid hf
        rw [show (!(decide (-1 ≤ x) && decide (x ≤ 1))) = true by simp; omega] at nd
        clear hf h1
        go_wp2_with (go_at_call 63; refine nd.mono ?_; rintro e W1 ⟨rfl, hs⟩; obtain rfl := hs.out; clear hs)
        go_ret
        exact ⟨_, rfl, by unfold Found; rw [HF.out]; first | rfl | simp, rfl⟩
    · obtain rfl : j = n := by omega
      have HF := Lib.hid (dgB_good (l := l) (n := j) (by rw [HN.out]; exact Nat.le_refl _) hI.out)
      go_wp2
      go_ret
      exact ⟨_, rfl, by unfold Found; rw [HF.out]; first | rfl | simp, rfl⟩
end Go.Proofs.Ytjmpdilffmpkgaa.Sx
