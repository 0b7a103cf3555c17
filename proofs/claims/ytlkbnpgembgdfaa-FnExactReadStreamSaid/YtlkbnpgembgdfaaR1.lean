/-
  Splitting a text, by the model's loop.
-/
import Derived.Test.YtlkbnpgembgdfaaN3
import Derived.WalkSpells
namespace Go.Proofs.Ytlkbnpgembgdfaa.Sx
open Go Go.RowKit
set_option linter.unusedVariables false
set_option linter.unusedSimpArgs false

theorem infoS : (Try.prog.info? 9).map (fun i => (i.zero, i.size, i.bytes)) = some (some (.string ⟨#[]⟩), 1, 16) := by kernel_rfl
/-- Where a part begins, and what parts there are, behind some bytes. -/
def stS (t : ByteArray) (c : Int) : Nat → Nat × List ByteArray
  | 0 => (0, [])
  | i + 1 => if ((t.data.toList.getD i 0).toNat : Int) = c then (i + 1, (stS t c i).2 ++ [t.extract (stS t c i).1 i]) else stS t c i
theorem stS_le (t : ByteArray) (c : Int) (i : Nat) : (stS t c i).1 ≤ i ∧ (stS t c i).2.length ≤ i := by
  induction i with
  | zero => exact ⟨Nat.le_refl _, Nat.le_refl _⟩
  | succ i ih =>
    unfold stS
    split
    · exact ⟨Nat.le_refl _, by simp; omega⟩
    · omega
def strV (l : List ByteArray) : List Value := l.map Value.string
set_option maxRecDepth 1000000 in
set_option maxHeartbeats 8000000 in
theorem split1 (t : ByteArray) (c : Int) (w : World) (ht : t.size ≤ 1048576) :
    Calls Try.prog 51 #[.string t, .int .u8 c] w fun e w' => ∃ g cp, e = .returned (.slice (some ⟨g, 0, none⟩) ((stS t c t.size).2.length + 1) cp) ∧ Below w.heap.size w w' ∧
      ∀ i x, ((stS t c t.size).2 ++ [t.extract (stS t c t.size).1 t.size])[i]? = some x → w'.cell? ⟨g, i, none⟩ = some (.string x) := by
  obtain ⟨i00, hi, hz0, hz1, hz2⟩ := info_parts infoS
  obtain ⟨B, hB⟩ : ∃ B, w.heap.size = B := ⟨_, rfl⟩
  have HB := Lib.hid hB
  obtain ⟨n, hn⟩ : ∃ n, t.size = n := ⟨_, rfl⟩
  have HN := Lib.hid hn
  rw [hn] at ht ⊢
  have hlB : ∀ W : World, (Builtin.len_ #[9] 3 #[.string t]).run Try.prog W = .ok (.int .i64 n) W := fun W => by rw [← hn]; rfl
  clear hn
  go_enter Try.func51, Try.ntmps51
  go_wp2
  go_loopw [5, 6, 7] (fun v b i wr => ∃ k : Nat, i = .int .i64 k ∧ k ≤ n ∧ b = .int .i64 (stS t c k).1 ∧ wr.ownsRow B 9 1 v (stS t c k).2.length (strV (stS t c k).2) ∧ Below B w wr) (fun _ _ i _ => n - (RowKit.intOf i).toNat)
  case atStart => exact ⟨0, rfl, Nat.zero_le _, rfl, by rw [← hB]; exact World.ownsRow_made w #[] 0 (Nat.le_refl _) (by decide) rfl, (Below.refl _ _).alloc (by omega) _⟩
  case round =>
    obtain ⟨k, rfl, hk, rfl, hown, hBl⟩ := hrel
    have hsz := hBl.size
    have hle := stS_le t c k
    clear hB
    by_cases hlt : k < n
    · have hlt' : k < t.size := by rw [HN.out]; exact hlt
      have hstep := Lib.hid (show stS t c (k + 1) = if ((t.data.toList.getD k 0).toNat : Int) = c then (k + 1, (stS t c k).2 ++ [t.extract (stS t c k).1 k]) else stS t c k from rfl)
      have hbyte : t.data.toList.getD k 0 = t[k] := by rw [List.getD_eq_getElem?_getD]; simp [hlt']; rfl
      rw [hbyte] at hstep
      have hex : ∃ p, stS t c k = p := ⟨_, rfl⟩
      obtain ⟨⟨bg, out⟩, hst⟩ := hex
      rw [hst] at hown hle hstep ⊢
      have HST := Lib.hid hst
      have g1 : (bg : Int) ≤ k := by have := hle.1; simp at this; omega
      have g2 : (k : Int) ≤ t.size := by omega
      have g3 : (0 : Int) ≤ bg := by omega
      simp only at hown hle hstep
      have hol : out.length ≤ k := hle.2
      clear hst hle hbyte
      by_cases hc : (t[k].toNat : Int) = c
      · have hcb : ((t[k].toNat : Int) == c) = true := by rw [beq_iff_eq]; exact hc
        have HS := Lib.hid (hstep.out.trans (if_pos hc))
        clear hc hstep
        have hsB : B ≤ wr.heap.size := by have := HB.out; omega
        have hmx : out.length + 1 ≤ maxLen := by unfold maxLen; omega
        obtain ⟨X, hX⟩ : ∃ X, strV out = X := ⟨_, rfl⟩
        rw [hX] at hown
        have HXX := Lib.hid hX
        clear hX
        go_wp2_with (at_builtin; refine wpList_append_own _ rfl _ _ 72 rfl B 9 i00 (.string ⟨#[]⟩) 1 16 Try.underlying72 hi hz0 hz1 hz2 rfl (by decide) _ _ _ rfl (hown.alloc _) ⟨wr.heap.size, 0, none⟩ 1 1 [.string (t.extract bg k)] rfl rfl ?c1 ?c2 ?c3 ?c4 ?c5 ?_)
        case c1 => exact new1 _ _ _
        case c2 => simp [Value.oneCell']
        case c3 => exact hmx
        case c4 => omega
        case c5 => simp; omega
        intro v' w1 hown' hgrow _
        have hb' := own_grow hown hBl hsB hgrow
        have ho : w1.ownsRow B 9 1 v' (stS t c (k + 1)).2.length (strV (stS t c (k + 1)).2) := by
          rw [HS.out]
          show w1.ownsRow B _ 1 v' (out ++ [t.extract bg k]).length (strV (out ++ [t.extract bg k]))
          rw [List.length_append]
          unfold strV at HXX ⊢
          rw [List.map_append, HXX.out]
          exact hown'
        have HO := Lib.hid ho
        clear hown' hgrow ho hown hBl
        go_wp2
        go_roundw
        case rel => exact ⟨k + 1, by simp, by omega, by rw [HS.out]; simp, HO.out, hb'⟩
        case measure => simp [RowKit.intOf]; omega
      · have hcb : ((t[k].toNat : Int) == c) = false := by rw [beq_eq_false_iff_ne]; exact hc
        have HS := Lib.hid (hstep.out.trans (if_neg hc))
        clear hc hstep
        go_wp2
        go_roundw
        case rel => exact ⟨k + 1, by simp, by omega, by rw [HS.out], by rw [HS.out]; exact hown, hBl⟩
        case measure => simp [RowKit.intOf]; omega
    · obtain rfl : k = n := by omega
      have hex : ∃ p, stS t c k = p := ⟨_, rfl⟩
      obtain ⟨⟨bg, out⟩, hst⟩ := hex
      have HST := Lib.hid hst
      rw [hst] at hown hle
      simp only at hown hle
      have g1 : (bg : Int) ≤ t.size := by have := hle.1; have := HN.out; omega
      have g3 : (0 : Int) ≤ bg := by omega
      have hol : out.length ≤ k := hle.2
      have hsB : B ≤ wr.heap.size := by have := HB.out; omega
      have hmx : out.length + 1 ≤ maxLen := by unfold maxLen; omega
      obtain ⟨X, hX⟩ : ∃ X, strV out = X := ⟨_, rfl⟩
      rw [hX] at hown
      have HXX := Lib.hid hX
      rw [hst]
      clear hX hst hle
      go_wp2_with (at_builtin; refine wpList_append_lies _ rfl _ _ 72 rfl B 9 i00 (.string ⟨#[]⟩) 1 16 Try.underlying72 hi hz0 hz1 hz2 rfl (by decide) _ _ _ rfl (hown.alloc _) ⟨wr.heap.size, 0, none⟩ 1 1 [.string (t.extract bg t.size)] rfl rfl ?d1 ?d2 (by omega) ?d3 ?d4 ?d5 (wr.heap.size + 1) (by simp) ?_)
      case d1 => exact new1 _ _ _
      case d2 => simp [Value.oneCell']
      case d3 => exact hmx
      case d4 => omega
      case d5 => simp; omega
      intro g cp w1 hown' hgrow _ _
      have hb' := own_grow hown hBl hsB hgrow
      have hcl := hown'.cells (g := g) rfl
      have hfin : ∀ (i : Nat) (x : ByteArray), (out ++ [t.extract bg t.size])[i]? = some x → w1.cell? ⟨g, i, none⟩ = some (.string x) := fun i x hx => by
        have e : (X ++ [Value.string (t.extract bg t.size)])[i]? = some (.string x) := by
          rw [← HXX.out]
          unfold strV
          rw [show List.map Value.string out ++ [Value.string (t.extract bg t.size)] = List.map Value.string (out ++ [t.extract bg t.size]) by rw [List.map_append]; rfl, List.getElem?_map, hx]
          rfl
        have := hcl i _ e
        rw [show ((⟨g, 0, none⟩ : Addr).add i) = ⟨g, i, none⟩ by unfold Addr.add; split <;> simp_all] at this
        exact this
      have HF := Lib.hid hfin
      clear hown' hgrow hown hcl hfin
      go_wp2
      go_ret
      exact ⟨g, cp, by rw [HST.out]; rfl, by rw [HB.out]; exact hb', by
        have := HF.out
        rw [HN.out] at this
        rw [HST.out]; exact this⟩
end Go.Proofs.Ytlkbnpgembgdfaa.Sx
