/-
  Digits read from a text: both programs.
-/
import Derived.Test.YtlkbnpgembgdfaaN3
import Derived.WalkSpells
namespace Go.Proofs.Ytlkbnpgembgdfaa.Sx
open Go Go.RowKit
set_option linter.unusedVariables false
set_option linter.unusedSimpArgs false

/-- The digit of a byte; no digit for all other bytes. -/
def rdB (c : UInt8) : Int := if (c.toNat : Int) = 45 then -1 else if (c.toNat : Int) = 48 then 0 else if (c.toNat : Int) = 43 then 1 else -2
def rdL (t : ByteArray) : List Int := t.data.toList.map rdB
/-- Whether all bytes are those of digits. -/
def goodB (t : ByteArray) : Bool := t.data.toList.all fun c => decide (rdB c ≠ -2)
theorem rdL_length (t : ByteArray) : (rdL t).length = t.size := by simp [rdL]
theorem rdL_getD {t : ByteArray} {k : Nat} (h : k < t.size) : (rdL t).getD k 0 = rdB t[k] := by
  unfold rdL
  rw [List.getD_eq_getElem?_getD, List.getElem?_map, List.getElem?_eq_getElem (by simpa using h)]
  rfl
theorem rdL_take {t : ByteArray} {k : Nat} (h : k < t.size) : ((rdL t).take k).map (Value.int .i8) ++ [Value.int .i8 (rdB t[k])] = ((rdL t).take (k + 1)).map (Value.int .i8) := by
  have h' : k < (rdL t).length := by rw [rdL_length]; exact h
  rw [List.take_succ_eq_append_getElem h', List.map_append]
  have := rdL_getD h
  rw [List.getD_eq_getElem?_getD, List.getElem?_eq_getElem h'] at this
  rw [show (rdL t)[k] = rdB t[k] from this]
  rfl
theorem goodB_bad {t : ByteArray} {k : Nat} (h : k < t.size) (hb : rdB t[k] = -2) : goodB t = false := by
  rw [← Bool.not_eq_true]
  intro e
  unfold goodB at e
  rw [List.all_eq_true] at e
  have := e t[k] (by
    have : t[k] = t.data.toList[k]'(by simpa using h) := rfl
    rw [this]; exact List.getElem_mem _)
  simp [hb] at this
theorem goodB_good {t : ByteArray} (h : ∀ k (hk : k < t.size), rdB t[k] ≠ -2) : goodB t = true := by
  unfold goodB
  rw [List.all_eq_true]
  intro c hc
  obtain ⟨k, hk, rfl⟩ := List.getElem_of_mem hc
  have := h k (by simpa using hk)
  rw [decide_eq_true_eq]
  exact this
/-- The ending of the digits' reading. -/
def ReadS (t : ByteArray) (w : World) (e : Ending) (w' : World) : Prop := ∃ (v : Value) (l : List Int), e = .returned (.tuple #[v, .bool (goodB t)]) ∧ Below w.heap.size w w' ∧ OwnL .i8 w.heap.size w' l v ∧ (goodB t = true → l = rdL t)
set_option maxRecDepth 1000000 in
set_option maxHeartbeats 8000000 in
theorem readS (t : ByteArray) (w : World) (ht : t.size ≤ 1048576) :
    Calls Try.prog 52 #[.string t] w (ReadS t w) := by
  obtain ⟨i00, hi, hz0, hz1, hz2⟩ := info_parts info8
  obtain ⟨B, hB⟩ : ∃ B, w.heap.size = B := ⟨_, rfl⟩
  have HB := Lib.hid hB
  obtain ⟨n, hn⟩ : ∃ n, t.size = n := ⟨_, rfl⟩
  have HN := Lib.hid hn
  rw [hn] at ht
  have hlB : ∀ W : World, (Builtin.len_ #[9] 3 #[.string t]).run Try.prog W = .ok (.int .i64 n) W := fun W => by rw [← hn]; rfl
  clear hn
  go_enter Try.func52, Try.ntmps52
  go_wp2
  go_loopw [4, 5] (fun v i wr => ∃ k : Nat, i = .int .i64 k ∧ k ≤ n ∧ wr.ownsRow B 53 1 v k (((rdL t).take k).map (Value.int .i8)) ∧ Below B w wr ∧ Hid (∀ p (hp : p < t.size), p < k → rdB t[p] ≠ -2)) (fun _ i _ => n - (RowKit.intOf i).toNat)
  case atStart => exact ⟨0, rfl, Nat.zero_le _, by rw [← hB]; exact World.ownsRow_made w #[] 0 (Nat.le_refl _) (by decide) rfl, (Below.refl _ _).alloc (by omega) _, fun p hp h => absurd h (Nat.not_lt_zero _)⟩
  case round =>
    obtain ⟨k, rfl, hk, hown, hBl, hI⟩ := hrel
    have hsz := hBl.size
    clear hB
    have hlen : (rdL t).length = n := by rw [rdL_length]; exact HN.out
    have HLEN := Lib.hid hlen
    clear hlen
    by_cases hlt : k < n
    · have hlt' : k < t.size := by rw [HN.out]; exact hlt
      have KEY := Lib.hid (rdL_take hlt')
      have hsB : B ≤ wr.heap.size := by have := HB.out; omega
      have hb1 : k + 1 ≤ maxLen := by unfold maxLen; omega
      have HR := Lib.hid (show rdB t[k] = if (t[k].toNat : Int) = 45 then -1 else if (t[k].toNat : Int) = 48 then 0 else if (t[k].toNat : Int) = 43 then 1 else -2 from rfl)
      have HBAD := Lib.hid (goodB_bad (t := t) (k := k) hlt')
      have HNX : Hid (rdB t[k] ≠ -2 → ∀ p (hp : p < t.size), p < k + 1 → rdB t[p] ≠ -2) := fun h p hp h2 => by
        by_cases e : p = k
        · subst e; exact h
        · exact hI.out p hp (by omega)
      obtain ⟨X, hX⟩ : ∃ X, ((rdL t).take k).map (Value.int .i8) = X := ⟨_, rfl⟩
      rw [hX] at hown KEY
      have HXE := Lib.hid hX
      clear hX
      obtain ⟨y, hy⟩ : ∃ y, rdB t[k] = y := ⟨_, rfl⟩
      rw [hy] at KEY HR HBAD HNX
      clear hy
      by_cases h1 : (t[k].toNat : Int) = 45
      · have hcb : ((t[k].toNat : Int) == 45) = true := by rw [beq_iff_eq]; exact h1
        have hy := HR.out.trans (if_pos h1)
        subst hy
        clear h1
        clear HBAD
        go_wp2_with (at_builtin; refine wpList_append_own _ rfl _ _ 22 rfl B 53 i00 (.int .i8 0) 1 1 Try.underlying22 hi hz0 hz1 hz2 rfl (by decide) _ _ _ rfl (hown.alloc _) ⟨wr.heap.size, 0, none⟩ 1 1 [.int .i8 (-1)] rfl rfl ?c1 ?c2 ?c3 ?c4 ?c5 ?_)
        case c1 => exact new1 _ _ _
        case c2 => simp [Value.oneCell']
        case c3 => exact hb1
        case c4 => omega
        case c5 => simp; omega
        intro v' w1 hown' hgrow _
        have hb' := own_grow hown hBl hsB hgrow
        have HO := Lib.hid (show w1.ownsRow B 53 1 v' (k + 1) (((rdL t).take (k + 1)).map (Value.int .i8)) by rw [← KEY.out]; exact hown')
        clear hown' hgrow hown hBl
        go_wp2
        go_roundw
        case rel => exact ⟨k + 1, by simp, by omega, HO.out, hb', HNX.out (by decide)⟩
        case measure => simp [RowKit.intOf]; omega
      · have hcb : ((t[k].toNat : Int) == 45) = false := by rw [beq_eq_false_iff_ne]; exact h1
        by_cases h2 : (t[k].toNat : Int) = 48
        · have hcc : ((t[k].toNat : Int) == 48) = true := by rw [beq_iff_eq]; exact h2
          have hy := (HR.out.trans (if_neg h1)).trans (if_pos h2)
          subst hy
          clear h1 h2
          clear HBAD
          go_wp2_with (at_builtin; refine wpList_append_own _ rfl _ _ 22 rfl B 53 i00 (.int .i8 0) 1 1 Try.underlying22 hi hz0 hz1 hz2 rfl (by decide) _ _ _ rfl (hown.alloc _) ⟨wr.heap.size, 0, none⟩ 1 1 [.int .i8 0] rfl rfl ?c1 ?c2 ?c3 ?c4 ?c5 ?_)
          case c1 => exact new1 _ _ _
          case c2 => simp [Value.oneCell']
          case c3 => exact hb1
          case c4 => omega
          case c5 => simp; omega
          intro v' w1 hown' hgrow _
          have hb' := own_grow hown hBl hsB hgrow
          have HO := Lib.hid (show w1.ownsRow B 53 1 v' (k + 1) (((rdL t).take (k + 1)).map (Value.int .i8)) by rw [← KEY.out]; exact hown')
          clear hown' hgrow hown hBl
          go_wp2
          go_roundw
          case rel => exact ⟨k + 1, by simp, by omega, HO.out, hb', HNX.out (by decide)⟩
          case measure => simp [RowKit.intOf]; omega
        · have hcc : ((t[k].toNat : Int) == 48) = false := by rw [beq_eq_false_iff_ne]; exact h2
          by_cases h3 : (t[k].toNat : Int) = 43
          · have hcd : ((t[k].toNat : Int) == 43) = true := by rw [beq_iff_eq]; exact h3
            have hy := ((HR.out.trans (if_neg h1)).trans (if_neg h2)).trans (if_pos h3)
            subst hy
            clear h1 h2 h3
            clear HBAD
            go_wp2_with (at_builtin; refine wpList_append_own _ rfl _ _ 22 rfl B 53 i00 (.int .i8 0) 1 1 Try.underlying22 hi hz0 hz1 hz2 rfl (by decide) _ _ _ rfl (hown.alloc _) ⟨wr.heap.size, 0, none⟩ 1 1 [.int .i8 1] rfl rfl ?c1 ?c2 ?c3 ?c4 ?c5 ?_)
            case c1 => exact new1 _ _ _
            case c2 => simp [Value.oneCell']
            case c3 => exact hb1
            case c4 => omega
            case c5 => simp; omega
            intro v' w1 hown' hgrow _
            have hb' := own_grow hown hBl hsB hgrow
            have HO := Lib.hid (show w1.ownsRow B 53 1 v' (k + 1) (((rdL t).take (k + 1)).map (Value.int .i8)) by rw [← KEY.out]; exact hown')
            clear hown' hgrow hown hBl
            go_wp2
            go_roundw
            case rel => exact ⟨k + 1, by simp, by omega, HO.out, hb', HNX.out (by decide)⟩
            case measure => simp [RowKit.intOf]; omega
          · have hcd : ((t[k].toNat : Int) == 43) = false := by rw [beq_eq_false_iff_ne]; exact h3
            have hy := ((HR.out.trans (if_neg h1)).trans (if_neg h2)).trans (if_neg h3)
            subst hy
            have HG := Lib.hid (HBAD.out rfl)
            have HO := Lib.hid (show wr.ownsRow B 53 1 u4 k X from hown)
            have HXO := Lib.hid (show OwnL .i8 B wr ((rdL t).take k) u4 from OwnL.of_row hown (by rw [List.length_take, HLEN.out]; omega) HXE.out.symm)
            clear h1 h2 h3 hown
            go_wp2
            go_ret2
            exact ⟨u4, _, by rw [HG.out]; rfl, by rw [HB.out]; exact hBl, by rw [HB.out]; exact HXO.out, fun h => by rw [HG.out] at h; cases h⟩
    · obtain rfl : k = n := by omega
      have HG := Lib.hid (goodB_good (t := t) fun p hp => hI.out p hp (by have := HN.out; omega))
      have HXO := Lib.hid (show OwnL .i8 B wr (rdL t) u4 from OwnL.of_row hown HLEN.out.symm (by rw [List.take_of_length_le (by rw [HLEN.out]; exact Nat.le_refl _)]))
      clear hown
      go_wp2
      go_ret2
      exact ⟨u4, _, by rw [HG.out]; rfl, by rw [HB.out]; exact hBl, by rw [HB.out]; exact HXO.out, fun _ => rfl⟩
end Go.Proofs.Ytlkbnpgembgdfaa.Sx
