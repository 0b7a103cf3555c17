/-
  Opposite digits: the model's loop.
-/
import Derived.Test.YteemkophifcimaaV3
import Derived.OwnWalk
import Derived.Laws.AppendOwn
namespace Go.Proofs.Yteemkophifcimaa.Sx
open Go Go.RowKit
set_option linter.unusedVariables false
set_option linter.unusedSimpArgs false

theorem OwnL.of_row {K : IntKind} {w : World} {n : Nat} {e : TypeId} {v : Value} {l : List Int} {m : Nat} {xs : List Value} (h : w.ownsRow n e 1 v m xs) (hm : m = l.length) (hx : xs = l.map (Value.int K)) : OwnL K n w l v := by
  subst hx hm
  obtain ⟨h1, ⟨rfl, h3⟩ | ⟨g, cap, cur, rfl, h2, h3, h4, h5, h6, h7⟩⟩ := h
  · exact .inl ⟨rfl, List.length_eq_zero_iff.1 h3⟩
  · refine .inr ⟨g, 0, cap, cur, e, rfl, h2, h3, h4, by omega, fun i x hx => ?_⟩
    have hi : i < l.length := (List.getElem?_eq_some_iff.1 hx).1
    have h8 : (cur.toList.take (l.length * 1))[i]? = some (.int K x) := by rw [h7, List.getElem?_map, hx]; rfl
    rw [List.getElem?_take, if_pos (by omega)] at h8
    simpa using h8
theorem new1 (w : World) (x : Value) (t : TypeId) : ∀ (j : Nat) (u : Value), [x][j]? = some u → (w.alloc (.cells #[x] t)).cell? ((⟨w.heap.size, 0, none⟩ : Addr).add j) = some u := by
  intro j u h
  have hb : (w.alloc (.cells #[x] t)).heap[w.heap.size]? = some (.cells #[x] t (0, 0)) := by show (w.heap.push _)[w.heap.size]? = _; simp
  cases j with
  | zero =>
    cases h
    show (w.alloc (.cells #[x] t)).cell? ⟨w.heap.size, 0 + 0, none⟩ = _
    rw [Lib.cell_of_heap hb]; rfl
  | succ j => simp at h
theorem own_grow {w wr w1 : World} {B : Nat} {e t : TypeId} {v x : Value} {n : Nat} {xs : List Value} (hown : wr.ownsRow B e 1 v n xs) (hBl : Below B w wr) (hB : B ≤ wr.heap.size) (hg : (wr.alloc (.cells #[x] t)).grownBy w1 v.ownBlock) : Below B w w1 :=
  (hBl.alloc hB _).grown hg (Nat.le_trans hB (by simp)) fun k hk => (hown.lt k hk).1
/-- The opposite list. -/
def negL (l : List Int) : List Int := l.map fun x => -x
theorem negL_take {l : List Int} {k : Nat} (h : k < l.length) : ((negL (l.take k)).map (Value.int .i8)) ++ [Value.int .i8 (-(l.getD k 0))] = (negL (l.take (k + 1))).map (Value.int .i8) := by
  rw [List.take_succ_eq_append_getElem h, List.getD_eq_getElem?_getD, List.getElem?_eq_getElem h]
  unfold negL
  rw [List.map_append, List.map_append]
  rfl
set_option maxRecDepth 1000000 in
set_option maxHeartbeats 4000000 in
theorem neg_some (b o c : Nat) (l : List Int) (w : World) (hlen : l.length ≤ 1099511627776) (hd : ∀ x ∈ l, -1 ≤ x ∧ x ≤ 1) (hcs : ∀ i x, l[i]? = some x → w.cell? ⟨b, o + i, none⟩ = some (.int .i8 x)) :
    Calls Try.prog 40 #[.slice (some ⟨b, o, none⟩) l.length c] w fun e w' => ∃ v, e = .returned v ∧ Below w.heap.size w w' ∧ OwnL .i8 w.heap.size w' (negL l) v := by
  have hlB : ∀ W : World, (Builtin.len_ #[22] 3 #[.slice (some ⟨b, o, none⟩) l.length c]).run Try.prog W = .ok (.int .i64 l.length) W := fun W => rfl
  obtain ⟨n, hn⟩ : ∃ n, l.length = n := ⟨_, rfl⟩
  rw [hn] at hlen hlB ⊢
  have HN := Lib.hid hn
  have HC := Lib.hid hcs
  have HD := Lib.hid hd
  obtain ⟨i0, hi, hz0, hz1, hz2⟩ := info_parts info8
  obtain ⟨B, hB⟩ : ∃ B, w.heap.size = B := ⟨_, rfl⟩
  have HB := Lib.hid hB
  clear hn hcs hd
  go_enter Try.func40, Try.ntmps40
  go_wp2
  go_loopw [3, 4] (fun v i wr => ∃ k : Nat, i = .int .i64 k ∧ k ≤ n ∧ wr.ownsRow B 58 1 v k ((negL (l.take k)).map (Value.int .i8)) ∧ Below B w wr) (fun _ i _ => n - (RowKit.intOf i).toNat)
  case atStart => exact ⟨0, rfl, Nat.zero_le _, by rw [← hB]; exact World.ownsRow_made w #[] 0 (Nat.le_refl _) (by decide) rfl, (Below.refl _ _).alloc (by omega) _⟩
  case round =>
    obtain ⟨k, rfl, hk, hown, hBl⟩ := hrel
    clear hB
    have hsz := hBl.size
    by_cases hlt : k < n
    · have hl : k < l.length := by rw [HN.out]; exact hlt
      have hcw := HC.out k _ (getD_some hl)
      have hxd := HD.out _ (getD_mem hl)
      have KEY := Lib.hid (negL_take hl)
      have hc : wr.cell? ⟨b, o + k, none⟩ = some (.int .i8 (l.getD k 0)) := by
        rw [← hcw]
        exact hBl.cell (p := ⟨b, o + k, none⟩) (by have := cell_lt hcw; have := HB.out; show b < B; have : b < w.heap.size := cell_lt hcw; omega)
      have hsw : B ≤ wr.heap.size := by have := HB.out; omega
      have hb1 : k + 1 ≤ maxLen := by unfold maxLen; omega
      generalize l.getD k 0 = x at hc hxd KEY
      have h3 : x = -1 ∨ x = 0 ∨ x = 1 := by omega
      clear hcw hxd hl
      rcases h3 with rfl | rfl | rfl
      · go_wp2_with (at_builtin; refine wpList_append_own _ rfl _ _ 22 rfl B 58 i0 (.int .i8 0) 1 1 Try.underlying22 hi hz0 hz1 hz2 rfl (by decide) _ _ _ rfl (hown.alloc _) ⟨wr.heap.size, 0, none⟩ 1 1 [.int .i8 1] rfl rfl ?c1 ?c2 ?c3 ?c4 ?c5 ?_)
        case c1 => exact new1 _ _ _
        case c2 => simp [Value.oneCell']
        case c3 => exact hb1
        case c4 => omega
        case c5 => simp; omega
        intro v' w1 hown' hgrow _
        have hb' := own_grow hown hBl hsw hgrow
        have ho : w1.ownsRow B 58 1 v' (k + 1) ((negL (l.take (k + 1))).map (Value.int .i8)) := by rw [← KEY.out]; exact hown'
        have HO := Lib.hid ho
        have HB' := Lib.hid hb'
        clear hown' hgrow ho hb' hown hBl
        go_wp2
        go_roundw
        case rel => exact ⟨k + 1, by simp, by omega, HO.out, HB'.out⟩
        case measure => simp [RowKit.intOf]; omega
      · go_wp2_with (at_builtin; refine wpList_append_own _ rfl _ _ 22 rfl B 58 i0 (.int .i8 0) 1 1 Try.underlying22 hi hz0 hz1 hz2 rfl (by decide) _ _ _ rfl (hown.alloc _) ⟨wr.heap.size, 0, none⟩ 1 1 [.int .i8 0] rfl rfl ?c1 ?c2 ?c3 ?c4 ?c5 ?_)
        case c1 => exact new1 _ _ _
        case c2 => simp [Value.oneCell']
        case c3 => exact hb1
        case c4 => omega
        case c5 => simp; omega
        intro v' w1 hown' hgrow _
        have hb' := own_grow hown hBl hsw hgrow
        have ho : w1.ownsRow B 58 1 v' (k + 1) ((negL (l.take (k + 1))).map (Value.int .i8)) := by rw [← KEY.out]; exact hown'
        have HO := Lib.hid ho
        have HB' := Lib.hid hb'
        clear hown' hgrow ho hb' hown hBl
        go_wp2
        go_roundw
        case rel => exact ⟨k + 1, by simp, by omega, HO.out, HB'.out⟩
        case measure => simp [RowKit.intOf]; omega
      · go_wp2_with (at_builtin; refine wpList_append_own _ rfl _ _ 22 rfl B 58 i0 (.int .i8 0) 1 1 Try.underlying22 hi hz0 hz1 hz2 rfl (by decide) _ _ _ rfl (hown.alloc _) ⟨wr.heap.size, 0, none⟩ 1 1 [.int .i8 (-1)] rfl rfl ?c1 ?c2 ?c3 ?c4 ?c5 ?_)
        case c1 => exact new1 _ _ _
        case c2 => simp [Value.oneCell']
        case c3 => exact hb1
        case c4 => omega
        case c5 => simp; omega
        intro v' w1 hown' hgrow _
        have hb' := own_grow hown hBl hsw hgrow
        have ho : w1.ownsRow B 58 1 v' (k + 1) ((negL (l.take (k + 1))).map (Value.int .i8)) := by rw [← KEY.out]; exact hown'
        have HO := Lib.hid ho
        have HB' := Lib.hid hb'
        clear hown' hgrow ho hb' hown hBl
        go_wp2
        go_roundw
        case rel => exact ⟨k + 1, by simp, by omega, HO.out, HB'.out⟩
        case measure => simp [RowKit.intOf]; omega
    · obtain rfl : k = n := by omega
      have hf : OwnL .i8 B wr (negL l) _ := OwnL.of_row hown (by unfold negL; rw [List.length_map]; exact HN.out.symm) (by rw [List.take_of_length_le (by rw [HN.out]; exact Nat.le_refl _)])
      have HF := Lib.hid hf
      clear hf hown
      go_wp2
      go_ret
      exact ⟨_, rfl, by rw [HB.out]; exact hBl, by rw [HB.out]; exact HF.out⟩
end Go.Proofs.Yteemkophifcimaa.Sx
