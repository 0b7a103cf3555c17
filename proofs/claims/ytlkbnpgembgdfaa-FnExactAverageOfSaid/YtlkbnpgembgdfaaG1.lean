/-
  slices.Grow, slices.Concat at lists of digits.
-/
import Derived.Test.YtlkbnpgembgdfaaN1
import Derived.Lib.AppendZerosOnto
import Derived.Lib.SliceRun
import Derived.Lib.Walk
namespace Go.Proofs.Ytlkbnpgembgdfaa.Sx
open Go Go.RowKit Go.Lib
set_option linter.unusedVariables false
set_option linter.unusedSimpArgs false

theorem zeros_size (z : Array Value) (n : Nat) : (Builtin.zeroCells z n).size = n * z.size := by
  simp [Builtin.zeroCells]
set_option maxRecDepth 1000000 in
set_option maxHeartbeats 4000000 in
theorem grow8 (n : Nat) (w : World) (hn1 : 1 ≤ n) (hn : n ≤ 1099511627776) :
    Calls Try.prog 66 #[.slice none 0 0, .int .i64 n] w fun e w' => ∃ c, e = .returned (.slice (some ⟨w.heap.size, 0, none⟩) 0 c) ∧ Below w.heap.size w w' ∧ w'.ownsRow w.heap.size 53 1 (.slice (some ⟨w.heap.size, 0, none⟩) 0 c) 0 [] := by
  obtain ⟨i0, hi, hz0, hz1, hz2⟩ := info_parts info8
  have hrz : ∀ ty, (Builtin.append_ #[22, 3] ty #[.slice none 0 0, .int .i64 n]).run Try.prog w =
      .ok (.slice (some ⟨w.heap.size, 0, none⟩) n (grownCap w n 0 53)) (w.drew.alloc (.cells ((#[] : Array Value) ++ Builtin.zeroCells #[.int .i8 0] n ++ Builtin.zeroCells #[.int .i8 0] (grownCap w n 0 53 - n)) 53)) := fun ty => by
    have h := Lib.run_append_grow_zeros w 22 3 ty 53 i0 (.int .i8 0) .i64 .i64 Try.underlying22 Try.underlying3 hi hz0 none 0 0 [] (by rw [hz1]; exact run_firstCells_none w.drew 1 0 0 0) n (by omega) (by omega) (by omega) (by omega) (by rw [hz2]; omega) (by rw [hz2]; exact growslice_fits (by omega) (by omega))
    rw [Nat.zero_add] at h
    exact h
  have hGn : n ≤ grownCap w n 0 53 := grownCap_ge w _ _ _
  have hG63 := grownCap_le_maxLen w n 0 53 (by unfold maxLen; omega)
  obtain ⟨G, hG⟩ : ∃ G, G = grownCap w n 0 53 := ⟨_, rfl⟩
  rw [← hG] at hrz hGn hG63
  obtain ⟨cur, hcur⟩ : ∃ cur, cur = (#[] : Array Value) ++ Builtin.zeroCells #[.int .i8 0] n ++ Builtin.zeroCells #[.int .i8 0] (G - n) := ⟨_, rfl⟩
  rw [← hcur] at hrz
  have hsz : cur.size = G * 1 := by rw [hcur]; simp [zeros_size]; omega
  have hown : (w.drew.alloc (.cells cur 53)).ownsRow w.heap.size 53 1 (.slice (some ⟨w.heap.size, 0, none⟩) 0 G) 0 [] := World.ownsRow_made w.drew cur G (Nat.le_refl _) hG63 hsz
  have hB : Below w.heap.size w (w.drew.alloc (.cells cur 53)) := (Below.drew (Below.refl _ _)).alloc (Nat.le_refl _) _
  have hp : (n : Int) > 0 := by omega
  have hp2 : ¬ (n : Int) < 0 := by omega
  have hm := hG63
  unfold maxLen at hm
  have HO := Lib.hid hown
  have HB := Lib.hid hB
  clear hG hcur hsz hown hB hi hz0 hz1 hz2 hG63
  go_enter Try.func66, Try.ntmps66
  go_wp2_with (at_builtin; refine Lib.wpList_append_run _ rfl _ _ _ _ rfl _ _ rfl rfl _ _ (hrz _) ?_)
  all_goals (go_ret; exact ⟨_, rfl, HB.out, HO.out⟩)
/-- How many numbers some lists have in all. -/
def tot (ls : List (List Int)) : Nat := (ls.map List.length).sum
theorem tot_flat (ls : List (List Int)) : ls.flatten.length = tot ls := by simp [tot, List.length_flatten]
theorem tot_succ {ls : List (List Int)} {j : Nat} (h : j < ls.length) : tot (ls.take (j + 1)) = tot (ls.take j) + (ls.getD j []).length := by
  rw [List.take_succ_eq_append_getElem h, List.getD_eq_getElem?_getD, List.getElem?_eq_getElem h]
  unfold tot
  rw [List.map_append, List.sum_append]
  simp
theorem tot_le (ls : List (List Int)) (j : Nat) : tot (ls.take j) ≤ tot ls := by
  have h : tot ls = tot (ls.take j) + tot (ls.drop j) := by
    unfold tot
    rw [← List.sum_append, ← List.map_append, List.take_append_drop]
  omega
theorem flat_succ {ls : List (List Int)} {j : Nat} (h : j < ls.length) : (ls.take j).flatten ++ ls.getD j [] = (ls.take (j + 1)).flatten := by
  rw [List.take_succ_eq_append_getElem h, List.getD_eq_getElem?_getD, List.getElem?_eq_getElem h, List.flatten_append]
  simp [-List.flatten_append]
/-- Some slices, one behind the other. -/
structure Parts (w : World) (g : Nat) (ls : List (List Int)) : Prop where
  mk ::
  cell : ∀ j, j < ls.length → ∃ b o c, w.cell? ⟨g, j, none⟩ = some (.slice (some ⟨b, o, none⟩) (ls.getD j []).length c) ∧ ∀ i x, (ls.getD j [])[i]? = some x → w.cell? ⟨b, o + i, none⟩ = some (.int .i8 x)
theorem Parts.keep {w w' : World} {n g : Nat} {ls : List (List Int)} (h : Parts w g ls) (hn : w.heap.size ≤ n) (hB : Below n w w') : Parts w' g ls := ⟨fun j hj => by
  obtain ⟨b, o, c, h1, h2⟩ := h.cell j hj
  refine ⟨b, o, c, (hB.cell (p := ⟨g, j, none⟩) (Nat.lt_of_lt_of_le (cell_lt h1) hn)).trans h1, fun i x hx => ?_⟩
  have := h2 i x hx
  exact (hB.cell (p := ⟨b, o + i, none⟩) (Nat.lt_of_lt_of_le (cell_lt this) hn)).trans this⟩
set_option maxRecDepth 1000000 in
set_option maxHeartbeats 4000000 in
theorem concat8 (g : Nat) (ls : List (List Int)) (w : World) (hp : Parts w g ls) (h1 : 1 ≤ tot ls) (hlen : tot ls ≤ 1099511627776) (hm : ls.length ≤ 1000) :
    Calls Try.prog 38 #[.slice (some ⟨g, 0, none⟩) ls.length ls.length] w fun e w' => ∃ b cp cs ty, e = .returned (.slice (some ⟨b, 0, none⟩) (tot ls) cp) ∧ Below w.heap.size w w' ∧ w.heap.size ≤ b ∧ w'.heap[b]? = some (.cells cs ty (0, 0)) ∧ tot ls ≤ cp ∧ cp ≤ 9223372036854775807 ∧ tot ls ≤ cs.size ∧ RowAt .i8 cs 0 ls.flatten := by
  obtain ⟨m, hmm⟩ : ∃ m, ls.length = m := ⟨_, rfl⟩
  have hlB : ∀ W : World, (Builtin.len_ #[96] 3 #[.slice (some ⟨g, 0, none⟩) m m]).run Try.prog W = .ok (.int .i64 m) W := fun W => rfl
  have hlB2 : ∀ (s : Option Addr) (n k : Nat) (W : World), (Builtin.len_ #[22] 3 #[.slice s n k]).run Try.prog W = .ok (.int .i64 n) W := fun s n k W => rfl
  rw [hmm] at hm ⊢
  obtain ⟨N, hN⟩ : ∃ N, tot ls = N := ⟨_, rfl⟩
  rw [hN] at h1 hlen ⊢
  have gr := grow8 N w h1 hlen
  have HM := Lib.hid hmm
  have HN := Lib.hid hN
  have HP := Lib.hid hp
  have HG := Lib.hid gr
  obtain ⟨i0, hi, hz0, hz1, hz2⟩ := info_parts info8
  obtain ⟨B, hB⟩ : ∃ B, w.heap.size = B := ⟨_, rfl⟩
  have HB := Lib.hid hB
  clear hmm hN hp gr hB
  go_enter Try.func38, Try.ntmps38
  go_wp2
  go_loop [3, 5, 11] (fun sz s i => ∃ j : Nat, i = .int .i64 j ∧ j ≤ m ∧ ∃ k : Nat, sz = .int .i64 k ∧ Hid (k = tot (ls.take j)) ∧ k ≤ N) (fun _ _ i => m - (RowKit.intOf i).toNat)
  case atStart => exact ⟨0, rfl, Nat.zero_le _, 0, rfl, rfl, Nat.zero_le _⟩
  case round =>
    obtain ⟨j, rfl, hj, k, rfl, hk, hkN⟩ := hrel
    by_cases hlt : j < m
    · have hl : j < ls.length := by rw [HM.out]; exact hlt
      obtain ⟨b, o, c, hc, _⟩ := HP.out.cell j hl
      have K1 := Lib.hid (tot_succ hl)
      have K2 := tot_le ls (j + 1)
      have K3 : k + (ls.getD j []).length ≤ N := by rw [K1.out, ← hk.out, HN.out] at K2; exact K2
      clear K2 hl
      generalize hq : (ls.getD j []).length = q at *
      have HQ := Lib.hid hq
      clear hq
      have nn : ¬ (k : Int) + q < 0 := by omega
      go_wp2
      go_round
      case rel => exact ⟨j + 1, by simp, by omega, k + q, by simp, by show _ = _; rw [K1.out, ← hk.out], K3⟩
      case measure => simp [RowKit.intOf]; omega
    · obtain rfl : j = m := by omega
      have : k = N := by rw [← HN.out, hk.out, List.take_of_length_le (by rw [HM.out]; exact Nat.le_refl _)]
      subst this
      go_wp2_with (go_at_call 66; refine HG.out.mono ?_)
      rintro e W1 x rfl hB1 ho1
      have hp1 := HP.out.keep (Nat.le_refl _) hB1
      have hs1 := hB1.size
      have HP1 := Lib.hid hp1
      clear hp1
      go_wp2
      go_loopw [6, 8, 27] (fun v s i wr => ∃ p : Nat, i = .int .i64 p ∧ p ≤ j ∧ wr.ownsRow B 53 1 v (tot (ls.take p)) ((ls.take p).flatten.map (Value.int .i8)) ∧ Below B w wr ∧ W1.heap.size ≤ wr.heap.size ∧ Below B W1 wr) (fun _ _ i _ => j - (RowKit.intOf i).toNat)
      case atStart => exact ⟨0, rfl, Nat.zero_le _, by rw [← HB.out]; exact ho1, by rw [← HB.out]; exact hB1, Nat.le_refl _, Below.refl _ _⟩
      case round =>
        obtain ⟨p, rfl, hpj, hown, hBw, hsw, hB1w⟩ := hrel
        by_cases hlt2 : p < j
        · have hl : p < ls.length := by rw [HM.out]; exact hlt2
          obtain ⟨b, o, c, hc, hcs⟩ := (HP.out.keep (n := B) (by rw [HB.out]; exact Nat.le_refl _) hBw).cell p hl
          have K1 := Lib.hid (tot_succ hl)
          have K2 := tot_le ls (p + 1)
          have K3 : tot (ls.take p) + (ls.getD p []).length ≤ k := by rw [K1.out, HN.out] at K2; exact K2
          have K4 := Lib.hid (flat_succ hl)
          have hnews : ∀ (t : Nat) (u : Value), ((ls.getD p []).map (Value.int .i8))[t]? = some u → wr.cell? ((⟨b, o, none⟩ : Addr).add t) = some u := fun t u ht => by
            rw [List.getElem?_map] at ht
            obtain ⟨y, hy, rfl⟩ := Option.map_eq_some_iff.1 ht
            have e : ((⟨b, o, none⟩ : Addr).add t) = ⟨b, o + t, none⟩ := by unfold Addr.add; split <;> simp_all
            rw [e]; exact hcs t y hy
          have HW := Lib.hid hnews
          have hone : ∀ u ∈ (ls.getD p []).map (Value.int .i8), u.oneCell' = true := fun u hu => by
            obtain ⟨y, _, rfl⟩ := List.mem_map.1 hu
            rfl
          have HO1 := Lib.hid hone
          have hsB : B ≤ wr.heap.size := by have := HB.out; omega
          have hlenq : ((ls.getD p []).map (Value.int .i8)).length = (ls.getD p []).length * 1 := by rw [List.length_map, Nat.mul_one]
          have HLQ := Lib.hid hlenq
          have hmx : tot (ls.take p) + (ls.getD p []).length ≤ maxLen := by unfold maxLen; omega
          clear K2 hl hcs hnews hone hlenq
          generalize hq : (ls.getD p []).length = q at *
          have HQ := Lib.hid hq
          clear hq
          generalize htk : tot (ls.take p) = tk at *
          have HTK := Lib.hid htk
          clear htk
          obtain ⟨X, hX⟩ : ∃ X, (ls.take p).flatten.map (Value.int .i8) = X := ⟨_, rfl⟩
          obtain ⟨Y, hY⟩ : ∃ Y, (ls.getD p []).map (Value.int .i8) = Y := ⟨_, rfl⟩
          rw [hX] at hown
          rw [hY] at HLQ HW HO1
          have HXX := Lib.hid hX
          have HYY := Lib.hid hY
          clear hX hY
          go_wp2_with (at_builtin; refine wpList_append_own _ rfl _ _ 22 rfl B 53 i0 (.int .i8 0) 1 1 Try.underlying22 hi hz0 hz1 hz2 rfl (by decide) _ _ _ rfl hown ⟨b, o, none⟩ q c Y rfl HLQ.out HW.out HO1.out hmx (by omega) hsB ?_)
          intro v' w1 hown' hgrow _
          have hb' : Below B w w1 := hBw.grown hgrow hsB fun t ht => (hown.lt t ht).1
          have hb2 : Below B W1 w1 := hB1w.grown hgrow hsB fun t ht => (hown.lt t ht).1
          have hs2 : W1.heap.size ≤ w1.heap.size := hb2.size
          have ho : w1.ownsRow B 53 1 v' (tot (ls.take (p + 1))) ((ls.take (p + 1)).flatten.map (Value.int .i8)) := by
            rw [K1.out, ← K4.out, List.map_append, HXX.out, HYY.out]; exact hown'
          have HOW := Lib.hid ho
          clear hown' hgrow ho hown hBw hB1w hc
          go_wp2
          go_roundw
          case rel => exact ⟨p + 1, by simp, by omega, HOW.out, hb', hs2, hb2⟩
          case measure => simp [RowKit.intOf]; omega
        · obtain rfl : p = j := by omega
          have hall : ls.take p = ls := List.take_of_length_le (by rw [HM.out]; exact Nat.le_refl _)
          rw [hall, HN.out] at hown
          have hex : ∃ gg cp cs, u6 = .slice (some ⟨gg, 0, none⟩) k cp ∧ B ≤ gg ∧ wr.heap[gg]? = some (.cells cs 53 (0, 0)) ∧ k ≤ cp ∧ cp ≤ 9223372036854775807 ∧ k ≤ cs.size ∧ RowAt .i8 cs 0 ls.flatten := by
            obtain ⟨e1, ⟨_, e2⟩ | ⟨gg, cp, cur, e2, e3, e4, e5, e6, e7, e8⟩⟩ := hown
            · omega
            · refine ⟨gg, cp, cur, e2, e3, e4, e5, by unfold maxLen at e6; omega, by omega, fun i x hx => ?_⟩
              have hi : i < ls.flatten.length := (List.getElem?_eq_some_iff.1 hx).1
              have h8 : (cur.toList.take (k * 1))[i]? = some (.int .i8 x) := by rw [e8, List.getElem?_map, hx]; rfl
              rw [tot_flat, HN.out] at hi
              rw [List.getElem?_take, if_pos (by omega)] at h8
              simpa using h8
          have HE := Lib.hid hex
          clear hex hown hall
          go_wp2
          go_ret
          obtain ⟨gg, cp, cs, e2, e3, e4, e5, e6, e7, e8⟩ := HE.out
          exact ⟨gg, cp, cs, _, by rw [← e2]; rfl, by rw [HB.out]; exact hBw, by rw [HB.out]; exact e3, e4, e5, e6, e7, e8⟩
end Go.Proofs.Ytlkbnpgembgdfaa.Sx
