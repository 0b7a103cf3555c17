/-
  The digits that a machine tells, by the code.
-/
import Derived.Test.YteemkophifcimaaK15
import Derived.Test.YteemkophifcimaaLE
import Derived.WalkSpells
import Derived.Laws.MakeOwn
namespace Go.Proofs.Yteemkophifcimaa.Sx
open Go Go.RowKit
set_option linter.unusedVariables false
set_option linter.unusedSimpArgs false

set_option maxRecDepth 1000000 in
set_option maxHeartbeats 8000000 in
theorem digsI_code (A B C D n : Int) (a b : List Int) (z : Int) (h0 : z ≠ 0) (hT : DoesT 23 A B C D a b n [] 0 z) : DoesD 28 A B C D a b n [] 0 z := by
  intro w v0 v1 i0 i1 l0 l1
  obtain ⟨W, hW, hB, x⟩ := boxM w A B C D
  obtain ⟨V, hV, hB2, y⟩ := boxK W v0 v1 26
  have x := x.keep hB2
  have bV := hB.trans (hB2.mono hB.size)
  have tn := hT V v0 v1 (i0.keep bV) (i1.keep bV) (fun q h => Nat.lt_of_lt_of_le (l0 q h) bV.size) (fun q h => Nat.lt_of_lt_of_le (l1 q h) bV.size)
  obtain ⟨c0, c1, c2, c3⟩ := x.c
  have d0 := y.c0
  have d1 := y.c1
  have zb : (z == 0) = false := by rw [beq_eq_false_iff_ne]; exact h0
  have HB := Lib.hid bV
  clear x y i0 i1 l0 l1 hB hB2 bV
  go_enter Try.func28, Try.ntmps28
  go_wp2_with (go_at_call 23; refine tn.mono ?_)
  rintro e W2 hg
  have hg := hg.mono HB.out
  obtain ⟨⟨s, k, rfl, hr⟩, b2⟩ := hg
  have HB2 := Lib.hid b2
  clear hr tn b2 c0 c1 c2 c3 d0 d1
  try dsimp only
  go_wp2
  refine bodyPost_ret (v := .tuple #[.slice none 0 0, .int .i64 0, .int .i64 z]) (by simp [results, Try.results28, go_sem]) rfl ?_
  exact ⟨⟨_, _, rfl, OwnL.nil⟩, HB2.out⟩
set_option maxRecDepth 1000000 in
set_option maxHeartbeats 8000000 in
theorem digsI_yes (A B C D n : Int) (a b : List Int) (m0 : Mo) (L : Nat) (hn : 0 ≤ n ∧ n ≤ 60) (hL : L ≤ 460) (hT : DoesT 23 A B C D a b n (trL a b m0 L) L 0) : DoesD 28 A B C D a b n (ddL a b m0 L) ((L : Int) - (ddL a b m0 L).length) 0 := by
  intro w v0 v1 i0 i1 l0 l1
  obtain ⟨m, rfl⟩ : ∃ m : Nat, n = m := ⟨n.toNat, by omega⟩
  obtain ⟨W, hW, hB, x⟩ := boxM w A B C D
  obtain ⟨V, hV, hB2, y⟩ := boxK W v0 v1 26
  have x := x.keep hB2
  have bV := hB.trans (hB2.mono hB.size)
  have tn := hT V v0 v1 (i0.keep bV) (i1.keep bV) (fun q h => Nat.lt_of_lt_of_le (l0 q h) bV.size) (fun q h => Nat.lt_of_lt_of_le (l1 q h) bV.size)
  obtain ⟨c0, c1, c2, c3⟩ := x.c
  have d0 := y.c0
  have d1 := y.c1
  have HB := Lib.hid bV
  have hlB : ∀ (s : Option Addr) (n k : Nat) (W : World), (Builtin.len_ #[41] 3 #[.slice s n k]).run Try.prog W = .ok (.int .i64 n) W := fun s n k W => rfl
  have hlB8 : ∀ (s : Option Addr) (n k : Nat) (W : World), (Builtin.len_ #[22] 3 #[.slice s n k]).run Try.prog W = .ok (.int .i64 n) W := fun s n k W => rfl
  obtain ⟨i00, hi, hz0, hz1, hz2⟩ := info_parts info8
  obtain ⟨cs0, hcs0, hmk⟩ : ∃ cs0 : Array Value, cs0.size = m * 1 ∧ ∀ W : World, (Instr.makeSlice 22 (.int .i64 0) (.int .i64 m)).run Try.prog W = .ok (.slice (some ⟨W.heap.size, 0, none⟩) 0 m) (W.alloc (.cells cs0 58)) := by
    refine ⟨madeCells (Value.int .i8 0).cells (((m : Int).toNat) * i00.size), by rw [size_madeCells, hz1]; simp, fun W => ?_⟩
    have := run_make (P := Try.prog) W 22 58 i00 (.int .i8 0) Try.underlying22 hi hz0 .i64 .i64 0 m (by omega) (by omega) (by rw [hz2]; omega) (by omega)
    rw [this]
    simp only [Int.toNat_natCast, Int.toNat_zero]
  have m60 : m ≤ 60 := by omega
  clear x y i0 i1 l0 l1 hB hB2 bV hn
  go_enter Try.func28, Try.ntmps28
  go_wp2_with (go_at_call 23; refine tn.mono ?_)
  rintro e W2 hg
  have hg := hg.mono HB.out
  obtain ⟨⟨s, k, rfl, hr⟩, b2⟩ := hg
  obtain ⟨W3, hW3, b3, r3⟩ : ∃ W3, W2.alloc (.cells cs0 58) = W3 ∧ Below W2.heap.size W2 W3 ∧ W3.ownsRow w.heap.size 58 1 (.slice (some ⟨W2.heap.size, 0, none⟩) 0 m) 0 [] := ⟨_, rfl, (Below.refl _ _).alloc (Nat.le_refl _) _, World.ownsRow_made W2 cs0 m b2.size (by unfold maxLen; omega) hcs0⟩
  have HR3 := Lib.hid (row_underN (k := 0) hr b3)
  have HB3 := Lib.hid (b2.trans (b3.mono b2.size))
  clear hr tn b2 b3 c0 c1 c2 c3 d0 d1 hcs0
  try dsimp only
  go_wp2
  go_loopw [11, 13, 28] (fun out tp i wr => ∃ j : Nat, j ≤ L ∧ i = .int .i64 j ∧ wr.ownsRow w.heap.size 58 1 out (ddL a b m0 j).length ((ddL a b m0 j).map (Value.int .i8)) ∧ wr.ownsRow w.heap.size 60 6 (.slice s L k) L (trL a b m0 L) ∧ Below w.heap.size w wr) (fun _ _ i _ => L - (RowKit.intOf i).toNat)
  case atStart => exact ⟨0, Nat.zero_le _, rfl, r3, HR3.out, HB3.out⟩
  case round =>
    obtain ⟨j, hj, rfl, ho, ht, hb⟩ := hrel
    obtain ⟨so, co, rfl⟩ := own_formN ho
    by_cases hlt : j < L
    · obtain ⟨g, cp, hf, _, _⟩ := ht.form (by omega)
      obtain rfl : s = some ⟨g, 0, none⟩ := by simp at hf; exact hf.1
      obtain ⟨hs, d, A', B', C', D', y0, y1, y2, y3, y4, y5⟩ := trL_turny a b m0 L j hlt
      have c0 := row_cell ht y0
      have c1 := row_cell ht y1
      have c2 := row_cell ht y2
      have c3 := row_cell ht y3
      have c4 := row_cell ht y4
      have c5 := row_cell ht y5
      have e0 : hasM (runM a b m0 j).m = hs := by
        have := trL_at a b m0 (r := 0) (by omega) hlt
        rw [show j * 6 + 0 = j * 6 from rfl, y0] at this
        have h2 : some (Value.bool hs) = some (.bool (hasM (runM a b m0 j).m)) := this
        simpa using h2.symm
      have e1 : tdM a b m0 j = d := by
        have := trL_at a b m0 (r := 1) (by omega) hlt
        rw [y1] at this
        have h2 : some (Value.int .i8 d) = some (.int .i8 (tdM a b m0 j)) := this
        simpa using h2.symm
      have hsucc : ddL a b m0 (j + 1) = if hs = true then ddL a b m0 j ++ [d] else ddL a b m0 j := by
        show (if hasM (runM a b m0 j).m = true then ddL a b m0 j ++ [tdM a b m0 j] else ddL a b m0 j) = _
        rw [e0, e1]
      have hLen := ddL_le a b m0 j
      have g0 : (j : Int) < L := by omega
      obtain ⟨V1, hV1, bV1, t1⟩ := boxN wr #[.bool false, .int .i8 0, .int .i64 0, .int .i64 0, .int .i64 0, .int .i64 0] 60
      have t1 : T6 V1 wr.heap.size _ _ _ _ _ _ := t1
      obtain ⟨V2, hV2, t2, ov⟩ := t1.all (.bool hs) (.int .i8 d) (.int .i64 A') (.int .i64 B') (.int .i64 C') (.int .i64 D')
      have bb2 := bV1.trans (ov.bel _ (Nat.le_refl _))
      have ht2 := row_underN (k := 0) ht bb2
      have ho2 := row_underN (k := 0) ho bb2
      have hb2 := hb.trans (bb2.mono hb.size)
      obtain ⟨p0, p1, p2, p3, p4, p5⟩ := t1.c
      have j0 := t1.f 0
      have j1 := t1.f 1
      have j2 := t1.f 2
      have j3 := t1.f 3
      have j4 := t1.f 4
      have j5 := t1.f 5
      obtain ⟨q0, q1, q2, q3, q4, q5⟩ := t2.c
      have gz1 : V1.cell? ⟨g, j * 6, none⟩ = some (.bool hs) := row_cell (row_underN (k := 0) ht bV1) y0
      clear e0 e1 hf y0 y1 y2 y3 y4 y5 t1 t2 ov bV1 bb2 ht ho hb gz1
      cases hs
      · simp only [if_neg (show ¬ (false = true) by simp)] at hsucc
        have HSUC := Lib.hid hsucc
        have HO := Lib.hid ho2
        have HTT := Lib.hid ht2
        have HBB := Lib.hid hb2
        clear hsucc ho2 ht2 hb2
        go_wp2
        go_roundw
        case rel => exact ⟨j + 1, by omega, by first | rfl | simp, by rw [HSUC.out]; exact HO.out, HTT.out, HBB.out⟩
        case measure => simp [RowKit.intOf]; omega
      · simp only [if_true] at hsucc
        obtain ⟨XS, hXS⟩ : ∃ X, (ddL a b m0 j).map (Value.int .i8) = X := ⟨_, rfl⟩
        rw [hXS] at ho2
        have SEP := Lib.hid (own_typesN ht2 ho2 tyT8)
        have zb : w.heap.size ≤ V2.heap.size := hb2.size
        have HTT := Lib.hid ht2
        have HBB := Lib.hid hb2
        have HXS := Lib.hid hXS
        have HSUC := Lib.hid hsucc
        obtain ⟨N, hN⟩ : ∃ N, (ddL a b m0 j).length = N := ⟨_, rfl⟩
        rw [hN] at ho2 hLen SEP ⊢
        have HNN := Lib.hid hN
        clear hsucc hXS ht2 hb2 hN
        go_wp2_with (at_builtin; refine wpList_append_own _ rfl _ _ 22 rfl w.heap.size 58 i00 (.int .i8 0) 1 1 Try.underlying22 hi hz0 hz1 hz2 rfl (by decide) _ _ _ rfl (ho2.alloc _) ⟨V2.heap.size, 0, none⟩ 1 1 [.int .i8 d] rfl rfl ?d1 ?d2 ?d3 ?d4 ?d5 ?_)
        try (case d1 => exact newN _ _ _)
        case d2 => simp [Value.oneCell']
        case d3 => unfold maxLen; omega
        case d4 => omega
        case d5 => first | omega | (simp; omega)
        intro v' w9 hown9 hgrow _
        have hgrow : (V2.alloc (.cells #[.int .i8 d] 58)).grownBy w9 (Value.slice so N co).ownBlock := hgrow
        have bb9 := Lib.hid ((HBB.out.alloc HBB.out.size _).grown hgrow (by have := HBB.out.size; simp; omega) fun m hm => (ho2.lt m hm).1)
        have t9 := Lib.hid ((HTT.out.alloc _).kept hgrow SEP.out)
        have row9 := Lib.hid (show w9.ownsRow w.heap.size 58 1 v' (ddL a b m0 (j + 1)).length ((ddL a b m0 (j + 1)).map (Value.int .i8)) from by
          rw [HSUC.out, List.length_append, List.map_append, HXS.out, HNN.out]
          exact hown9)
        clear hown9 hgrow ho2
        go_wp2
        go_roundw
        case rel => exact ⟨j + 1, by omega, by first | rfl | simp, row9.out, t9.out, bb9.out⟩
        case measure => simp [RowKit.intOf]; omega
    · obtain rfl : j = L := by omega
      have hLen := ddL_le a b m0 j
      have HO := Lib.hid (OwnL.of_row ho rfl rfl)
      have HBB := Lib.hid hb
      obtain ⟨N, hN⟩ : ∃ N, (ddL a b m0 j).length = N := ⟨_, rfl⟩
      rw [hN] at hLen
      have HNN := Lib.hid hN
      have e1 : IntKind.i64.wrap ((j : Int) - (N : Int)) = (j : Int) - N := by rw [IntKind.wrap_i64]; omega
      rw [hN]
      clear ho ht hb hN
      go_wp2
      refine bodyPost_ret (v := .tuple #[.slice so N co, .int .i64 ((j : Int) - N), .int .i64 0]) (by simp [results, Try.results28, go_sem]) rfl ?_
      exact ⟨⟨_, _, by rw [HNN.out], HO.out⟩, HBB.out⟩
end Go.Proofs.Yteemkophifcimaa.Sx
