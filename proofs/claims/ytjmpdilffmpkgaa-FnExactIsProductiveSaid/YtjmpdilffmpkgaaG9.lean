/-
  Whether a tree is productive, by the code: the sweeps; both answers.
-/
import Derived.Test.YtjmpdilffmpkgaaG8
import Derived.Test.YtjmpdilffmpkgaaG2
namespace Go.Proofs.Ytjmpdilffmpkgaa.Sx
open Go Go.RowKit
set_option linter.unusedVariables false
set_option linter.unusedSimpArgs false

/-- What stands while it is looked. -/
structure PI (w wr : World) (tb : Nat) (v : Value) (N : Nat) (T : List Fk) (g : Nat → Bool) : Prop where
  mk ::
  b : wr.heap[w.heap.size]? = some (.cells #[v] 30 (0, 0))
  t : wr.heap[tb]? = some (.cells (gB N g) 4 (0, 0))
  o : wr.ownsRow w.heap.size 62 5 v N (fkC T)
  bl : Below w.heap.size w wr
theorem PI.keep {w wr X : World} {tb : Nat} {v : Value} {N : Nat} {T : List Fk} {g : Nat → Bool} (h : PI w wr tb v N T g) (hb : Below wr.heap.size wr X) : PI w X tb v N T g :=
  ⟨at_keep h.b hb, at_keep h.t hb, row_underN (k := 0) h.o hb, h.bl.trans (hb.mono h.bl.size)⟩
theorem tyFB : (62 : TypeId) ≠ 4 := of_decide_eq_true (by kernel_rfl)
theorem PI.set {w wr : World} {tb i : Nat} {v : Value} {N : Nat} {T : List Fk} {g g' : Nat → Bool} {x : Bool} (h : PI w wr tb v N T g) (hi : i < N) (htb : w.heap.size < tb) (h1 : g' i = x) (h2 : ∀ j, j ≠ i → g' j = g j) : ∃ X, wr.setCell ⟨tb, i, none⟩ (.bool x) = X ∧ PI w X tb v N T g' := by
  obtain ⟨X, hX, q1, q2, q3, q4⟩ := set3 (i := i) h.t (.bool x)
  have g9 : wr.grownBy X (some tb) := ⟨(q2 0 (Nat.zero_le _)).os, (q2 0 (Nat.zero_le _)).tape, (q2 0 (Nat.zero_le _)).output, (q2 0 (Nat.zero_le _)).size, fun j _ hj => q3 j (fun e => hj (by rw [e]))⟩
  exact ⟨X, hX, (q3 _ (by omega)).trans h.b, by rw [q1, gB_set hi h1 h2], h.o.kept g9 (.inr (row_ne h.o h.t tyFB)), h.bl.trans (q2 _ (Nat.le_of_lt htb))⟩
theorem prdB_all (T : List Fk) {N : Nat} (h : T.length = N) : prdB T = allB N (prdK T N) := by
  unfold prdB allB
  rw [h]
set_option maxRecDepth 1000000 in
set_option maxHeartbeats 16000000 in
theorem productiveI {w : World} {N : Nat} {vn : Value} {T T2 : List Fk} (hF : IsF w T vn) (hT : trB T = true) (hN : N = (rch T N).length) (hN1 : 1 ≤ N) (hNn : N ≤ T.length) (hq : ∀ i, i < N → i < (rch T i).length) (hT2 : rcT T (rch T N) N = T2) :
    Calls Try.prog 31 #[.agg #[vn]] w fun e w' => e = .returned (.bool (prdB T2)) ∧ Below w.heap.size w w' := by
  obtain ⟨ib, hb, hb0, hb1, hb2⟩ := info_parts infoB
  obtain ⟨sn, cn, rfl⟩ := hF.form
  obtain ⟨n, hn⟩ : ∃ n, T.length = n := ⟨_, rfl⟩
  have hT1 := (trB_iff.1 hT).1
  have hTV2 : trB T2 = true := by rw [← hT2]; exact rcT_ok hT hN hN1 hNn hq
  have hTL2 : T2.length = N := by rw [← hT2]; exact rcT_len _ _ _
  rw [hn] at hT1 hNn
  have hlT : ∀ (s : Option Addr) (n k : Nat) (W : World), (Builtin.len_ #[28] 3 #[.slice s n k]).run Try.prog W = .ok (.int .i64 n) W := fun s n k W => rfl
  have hmk : ∀ W : World, (Instr.makeSlice 75 (.int .i64 N) (.int .i64 N)).run Try.prog W = .ok (.slice (some ⟨W.heap.size, 0, none⟩) N N) (W.alloc (.cells (madeCells #[.bool false] N) 4)) := fun W => by
    have := run_make (P := Try.prog) W 75 4 ib (.bool false) Try.underlying75 hb hb0 .i64 .i64 N N (by omega) (Int.le_refl _) (by rw [hb2]; omega) (by omega)
    rw [this, hb1]
    simp [Value.cells]
  have hfd : madeCells #[.bool false] N = gB N (fun _ => false) := by
    apply Array.ext_getElem?
    intro i
    rcases Nat.lt_or_ge i N with hi | hi
    · rw [gB_at hi]
      simp [madeCells, hi, Nat.mod_one]
    · rw [Array.getElem?_eq_none (by rw [size_madeCells]; exact hi), Array.getElem?_eq_none (by rw [gB_size]; exact hi)]
  rw [hfd] at hmk
  obtain ⟨W1, hW1, b1, x1⟩ := boxN w #[.slice sn n cn] 30
  have rs := reachedI (hF.keep b1) hT hN (by rw [hn]; exact hNn) hq
  rw [hT2] at rs
  rw [hn] at rs ⊢
  have z1 : W1.heap.size = w.heap.size + 1 := by rw [← hW1]; simp
  have c0 : W1.cell? ⟨w.heap.size, 0, none⟩ = some (.slice sn n cn) := by rw [Lib.cell_of_heap x1]; rfl
  have S1 := Lib.hid (And.intro x1 b1)
  have ZZ := Lib.hid z1
  have TV := Lib.hid hTV2
  have TL := Lib.hid hTL2
  have PB := Lib.hid (prdB_all T2 hTL2)
  have hN60 : N ≤ 60 := by omega
  clear hF hT hN hq hT2 hn hb hb0 hb1 hb2 hfd x1 b1 z1 hTV2 hTL2
  go_enter Try.func31, Try.ntmps31
  go_wp2_with (go_at_call 35; refine rs.mono ?_)
  rintro e W2 ⟨v, rfl, g2⟩
  try dsimp only
  have row2 := g2.row
  rw [TL.out] at row2
  obtain ⟨s2, k2, rfl⟩ := own_formN row2
  have x2 := at_keep S1.out.1 g2.below
  obtain ⟨W3, hW3, q1, q2, q3, q4⟩ := set3 (i := 0) x2 (.slice s2 N k2)
  have g3 : W2.grownBy W3 (some w.heap.size) := ⟨(q2 0 (Nat.zero_le _)).os, (q2 0 (Nat.zero_le _)).tape, (q2 0 (Nat.zero_le _)).output, (q2 0 (Nat.zero_le _)).size, fun j _ hj => q3 j (fun e => hj (by rw [e]))⟩
  have o3 := row2.kept g3 (.inr (row_ne row2 x2 tyFTr))
  have bl3 : Below w.heap.size w W3 := (S1.out.2.trans (g2.below.mono S1.out.2.size)).trans (q2 _ (Nat.le_refl _))
  obtain ⟨W4, hW4, b4, x4⟩ := boxN W3 (gB N (fun _ => false)) 4
  have hz := g2.below.size
  have hz1 := ZZ.out
  have P0 := Lib.hid (show PI w W4 W3.heap.size (.slice s2 N k2) N T2 (prdK T2 0) from ⟨at_keep q1 b4, x4, row_underN (k := 0) (row_mono o3 (by omega)) b4, bl3.trans (b4.mono (by omega))⟩)
  have TB := Lib.hid (show w.heap.size < W3.heap.size by omega)
  have c2 : W2.cell? ⟨w.heap.size, 0, none⟩ = some (.slice sn n cn) := by rw [Lib.cell_of_heap x2]; rfl
  have f2 : W2.frozen? ⟨w.heap.size, 0, none⟩ = false := Lib.frozen_of_heap x2 _
  have c3 : W3.cell? ⟨w.heap.size, 0, none⟩ = some (.slice s2 N k2) := by rw [Lib.cell_of_heap q1]; rfl
  have c4 : W4.cell? ⟨w.heap.size, 0, none⟩ = some (.slice s2 N k2) := by rw [Lib.cell_of_heap P0.out.b]; rfl
  clear rs g2 row2 x2 q1 q2 q3 q4 g3 o3 bl3 b4 x4 hz hz1 c0
  go_wp2
  go_loopw [17] (fun rv wr => ∃ r : Nat, r ≤ N ∧ rv = .int .i64 r ∧ PI w wr W3.heap.size (.slice s2 N k2) N T2 (prdK T2 r)) (fun rv _ => N - (RowKit.intOf rv).toNat)
  case atStart => exact ⟨0, Nat.zero_le _, rfl, P0.out⟩
  case round =>
    obtain ⟨r, hr, rfl, hp⟩ := hrel
    have c4 : wr.cell? ⟨w.heap.size, 0, none⟩ = some (.slice s2 N k2) := by rw [Lib.cell_of_heap hp.b]; rfl
    have HP := Lib.hid hp
    clear hp
    by_cases hlt : r < N
    · go_wp2
      go_loopw [22] (fun iv wr => ∃ i : Nat, i ≤ N ∧ iv = .int .i64 i ∧ PI w wr W3.heap.size (.slice s2 N k2) N T2 (sweepK T2 (prdK T2 r) i)) (fun iv _ => N - (RowKit.intOf iv).toNat)
      case atStart => exact ⟨0, Nat.zero_le _, rfl, HP.out⟩
      case round =>
        obtain ⟨i, hi, rfl, hp⟩ := hrel
        by_cases hilt : i < N
        · have gi : (i : Int) < N := by omega
          obtain ⟨g, hg⟩ : ∃ g, sweepK T2 (prdK T2 r) i = g := ⟨_, rfl⟩
          have hsk : sweepK T2 (prdK T2 r) (i + 1) = stepP T2 g i := by show stepP T2 (sweepK T2 (prdK T2 r) i) i = _; rw [hg]
          rw [hg] at hp
          have hIF := IsF.of_row hp.o TL.out.symm
          obtain ⟨gn, o, c', hf, x0, x1, x2, x3, x4⟩ := hIF.node (i := i) (by rw [TL.out]; exact hilt)
          rw [TL.out] at hf
          obtain ⟨rfl, rfl⟩ : s2 = some ⟨gn, o, none⟩ ∧ k2 = c' := by simp at hf; exact hf
          have hnn := fkB_iff.1 ((trB_iff.1 TV.out).2 _ (List.mem_of_getElem? (fkAt_get (by rw [TL.out]; exact hilt))))
          rw [TL.out] at hnn
          have hkk : (fkAt T2 i).k = 1 ∨ (fkAt T2 i).k = 2 := by
            rcases hnn.2.2.2 with h | h
            · exact .inl h.1
            · exact .inr h.1
          obtain ⟨⟨K, D, P, Q, R⟩, hff⟩ : ∃ f, fkAt T2 i = f := ⟨_, rfl⟩
          rw [hff] at x0 x1 x2 x3 x4 hkk hnn
          simp only at x0 x1 x2 x3 x4 hkk hnn
          obtain ⟨y0, rfl⟩ : ∃ y : Nat, P = y := ⟨P.toNat, by omega⟩
          obtain ⟨y1, rfl⟩ : ∃ y : Nat, Q = y := ⟨Q.toNat, by omega⟩
          obtain ⟨y2, rfl⟩ : ∃ y : Nat, R = y := ⟨R.toNat, by omega⟩
          have hy : y0 < N ∧ y1 < N ∧ y2 < N := by omega
          obtain ⟨W5, hW5, b5, x5⟩ := boxN wr #[.int .i8 K, .int .i8 D, .int .i16 y0, .int .i16 y1, .int .i16 y2] 62
          have HP5 := Lib.hid (hp.keep b5)
          have SK := Lib.hid hsk
          have HFF := Lib.hid hff
          obtain ⟨d0, d1, d2, d3, d4⟩ := cells5 x5
          clear hp hIF hf hsk hg hff b5 x5 hnn c4
          rcases hkk with rfl | rfl
          · have qq := askQ D y0 y1 y2 W5
            have ta := tA y0 y1 y2
            go_wp2_with (go_at_call 53; refine qq.mono ?_)
            first | (rintro e W6 rfl b6) | (rintro e W6 ⟨rfl, b6⟩)
            try dsimp only
            obtain ⟨W7, hW7, b7, x7⟩ := boxN W6 #[.int .i16 y0, .int .i16 y1, .int .i16 y2] 83
            have hp7 := (HP5.out.keep b6).keep b7
            obtain ⟨a0, a1, a2⟩ := cells3 x7
            obtain ⟨t0, ht0⟩ : ∃ x, g y0 = x := ⟨_, rfl⟩
            obtain ⟨t1, ht1⟩ : ∃ x, g y1 = x := ⟨_, rfl⟩
            obtain ⟨t2, ht2⟩ : ∃ x, g y2 = x := ⟨_, rfl⟩
            have e0 : W7.cell? ⟨W3.heap.size, y0, none⟩ = some (.bool t0) := by rw [Lib.cell_of_heap hp7.t, gB_at hy.1, ht0]
            have e1 : W7.cell? ⟨W3.heap.size, y1, none⟩ = some (.bool t1) := by rw [Lib.cell_of_heap hp7.t, gB_at hy.2.1, ht1]
            have e2 : W7.cell? ⟨W3.heap.size, y2, none⟩ = some (.bool t2) := by rw [Lib.cell_of_heap hp7.t, gB_at hy.2.2, ht2]
            have e3 : W7.cell? ⟨W3.heap.size, i, none⟩ = some (.bool (g i)) := by rw [Lib.cell_of_heap hp7.t, gB_at hilt]
            have f3 : W7.frozen? ⟨W3.heap.size, i, none⟩ = false := Lib.frozen_of_heap hp7.t _
            have gy0 : (y0 : Int) < N := by omega
            have gy1 : (y1 : Int) < N := by omega
            have gy2 : (y2 : Int) < N := by omega
            have hst : stepP T2 g i i = (t0 && t1 && t2) := by
              unfold stepP
              rw [if_pos rfl, HFF.out, if_neg (show ¬ (1 : Int) = 2 by decide)]
              show (g y0 && g y1 && g y2) = _
              rw [ht0, ht1, ht2]
            have FIN := Lib.hid (show ∀ x, (t0 && t1 && t2) = x → ∃ X, W7.setCell ⟨W3.heap.size, i, none⟩ (.bool x) = X ∧ PI w X W3.heap.size (.slice (some ⟨gn, o, none⟩) N k2) N T2 (sweepK T2 (prdK T2 r) (i + 1)) from fun x hx => by
              obtain ⟨X, hX, hpX⟩ := hp7.set (g' := stepP T2 g i) hilt TB.out (hst.trans hx) (fun j hj => by unfold stepP; rw [if_neg hj])
              exact ⟨X, hX, by rw [SK.out]; exact hpX⟩)
            clear qq b6 b7 x7 hp7 ht0 ht1 ht2 hst d0 d1 d2 d3 d4 x0 x1 x2 x3 x4 hy
            cases t0
            · obtain ⟨X, hX, hpX⟩ := FIN.out false rfl
              have HPX := Lib.hid hpX
              clear hpX
              go_wp2
              exact ⟨⟨i + 1, by omega, rfl, HPX.out⟩, by simp [RowKit.intOf]; omega⟩
            · cases t1
              · obtain ⟨X, hX, hpX⟩ := FIN.out false rfl
                have HPX := Lib.hid hpX
                clear hpX
                go_wp2
                exact ⟨⟨i + 1, by omega, rfl, HPX.out⟩, by simp [RowKit.intOf]; omega⟩
              · cases t2
                · obtain ⟨X, hX, hpX⟩ := FIN.out false rfl
                  have HPX := Lib.hid hpX
                  clear hpX
                  go_wp2
                  exact ⟨⟨i + 1, by omega, rfl, HPX.out⟩, by simp [RowKit.intOf]; omega⟩
                · obtain ⟨X, hX, hpX⟩ := FIN.out true rfl
                  have HPX := Lib.hid hpX
                  clear hpX
                  go_wp2
                  exact ⟨⟨i + 1, by omega, rfl, HPX.out⟩, by simp [RowKit.intOf]; omega⟩
          · have qq := tellQ D y0 y1 y2 W5
            have tb := tB D y0
            have tc := tC D y0
            go_wp2_with (go_at_call 53; refine qq.mono ?_)
            first | (rintro e W6 rfl b6) | (rintro e W6 ⟨rfl, b6⟩)
            try dsimp only
            obtain ⟨W7, hW7, b7, x7⟩ := boxN W6 #[.int .i8 D, .int .i16 y0] 85
            have hp7 := (HP5.out.keep b6).keep b7
            have e3 : W7.cell? ⟨W3.heap.size, i, none⟩ = some (.bool (g i)) := by rw [Lib.cell_of_heap hp7.t, gB_at hilt]
            have f3 : W7.frozen? ⟨W3.heap.size, i, none⟩ = false := Lib.frozen_of_heap hp7.t _
            have hst : stepP T2 g i i = true := by
              unfold stepP
              rw [if_pos rfl, HFF.out, if_pos rfl]
            obtain ⟨X, hX, hpX⟩ := hp7.set (g' := stepP T2 g i) hilt TB.out hst (fun j hj => by unfold stepP; rw [if_neg hj])
            have HPX := Lib.hid (show PI w X W3.heap.size (.slice (some ⟨gn, o, none⟩) N k2) N T2 (sweepK T2 (prdK T2 r) (i + 1)) from by rw [SK.out]; exact hpX)
            clear qq b6 b7 x7 hp7 hst hpX d0 d1 d2 d3 d4 x0 x1 x2 x3 x4 hy
            go_wp2
            exact ⟨⟨i + 1, by omega, rfl, HPX.out⟩, by simp [RowKit.intOf]; omega⟩
        · obtain rfl : i = N := by omega
          have e : sweepK T2 (prdK T2 r) i = prdK T2 (r + 1) := by
            show _ = sweepK T2 (prdK T2 r) T2.length
            rw [TL.out]
          rw [e] at hp
          have S1 := Lib.hid hp
          clear hp e
          go_wp2
          exact ⟨⟨r + 1, by omega, rfl, S1.out⟩, by simp [RowKit.intOf]; omega⟩
    · obtain rfl : r = N := by omega
      have ct := containsI HP.out.t hN60
      have HBL := Lib.hid HP.out.bl
      clear c4
      go_wp2_with (go_at_call 54; refine ct.mono ?_)
      first | (rintro e W9 rfl hs) | (rintro e W9 ⟨rfl, hs⟩)
      rw [hs.out]
      clear hs ct
      try dsimp only
      go_wp2
      go_ret
      exact ⟨by rw [PB.out]; simp, HBL.out⟩
end Go.Proofs.Ytjmpdilffmpkgaa.Sx
