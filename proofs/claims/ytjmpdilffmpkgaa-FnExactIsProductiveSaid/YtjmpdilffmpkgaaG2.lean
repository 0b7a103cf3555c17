/-
  Whether a tree is productive, by the model.
-/
import Derived.Test.YtjmpdilffmpkgaaG1
namespace Go.Proofs.Ytjmpdilffmpkgaa.Sx
open Go Go.RowKit
set_option linter.unusedVariables false
set_option linter.unusedSimpArgs false

/-- Which nodes are good, told by their numbers among those reached. -/
def gdA (n : Nat) (R : List Nat) (g : Nat → Bool) : Array Value := ((List.range n).map fun v => Value.bool (if v ∈ R then g (R.idxOf v) else false)).toArray
theorem gdA_size (n : Nat) (R : List Nat) (g : Nat → Bool) : (gdA n R g).size = n := by simp [gdA]
theorem gdA_at {n v : Nat} {R : List Nat} {g : Nat → Bool} (h : v < n) (hv : v ∈ R) : (gdA n R g)[v]? = some (.bool (g (R.idxOf v))) := by
  unfold gdA
  rw [List.getElem?_toArray, List.getElem?_map, List.getElem?_range h]
  show some (Value.bool (if v ∈ R then g (R.idxOf v) else false)) = _
  rw [if_pos hv]
theorem gdA_any {n v : Nat} {R : List Nat} {g : Nat → Bool} (h : v < n) : (gdA n R g)[v]? = some (.bool (if v ∈ R then g (R.idxOf v) else false)) := by
  unfold gdA
  rw [List.getElem?_toArray, List.getElem?_map, List.getElem?_range h]
  rfl
/-- What is behind one look at a node. -/
theorem stepP_is {T2 : List Fk} {R : List Nat} {f : Fk} {g : Nat → Bool} {i : Nat} {b : Bool} (hf : fkAt T2 i = reF R f) (hb : b = if f.k = 2 then true else (g (R.idxOf f.n0.toNat) && g (R.idxOf f.n1.toNat) && g (R.idxOf f.n2.toNat))) : stepP T2 g i = fun j => if j = i then b else g j := by
  funext j
  unfold stepP
  rw [hf, hb]
  unfold reF
  by_cases h2 : f.k = 2
  · simp only [h2, if_true]
  · simp only [h2, if_false, Int.toNat_natCast]
    rw [if_neg (show ¬ (1 : Int) = 2 by decide)]
theorem gdA_set {n i : Nat} {R : List Nat} {g : Nat → Bool} (hR : Fnd R n) (hi : i < R.length) (b : Bool) : (gdA n R g).setIfInBounds (R.getD i 0) (.bool b) = gdA n R (fun j => if j = i then b else g j) := by
  have hm : R.getD i 0 ∈ R := by rw [List.getD_eq_getElem?_getD, List.getElem?_eq_getElem hi]; exact List.getElem_mem hi
  have hlt := hR.lt _ hm
  apply Array.ext_getElem?
  intro v
  rw [Array.getElem?_setIfInBounds]
  by_cases e : R.getD i 0 = v
  · subst e
    rw [if_pos rfl, if_pos (by rw [gdA_size]; exact hlt), gdA_at hlt hm]
    show _ = some (Value.bool (if R.idxOf (R.getD i 0) = i then b else g (R.idxOf (R.getD i 0))))
    rw [idx_inj hR.nd hi, if_pos rfl]
  · rw [if_neg e]
    rcases Nat.lt_or_ge v n with hv | hv
    · by_cases hvR : v ∈ R
      · rw [gdA_at hv hvR, gdA_at hv hvR]
        show _ = some (Value.bool (if R.idxOf v = i then b else g (R.idxOf v)))
        rw [if_neg (fun h => e (by rw [← h]; exact idx_get hvR))]
      · unfold gdA
        rw [List.getElem?_toArray, List.getElem?_toArray, List.getElem?_map, List.getElem?_map, List.getElem?_range hv]
        simp [hvR]
    · rw [Array.getElem?_eq_none (by rw [gdA_size]; exact hv), Array.getElem?_eq_none (by rw [gdA_size]; exact hv)]
/-- All to which a node goes on are reached. -/
theorem ways_in {T : List Fk} {N i : Nat} (hT : trB T = true) (hq : ∀ i, i < N → i < (rch T i).length) (hi : i < N) : ∀ y ∈ waysF (fkAt T ((rch T N).getD i 0)), y ∈ rch T N := by
  intro y hy
  have h1 := rch_mono hT (i := i + 1) (j := N) (by omega) hq
  have h0 := rch_mono hT (i := i) (j := N) (by omega) hq
  rw [pre_get h0 (hq i hi)] at hy
  exact h1.subset ((rch_pre hT i (hq i hi)).2 y hy)
/-- What is known when k ways have been looked at. -/
def okK (b0 b1 b2 : Bool) : Nat → Bool
  | 0 => true
  | 1 => b0
  | 2 => b0 && b1
  | _ => b0 && b1 && b2
set_option maxRecDepth 1000000 in
set_option maxHeartbeats 16000000 in
theorem productiveS {w : World} {bt N : Nat} {T : List Fk} {v : Value} (h : HereT w bt T v) (hT : trB T = true) (hN : N = (rch T N).length) (hN1 : 1 ≤ N) (hNT : N ≤ T.length) (hq : ∀ i, i < N → i < (rch T i).length) :
    Calls Try.prog 28 #[.pointer (some ⟨bt, 0, none⟩)] w fun e w' => e = .returned (.bool (prdB (rcT T (rch T N) N))) ∧ Below w.heap.size w w' := by
  obtain ⟨ib, hb, hb0, hb1, hb2⟩ := info_parts infoB
  have rs := reachedS h hT hN hNT hq
  have hfn := (rch_fnd hT N).1
  have hwin := fun i hi => ways_in (i := i) hT hq hi
  obtain ⟨s, cp, rfl⟩ := h.is.form
  obtain ⟨n, hn⟩ : ∃ n, T.length = n := ⟨_, rfl⟩
  rw [hn] at h hNT hfn
  have hT1 := (trB_iff.1 hT).1
  rw [hn] at hT1
  have HN := Lib.hid hn
  obtain ⟨RR, hRR⟩ : ∃ R, rch T N = R := ⟨_, rfl⟩
  have hRT : ∀ i, i < N → RR.getD i 0 < T.length := fun i hi => by rw [← hRR]; exact rch_lt hT (by omega)
  rw [hRR] at rs hfn hN hwin ⊢
  have hlB : ∀ (s : Option Addr) (n k : Nat) (W : World), (Builtin.len_ #[54] 3 #[.slice s n k]).run Try.prog W = .ok (.int .i64 n) W := fun s n k W => rfl
  have hlT : ∀ (s : Option Addr) (n k : Nat) (W : World), (Builtin.len_ #[28] 3 #[.slice s n k]).run Try.prog W = .ok (.int .i64 n) W := fun s n k W => rfl
  have hmk : ∀ W : World, (Instr.makeSlice 75 (.int .i64 n) (.int .i64 n)).run Try.prog W = .ok (.slice (some ⟨W.heap.size, 0, none⟩) n n) (W.alloc (.cells (madeCells #[.bool false] n) 4)) := fun W => by
    have := run_make (P := Try.prog) W 75 4 ib (.bool false) Try.underlying75 hb hb0 .i64 .i64 n n (by omega) (Int.le_refl _) (by rw [hb2]; omega) (by omega)
    rw [this, hb1]
    simp [Value.cells]
  have hfd : madeCells #[.bool false] n = gdA n RR (fun _ => false) := by
    apply Array.ext_getElem?
    intro i
    rcases Nat.lt_or_ge i n with hi | hi
    · rw [gdA_any hi]
      simp [madeCells, hi, Nat.mod_one]
    · rw [Array.getElem?_eq_none (by rw [size_madeCells]; exact hi), Array.getElem?_eq_none (by rw [gdA_size]; exact hi)]
  rw [hfd] at hmk
  have HT := Lib.hid fun (X : World) (hb : Below w.heap.size w X) => h.keep hb
  have TV := Lib.hid hT
  have HFN := Lib.hid hfn
  have HWI := Lib.hid hwin
  have HRT := Lib.hid hRT
  have HLN := Lib.hid hN
  have HQ := Lib.hid hq
  obtain ⟨T2, hT2⟩ : ∃ T2, rcT T RR N = T2 := ⟨_, rfl⟩
  have hTL : T2.length = N := by rw [← hT2]; exact rcT_len _ _ _
  have hTF : ∀ i, i < N → fkAt T2 i = reF RR (fkAt T (RR.getD i 0)) := fun i hi => by rw [← hT2]; exact rcT_fk hi
  rw [hT2]
  have HTL := Lib.hid hTL
  have HTF := Lib.hid hTF
  clear h hT hq hn hfd hb0 hb1 hb2 hfn hwin hRT hRR hT2 hTL hTF
  go_enter Try.func28, Try.ntmps28
  go_wp2_with (go_at_call 34; refine rs.mono ?_)
  rintro e W1 ⟨⟨sr, kr, rfl, rr⟩, b1⟩
  rw [← HLN.out] at rr ⊢
  try dsimp only
  obtain ⟨W2, hW2, hB2, x2⟩ := boxN W1 (gdA n RR (fun _ => false)) 4
  have q0 : W1.cell? ⟨bt, 0, none⟩ = some (.slice s n cp) := (HT.out W1 b1).c
  obtain ⟨gr, cpr, hfr, _, _⟩ := rr.form (by omega)
  obtain rfl : sr = some ⟨gr, 0, none⟩ := by simp at hfr; exact hfr.1
  have ST := Lib.hid (And.intro x2 (And.intro (row_underN (k := 0) rr hB2) (b1.trans (hB2.mono b1.size))))
  have ST9 := Lib.hid (show w.heap.size ≤ W1.heap.size from b1.size)
  clear rs rr b1 hB2 x2 hfr hN
  go_wp2
  go_loopw [5] (fun rv wr => ∃ r : Nat, r ≤ N ∧ rv = .int .i64 r ∧ wr.heap[W1.heap.size]? = some (.cells (gdA n RR (prdK T2 r)) 4 (0, 0)) ∧ wr.ownsRow w.heap.size 59 1 (.slice (some ⟨gr, 0, none⟩) N kr) N (vI RR) ∧ Below w.heap.size w wr) (fun rv _ => N - (RowKit.intOf rv).toNat)
  case atStart => exact ⟨0, Nat.zero_le _, rfl, ST.out.1, ST.out.2.1, ST.out.2.2⟩
  case round =>
    obtain ⟨r, hr, rfl, hgb, hrow, hbw⟩ := hrel
    by_cases hlt : r < N
    · have S0 := Lib.hid (And.intro hgb (And.intro hrow hbw))
      clear hgb hrow hbw
      go_wp2
      go_loopw [6] (fun iv wr => ∃ i : Nat, i ≤ N ∧ iv = .int .i64 i ∧ wr.heap[W1.heap.size]? = some (.cells (gdA n RR (sweepK T2 (prdK T2 r) i)) 4 (0, 0)) ∧ wr.ownsRow w.heap.size 59 1 (.slice (some ⟨gr, 0, none⟩) N kr) N (vI RR) ∧ Below w.heap.size w wr) (fun iv _ => N - (RowKit.intOf iv).toNat)
      case atStart => exact ⟨0, Nat.zero_le _, rfl, S0.out.1, S0.out.2.1, S0.out.2.2⟩
      case round =>
        obtain ⟨i, hi, rfl, hgb, hrow, hbw⟩ := hrel
        by_cases hilt : i < N
        · have hvT := HRT.out i hilt
          have hwi := HWI.out i hilt
          have hh := HT.out wr hbw
          obtain ⟨vv, hvv⟩ : ∃ y, RR.getD i 0 = y := ⟨_, rfl⟩
          have q1 : wr.cell? ⟨gr, i, none⟩ = some (.int .i16 vv) := by
            have := row_cell hrow (vI_at (by rw [← HLN.out]; exact hilt))
            rwa [hvv] at this
          rw [hvv] at hvT hwi
          have htf := HTF.out i hilt
          rw [hvv] at htf
          obtain ⟨g, o, c', hf, x0, x1, x2, x3, x4⟩ := hh.is.node hvT
          rw [HN.out] at hf hvT
          obtain ⟨rfl, rfl⟩ : s = some ⟨g, o, none⟩ ∧ cp = c' := by simp at hf; exact hf
          have hnn := fkB_iff.1 ((trB_iff.1 TV.out).2 _ (List.mem_of_getElem? (fkAt_get (by rw [HN.out]; exact hvT))))
          rw [HN.out] at hnn
          have hkk : (fkAt T vv).k = 1 ∨ (fkAt T vv).k = 2 := by
            rcases hnn.2.2.2 with h | h
            · exact .inl h.1
            · exact .inr h.1
          have q2 : wr.cell? ⟨bt, 0, none⟩ = some (.slice (some ⟨g, o, none⟩) n cp) := hh.c
          obtain ⟨⟨K, D, P, Q, R⟩, hff⟩ : ∃ f, fkAt T vv = f := ⟨_, rfl⟩
          rw [hff] at x0 x2 x3 x4 hkk hnn hwi htf
          simp only at x0 x2 x3 x4 hkk hnn
          obtain ⟨y0, rfl⟩ : ∃ y : Nat, P = y := ⟨P.toNat, by omega⟩
          obtain ⟨y1, rfl⟩ : ∃ y : Nat, Q = y := ⟨Q.toNat, by omega⟩
          obtain ⟨y2, rfl⟩ : ∃ y : Nat, R = y := ⟨R.toNat, by omega⟩
          obtain ⟨gs, hgs⟩ : ∃ gs, sweepK T2 (prdK T2 r) i = gs := ⟨_, rfl⟩
          have hsk : sweepK T2 (prdK T2 r) (i + 1) = stepP T2 gs i := by show stepP T2 (sweepK T2 (prdK T2 r) i) i = _; rw [hgs]
          rw [hgs] at hgb
          have gi : (i : Int) < N := by omega
          have hiR : i < RR.length := by rw [← HLN.out]; exact hilt
          have SK := Lib.hid hsk
          have HGB := Lib.hid hgb
          have HRW := Lib.hid hrow
          have HBW := Lib.hid hbw
          have HTFF := Lib.hid htf
          have HVV := Lib.hid hvv
          have HWW := Lib.hid hwi
          have gv : (vv : Int) < n := by omega
          clear hsk hgb hrow hbw htf hvv hwi hgs hff hf hh x1 hnn
          go_upto_region 9 with (fail)
          go_quiet (fail)
          go_wp2
          obtain ⟨X0, hX0⟩ : ∃ X, wr.drewN nq = X := ⟨_, rfl⟩
          have bd : Below wr.heap.size wr X0 := by rw [← hX0]; exact ⟨rfl, rfl, rfl, Nat.le_refl _, fun _ _ => rfl⟩
          have HGX := Lib.hid (at_keep HGB.out bd)
          have HRX := Lib.hid (row_underN (k := 0) HRW.out bd)
          have HBX := Lib.hid (HBW.out.trans (bd.mono HBW.out.size))
          have z0 : X0.cell? ⟨g, o + vv * 5, none⟩ = some (.int .i8 K) := by rw [← hX0]; exact x0
          have z2 : X0.cell? ⟨g, o + vv * 5 + 2, none⟩ = some (.int .i16 y0) := by rw [← hX0]; exact x2
          have z3 : X0.cell? ⟨g, o + vv * 5 + 3, none⟩ = some (.int .i16 y1) := by rw [← hX0]; exact x3
          have z4 : X0.cell? ⟨g, o + vv * 5 + 4, none⟩ = some (.int .i16 y2) := by rw [← hX0]; exact x4
          have q3 : X0.cell? ⟨gr, i, none⟩ = some (.int .i16 vv) := by rw [← hX0]; exact q1
          rw [hX0]
          clear bd x0 x2 x3 x4 q1 q2
          have cgv : X0.cell? ⟨W1.heap.size, vv, none⟩ = some (.bool (gs (RR.idxOf vv))) := by
            rw [Lib.cell_of_heap HGX.out, gdA_at hvT (by rw [← HVV.out, List.getD_eq_getElem?_getD, List.getElem?_eq_getElem hiR]; exact List.getElem_mem hiR)]
          have fgv : X0.frozen? ⟨W1.heap.size, vv, none⟩ = false := Lib.frozen_of_heap HGX.out _
          have FIN := Lib.hid (show ∀ b : Bool, (b = if K = 2 then true else (gs (RR.idxOf y0) && gs (RR.idxOf y1) && gs (RR.idxOf y2))) → ∃ X1, X0.setCell ⟨W1.heap.size, vv, none⟩ (.bool b) = X1 ∧ X1.heap[W1.heap.size]? = some (.cells (gdA n RR (sweepK T2 (prdK T2 r) (i + 1))) 4 (0, 0)) ∧ X1.ownsRow w.heap.size 59 1 (.slice (some ⟨gr, 0, none⟩) N kr) N (vI RR) ∧ Below w.heap.size w X1 from fun b hb => by
            obtain ⟨X1, hX1, r1, r2, r3, r4⟩ := set3 (i := vv) HGX.out (.bool b)
            have hg := gdA_set (g := gs) HFN.out hiR b
            rw [HVV.out] at hg
            rw [hg, ← stepP_is HTFF.out (by simpa using hb), ← SK.out] at r1
            refine ⟨X1, hX1, r1, ?_, HBX.out.trans (r2 _ ST9.out)⟩
            have hne := row_ne HRX.out HGX.out ty16B
            obtain ⟨p1, p2 | ⟨g, cap, cur, p2, p3, p4, p5⟩⟩ := HRX.out
            · exact ⟨p1, .inl p2⟩
            · exact ⟨p1, .inr ⟨g, cap, cur, p2, p3, (r3 _ (fun e => hne (by rw [p2, e]; rfl))).trans p4, p5⟩⟩)
          rcases hkk with rfl | rfl
          · have in0 : y0 ∈ RR := HWW.out _ (by simp [waysF])
            have in1 : y1 ∈ RR := HWW.out _ (by simp [waysF])
            have in2 : y2 ∈ RR := HWW.out _ (by simp [waysF])
            have l0 := HFN.out.lt _ in0
            have l1 := HFN.out.lt _ in1
            have l2 := HFN.out.lt _ in2
            obtain ⟨b0, hb0⟩ : ∃ b, gs (RR.idxOf y0) = b := ⟨_, rfl⟩
            obtain ⟨b1, hb1⟩ : ∃ b, gs (RR.idxOf y1) = b := ⟨_, rfl⟩
            obtain ⟨b2, hb2⟩ : ∃ b, gs (RR.idxOf y2) = b := ⟨_, rfl⟩
            have d0 : X0.cell? ⟨W1.heap.size, y0, none⟩ = some (.bool b0) := by rw [Lib.cell_of_heap HGX.out, gdA_at l0 in0, hb0]
            have d1 : X0.cell? ⟨W1.heap.size, y1, none⟩ = some (.bool b1) := by rw [Lib.cell_of_heap HGX.out, gdA_at l1 in1, hb1]
            have d2 : X0.cell? ⟨W1.heap.size, y2, none⟩ = some (.bool b2) := by rw [Lib.cell_of_heap HGX.out, gdA_at l2 in2, hb2]
            have gy0 : (y0 : Int) < n := by omega
            have gy1 : (y1 : Int) < n := by omega
            have gy2 : (y2 : Int) < n := by omega
            have HBB := Lib.hid (And.intro hb0 (And.intro hb1 hb2))
            clear in0 in1 in2 hb0 hb1 hb2 l0 l1 l2
            go_loopw [8, 9] (fun okv kv wr => ∃ k : Nat, k ≤ 3 ∧ kv = .int .i64 k ∧ okv = .bool (okK b0 b1 b2 k) ∧ X0 = wr) (fun _ kv _ => 3 - (RowKit.intOf kv).toNat)
            case atStart => exact ⟨0, by omega, rfl, rfl, rfl⟩
            case round =>
              obtain ⟨k, hk, rfl, rfl, rfl⟩ := hrel
              rcases (show k = 0 ∨ k = 1 ∨ k = 2 ∨ k = 3 by omega) with rfl | rfl | rfl | rfl
              · rw [show okK b0 b1 b2 0 = true from rfl]
                go_wp2
                first
                  | exact ⟨⟨1, by omega, rfl, by simp [okK], trivial⟩, by simp [RowKit.intOf]⟩
                  | exact ⟨⟨1, by omega, rfl, by simp [okK]⟩, by simp [RowKit.intOf]⟩
              · rw [show okK b0 b1 b2 1 = b0 from rfl]
                cases b0
                · go_wp2
                  first
                    | exact ⟨⟨2, by omega, rfl, by simp [okK], trivial⟩, by simp [RowKit.intOf]⟩
                    | exact ⟨⟨2, by omega, rfl, by simp [okK]⟩, by simp [RowKit.intOf]⟩
                · go_wp2
                  first
                    | exact ⟨⟨2, by omega, rfl, by simp [okK], trivial⟩, by simp [RowKit.intOf]⟩
                    | exact ⟨⟨2, by omega, rfl, by simp [okK]⟩, by simp [RowKit.intOf]⟩
              · rw [show okK b0 b1 b2 2 = (b0 && b1) from rfl]
                cases hbb : (b0 && b1)
                · have HBX2 := Lib.hid hbb
                  clear hbb
                  go_wp2
                  first
                    | exact ⟨⟨3, by omega, rfl, by show _ = Value.bool ((b0 && b1) && b2); rw [HBX2.out]; rfl, trivial⟩, by simp [RowKit.intOf]⟩
                    | exact ⟨⟨3, by omega, rfl, by show _ = Value.bool ((b0 && b1) && b2); rw [HBX2.out]; rfl⟩, by simp [RowKit.intOf]⟩
                · have HBX2 := Lib.hid hbb
                  clear hbb
                  go_wp2
                  first
                    | exact ⟨⟨3, by omega, rfl, by show _ = Value.bool ((b0 && b1) && b2); rw [HBX2.out]; rfl, trivial⟩, by simp [RowKit.intOf]⟩
                    | exact ⟨⟨3, by omega, rfl, by show _ = Value.bool ((b0 && b1) && b2); rw [HBX2.out]; rfl⟩, by simp [RowKit.intOf]⟩
              · obtain ⟨ob, hob⟩ : ∃ ob, okK b0 b1 b2 3 = ob := ⟨_, rfl⟩
                rw [hob]
                obtain ⟨X1, hX1, F1, F2, F3⟩ := FIN.out ob (by rw [← hob, if_neg (by decide), HBB.out.1, HBB.out.2.1, HBB.out.2.2]; rfl)
                have FF := Lib.hid (And.intro F1 (And.intro F2 F3))
                clear F1 F2 F3 hob
                go_wp2
                exact ⟨⟨i + 1, by omega, rfl, FF.out.1, FF.out.2.1, FF.out.2.2⟩, by simp [RowKit.intOf]; omega⟩
          · go_loopw [8, 9] (fun okv kv wr => kv = .int .i64 0 ∧ okv = .bool true ∧ X0 = wr) (fun _ kv _ => 0)
            case atStart => exact ⟨rfl, rfl, rfl⟩
            case round =>
              obtain ⟨rfl, rfl, rfl⟩ := hrel
              obtain ⟨X1, hX1, F1, F2, F3⟩ := FIN.out true (by rw [if_pos rfl])
              have FF := Lib.hid (And.intro F1 (And.intro F2 F3))
              clear F1 F2 F3
              go_wp2
              exact ⟨⟨i + 1, by omega, rfl, FF.out.1, FF.out.2.1, FF.out.2.2⟩, by simp [RowKit.intOf]; omega⟩
        · obtain rfl : i = N := by omega
          have e : sweepK T2 (prdK T2 r) i = prdK T2 (r + 1) := by
            show _ = sweepK T2 (prdK T2 r) T2.length
            rw [HTL.out]
          rw [e] at hgb
          have S1 := Lib.hid (And.intro hgb (And.intro hrow hbw))
          clear hgb hrow hbw e
          go_wp2
          exact ⟨⟨r + 1, by omega, rfl, S1.out.1, S1.out.2.1, S1.out.2.2⟩, by simp [RowKit.intOf]; omega⟩
    · obtain rfl : r = N := by omega
      have S0 := Lib.hid (And.intro hgb (And.intro hrow hbw))
      clear hgb hrow hbw
      go_wp2
      go_loopw [10] (fun jv wr => ∃ j : Nat, j ≤ r ∧ jv = .int .i64 j ∧ Hid (∀ q, q < j → prdK T2 r q = true) ∧ wr.heap[W1.heap.size]? = some (.cells (gdA n RR (prdK T2 r)) 4 (0, 0)) ∧ wr.ownsRow w.heap.size 59 1 (.slice (some ⟨gr, 0, none⟩) r kr) r (vI RR) ∧ Below w.heap.size w wr) (fun jv _ => r - (RowKit.intOf jv).toNat)
      case atStart => exact ⟨0, Nat.zero_le _, rfl, fun q hq => absurd hq (Nat.not_lt_zero _), S0.out.1, S0.out.2.1, S0.out.2.2⟩
      case round =>
        obtain ⟨j, hj, rfl, hbf, hgb, hrow, hbw⟩ := hrel
        have HBF := Lib.hid hbf
        have HBW := Lib.hid hbw
        by_cases hjlt : j < r
        · have hjR : j < RR.length := by rw [← HLN.out]; exact hjlt
          obtain ⟨vv, hvv⟩ : ∃ y, RR.getD j 0 = y := ⟨_, rfl⟩
          have q1 : wr.cell? ⟨gr, j, none⟩ = some (.int .i16 vv) := by
            have := row_cell hrow (vI_at hjR)
            rwa [hvv] at this
          have hm : vv ∈ RR := by rw [← hvv, List.getD_eq_getElem?_getD, List.getElem?_eq_getElem hjR]; exact List.getElem_mem hjR
          have hvn := HFN.out.lt _ hm
          have hix : RR.idxOf vv = j := by rw [← hvv]; exact idx_inj HFN.out.nd hjR
          obtain ⟨bb, hbb⟩ : ∃ b, prdK T2 r j = b := ⟨_, rfl⟩
          have q2 : wr.cell? ⟨W1.heap.size, vv, none⟩ = some (.bool bb) := by rw [Lib.cell_of_heap hgb, gdA_at hvn hm, hix, hbb]
          have gj : (j : Int) < r := by omega
          have gv : (vv : Int) < n := by omega
          have HGB := Lib.hid hgb
          have HRW := Lib.hid hrow
          have HBBB := Lib.hid hbb
          clear hbf hbw hgb hrow hbb hvv hm hix
          cases bb
          · have HPB := Lib.hid (show prdB T2 = false from prdB_bad (by rw [HTL.out]; exact hjlt) (by rw [HTL.out]; exact HBBB.out))
            go_wp2
            go_ret
            exact ⟨by rw [HPB.out]; rfl, HBW.out⟩
          · go_wp2
            exact ⟨⟨j + 1, by omega, rfl, show ∀ q, q < j + 1 → prdK T2 r q = true from fun q hq => if hh : q < j then HBF.out q hh else by rw [show q = j by omega]; exact HBBB.out, HGB.out, HRW.out, HBW.out⟩, by simp [RowKit.intOf]; omega⟩
        · obtain rfl : j = r := by omega
          have HPB := Lib.hid (show prdB T2 = true from prdB_good (by rw [HTL.out]; exact HBF.out))
          clear hbf hbw hgb hrow
          go_wp2
          go_ret
          exact ⟨by rw [HPB.out]; rfl, HBW.out⟩
end Go.Proofs.Ytjmpdilffmpkgaa.Sx
