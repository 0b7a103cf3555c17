/-
  'IsProductive': both answers, and the law's walk.
-/
import Derived.Test.YtjmpdilffmpkgaaG9
import Derived.Test.YtjmpdilffmpkgaaTM
import Derived.Test.YtjmpdilffmpkgaaWR
import Derived.Deep.RegionHeld3
import Derived.Deep.DeepCutAuto
namespace Go.Proofs.Ytjmpdilffmpkgaa.Sx
open Go Go.RowKit
set_option linter.unusedVariables false
set_option linter.unusedSimpArgs false

/-- How many nodes are found. -/
structure NN (T : List Fk) (N : Nat) : Prop where
  mk ::
  e : N = (rch T N).length
  one : 1 ≤ N
  le : N ≤ T.length
  q : ∀ i, i < N → i < (rch T i).length
theorem NN.ex {T : List Fk} (hT : trB T = true) : ∃ N, NN T N := by
  obtain ⟨N, h1, h2, h3, h4⟩ := rch_end hT
  exact ⟨N, h1, h2, h3, h4⟩
/-- A function of a tree gives a truth and a code. -/
def DoesTB (g : Nat) (T : List Fk) (p : Bool) (c : Int) : Prop := ∀ (w : World) (v : Value), IsF w T v → Calls Try.prog g #[.agg #[v]] w fun e w' => e = .returned (.tuple #[.bool p, .int .i64 c]) ∧ Below w.heap.size w w'
set_option maxRecDepth 1000000 in
set_option maxHeartbeats 8000000 in
theorem ipS_no {T : List Fk} (hT : trB T = false) (hl : T.length ≤ 1048576) (hr : Wid T) : DoesTB 9 T false 1 := by
  intro w v hF
  obtain ⟨W1, hW1, b1, x1⟩ := boxN w #[v] 30
  have m1 := okTS (w := W1) (b := w.heap.size) ⟨x1, hF.keep b1⟩ hl hr
  rw [hT] at m1
  clear x1 hF hr
  go_enter Try.func9, Try.ntmps9
  go_wp2_with (go_at_call 27; refine m1.mono ?_)
  first | (rintro e W2 rfl hs) | (rintro e W2 ⟨rfl, hs⟩)
  rw [hs.out]
  clear hs m1
  try dsimp only
  go_wp2
  refine bodyPost_ret (v := .tuple #[.bool false, .int .i64 1]) (by simp [results, Try.results9, go_sem]) rfl ?_
  exact ⟨rfl, b1⟩
set_option maxRecDepth 1000000 in
set_option maxHeartbeats 8000000 in
theorem ipS_yes {T : List Fk} {N : Nat} (hT : trB T = true) (hr : Wid T) (h : NN T N) : DoesTB 9 T (prdB (rcT T (rch T N) N)) 0 := by
  intro w v hF
  obtain ⟨W1, hW1, b1, x1⟩ := boxN w #[v] 30
  have hl := (trB_iff.1 hT).1.2
  have m1 := okTS (w := W1) (b := w.heap.size) ⟨x1, hF.keep b1⟩ (by omega) hr
  have m2 := productiveS (w := W1) (bt := w.heap.size) ⟨x1, hF.keep b1⟩ hT h.e h.one h.le h.q
  rw [hT] at m1
  obtain ⟨p, hp⟩ : ∃ p, prdB (rcT T (rch T N) N) = p := ⟨_, rfl⟩
  rw [hp] at m2 ⊢
  clear x1 hF hr h hp
  go_enter Try.func9, Try.ntmps9
  go_wp2_with (go_at_call 27; refine m1.mono ?_)
  first | (rintro e W2 rfl hs) | (rintro e W2 ⟨rfl, hs⟩)
  rw [hs.out]
  clear hs m1
  try dsimp only
  go_wp2_with (go_at_call 28; refine m2.mono ?_)
  first | (rintro e W3 rfl b3) | (rintro e W3 ⟨rfl, b3⟩)
  try dsimp only
  have FB := Lib.hid (b1.trans (b3.mono b1.size))
  clear b3 m2
  go_wp2
  refine bodyPost_ret (v := .tuple #[.bool p, .int .i64 0]) (by simp [results, Try.results9, go_sem]) rfl ?_
  exact ⟨rfl, FB.out⟩
set_option maxRecDepth 1000000 in
set_option maxHeartbeats 8000000 in
theorem ipI_no {T : List Fk} (hT : trB T = false) (hl : T.length ≤ 1048576) (hr : Wid T) : DoesTB 11 T false 1 := by
  intro w v hF
  obtain ⟨W1, hW1, b1, x1⟩ := boxN w #[v] 30
  have m1 := okTI (hF.keep b1) hl hr
  rw [hT] at m1
  have c0 : W1.cell? ⟨w.heap.size, 0, none⟩ = some v := by rw [Lib.cell_of_heap x1]; rfl
  obtain ⟨s, k, rfl⟩ := hF.form
  clear x1 hF hr
  go_enter Try.func11, Try.ntmps11
  go_wp2_with (go_at_call 30; refine m1.mono ?_)
  first | (rintro e W2 rfl b2) | (rintro e W2 ⟨rfl, b2⟩)
  try dsimp only
  have FB := Lib.hid (b1.trans (b2.mono b1.size))
  clear b2 m1
  go_wp2
  refine bodyPost_ret (v := .tuple #[.bool false, .int .i64 1]) (by simp [results, Try.results11, go_sem]) rfl ?_
  exact ⟨rfl, FB.out⟩
set_option maxRecDepth 1000000 in
set_option maxHeartbeats 8000000 in
theorem ipI_yes {T : List Fk} {N : Nat} (hT : trB T = true) (hr : Wid T) (h : NN T N) : DoesTB 11 T (prdB (rcT T (rch T N) N)) 0 := by
  intro w v hF
  obtain ⟨W1, hW1, b1, x1⟩ := boxN w #[v] 30
  have hl := (trB_iff.1 hT).1.2
  have m1 := okTI (hF.keep b1) (by omega) hr
  rw [hT] at m1
  have c0 : W1.cell? ⟨w.heap.size, 0, none⟩ = some v := by rw [Lib.cell_of_heap x1]; rfl
  have PR := Lib.hid fun (X : World) (hb : Below W1.heap.size W1 X) => productiveI (w := X) ((hF.keep b1).keep hb) hT h.e h.one h.le h.q rfl
  have HX := Lib.hid x1
  obtain ⟨s, k, rfl⟩ := hF.form
  obtain ⟨p, hp⟩ : ∃ p, prdB (rcT T (rch T N) N) = p := ⟨_, rfl⟩
  rw [hp] at PR ⊢
  clear x1 hF hr h hp
  go_enter Try.func11, Try.ntmps11
  go_wp2_with (go_at_call 30; refine m1.mono ?_)
  first | (rintro e W2 rfl b2) | (rintro e W2 ⟨rfl, b2⟩)
  try dsimp only
  have m2 := PR.out W2 b2
  have c1 : W2.cell? ⟨w.heap.size, 0, none⟩ = some (.slice s T.length k) := by rw [Lib.cell_of_heap (at_keep HX.out b2)]; rfl
  have B2 := Lib.hid (b1.trans (b2.mono b1.size))
  clear b2 m1 c0
  go_wp2_with (go_at_call 31; refine m2.mono ?_)
  first | (rintro e W3 rfl b3) | (rintro e W3 ⟨rfl, b3⟩)
  try dsimp only
  have FB := Lib.hid (B2.out.trans (b3.mono B2.out.size))
  clear b3 m2
  go_wp2
  refine bodyPost_ret (v := .tuple #[.bool p, .int .i64 0]) (by simp [results, Try.results11, go_sem]) rfl ?_
  exact ⟨rfl, FB.out⟩
theorem fkC_forkyG (T : List Fk) : Forky (fkC T) T.length := fun i hi => ⟨_, _, _, _, _, fkC_at (r := 0) (fkAt_get hi) (by omega), fkC_at (r := 1) (fkAt_get hi) (by omega), fkC_at (r := 2) (fkAt_get hi) (by omega), fkC_at (r := 3) (fkAt_get hi) (by omega), fkC_at (r := 4) (fkAt_get hi) (by omega)⟩
set_option maxRecDepth 1000000 in
set_option maxHeartbeats 16000000 in
theorem law_IsProductive {w : World} {T : List Fk} {tv : Value} {p : Bool} {c : Int} (hF : IsF w T tv) (lT : T.length ≤ 9223372036854775807) (hS : T.length ≤ 1048576 → DoesTB 9 T p c) (hI : T.length ≤ 1048576 → DoesTB 11 T p c) :
    Calls Try.prog 3 #[.agg #[tv]] w fun e w' => e = .returned (.bool true) ∧ Below w.heap.size w w' := by
  obtain ⟨st, kt, rfl⟩ := hF.form
  obtain ⟨W, hW, hB, XT⟩ := boxN w #[.slice st T.length kt] 24
  have m0 := szTr (hF.keep hB) lT
  have q0 : W.cell? ⟨w.heap.size, 0, none⟩ = some (.slice st T.length kt) := by rw [Lib.cell_of_heap XT]; rfl
  unfold szL at m0
  by_cases hT : 1048576 < T.length
  · rw [if_pos hT] at m0
    have HB := Lib.hid hB
    clear hF XT hS hI hB
    go_enter Try.func3, Try.ntmps3
    go_wp2_with (go_at_call 8; refine m0.mono ?_)
    first | (rintro e W1 rfl b1) | (rintro e W1 ⟨rfl, b1⟩)
    try dsimp only
    have FB := Lib.hid (HB.out.trans (b1.mono HB.out.size))
    go_wp2
    go_ret
    exact ⟨rfl, FB.out⟩
  · rw [if_neg hT] at m0
    have hT' : T.length ≤ 1048576 := by omega
    have HS := Lib.hid (hS hT')
    have HI := Lib.hid (hI hT')
    have HXT := Lib.hid XT
    have HB := Lib.hid hB
    have HF := Lib.hid hF
    clear hS hI XT hB hF
    go_enter Try.func3, Try.ntmps3
    go_wp2_with (go_at_call 8; refine m0.mono ?_)
    first | (rintro e W1 rfl b1) | (rintro e W1 ⟨rfl, b1⟩)
    try dsimp only
    have hz0 : ¬ (1048576 - (T.length : Int)) < 0 := by omega
    have hb := HB.out.trans (b1.mono HB.out.size)
    have t1 := toTr (HF.out.keep hb) hT'
    have q1 : W1.cell? ⟨w.heap.size, 0, none⟩ = some (.slice st T.length kt) := by rw [Lib.cell_of_heap (at_keep HXT.out b1)]; rfl
    have X1 := Lib.hid (at_keep HXT.out b1)
    have HB1 := Lib.hid hb
    clear b1 hb m0 q0
    go_wp2_with (go_at_call 10; refine t1.mono ?_)
    rintro e W2 ⟨⟨pa, ka, rfl, ra⟩, b2⟩
    try dsimp only
    have sp := HS.out W2 _ (IsF.of_row ra rfl)
    have X2 := Lib.hid (at_keep X1.out b2)
    have HB2 := Lib.hid (HB1.out.trans (b2.mono HB1.out.size))
    clear b2 ra t1 q1
    go_wp2_with (go_at_call 9; refine sp.mono ?_)
    first | (rintro e W3 rfl b3) | (rintro e W3 ⟨rfl, b3⟩)
    try dsimp only
    have X3 := Lib.hid (at_keep X2.out b3)
    have HB3 := Lib.hid (HB2.out.trans (b3.mono HB2.out.size))
    have q3 : W3.cell? ⟨w.heap.size, 0, none⟩ = some (.slice st T.length kt) := by rw [Lib.cell_of_heap X3.out]; rfl
    have t3 := toTr (HF.out.keep HB3.out) hT'
    clear b3 sp
    go_wp2_with (go_at_call 10; refine t3.mono ?_)
    rintro e W4 ⟨⟨px, kx, rfl, rx⟩, b4⟩
    try dsimp only
    obtain ⟨W5, hW5, b5, x5⟩ := boxN W4 #[.slice (some px) T.length kx] 30
    have b45 := b4.trans (b5.mono b4.size)
    have r5 := row_underN (k := 0) rx b5
    have X5 := Lib.hid (at_keep X3.out b45)
    have HB5 := Lib.hid (HB3.out.trans (b45.mono HB3.out.size))
    have im := HI.out W5 _ (IsF.of_row r5 rfl)
    have q5 : W5.cell? ⟨W4.heap.size, 0, none⟩ = some (.slice (some px) T.length kx) := by rw [Lib.cell_of_heap x5]; rfl
    have HR5 := Lib.hid r5
    have HX5 := Lib.hid x5
    clear b4 b5 b45 rx r5 x5 t3 q3
    go_wp2_with (go_at_call 11; refine im.mono ?_)
    first | (rintro e W8 rfl b8) | (rintro e W8 ⟨rfl, b8⟩)
    try dsimp only
    have XT := at_keep X5.out b8
    have xt := at_keep HX5.out b8
    have rx := row_underN (k := 0) HR5.out b8
    have hB := HB5.out.trans (b8.mono HB5.out.size)
    have hF := HF.out
    clear im q5 b8 hW5
    have TT := Lib.hid (toTr (w := W8.drew) ((hF.keep hB).same rfl) hT')
    have EQ := Lib.hid (fun (Wb : World) (p : Addr) (k : Nat) (b9 : Below W8.drew.heap.size W8.drew Wb) (r9 : Wb.ownsRow W8.drew.heap.size 62 5 (.slice (some p) T.length k) T.length (fkC T)) => eqTr (w := Wb) (row_underN (k := 0) (show W8.drew.ownsRow _ _ _ _ _ _ from rx) b9) r9 (fkC_forkyG T) hT')
    have KQ := Lib.hid (show ∀ w', Below W8.drew.heap.size W8.drew w' → (w'.cell? ⟨W4.heap.size, 0, none⟩ = some (.slice (some px) T.length kx)) ∧ (w'.cell? ⟨w.heap.size, 0, none⟩ = some (.slice st T.length kt)) ∧ Below W8.drew.heap.size W8.drew w' from fun w' h => ⟨by rw [Lib.cell_of_heap (at_keep (show W8.drew.heap[W4.heap.size]? = _ from xt) h)]; rfl, by rw [Lib.cell_of_heap (at_keep (show W8.drew.heap[w.heap.size]? = _ from XT) h)]; rfl, h⟩)
    have HBW := Lib.hid hB
    clear XT xt rx hB hF
    go_upto_region 10 with (fail)
    go_cut [39] (fun s wx => s = .bool false ∧ Below W8.drew.heap.size W8.drew wx)
    case first =>
      go_region_held3 (fun w' => (w'.cell? ⟨W4.heap.size, 0, none⟩ = some (.slice (some px) T.length kx)) ∧ (w'.cell? ⟨w.heap.size, 0, none⟩ = some (.slice st T.length kt)) ∧ Below W8.drew.heap.size W8.drew w')
        (exact KQ.out _ (by first | with_reducible exact hb9 | with_reducible exact b8 | with_reducible exact Below.refl _ _ | fail))
        (first
        | (go_at_call 10; (refine TT.out.mono ?_); rintro e W9 ⟨⟨pz, kz, rfl, rz⟩, b8⟩; have q8 := EQ.out _ _ _ b8 rz)
        | (go_at_call 12; (refine q8.mono ?_); rintro e W10 ⟨rfl, b9⟩; have hb9 := Below.trans b8 (b9.mono b8.size))
        | fail)
      all_goals (go_wp2_with fail; go_meet; exact ⟨rfl, hb9⟩)
    case rest =>
    obtain ⟨rfl, bq⟩ := hcut
    clear TT EQ KQ
    have bd := (Below.refl W8.heap.size W8).drew.trans bq
    have FB := Lib.hid (HBW.out.trans (bd.mono HBW.out.size))
    clear bd bq
    go_wp2
    go_ret
    exact ⟨rfl, FB.out⟩
end Go.Proofs.Ytjmpdilffmpkgaa.Sx
