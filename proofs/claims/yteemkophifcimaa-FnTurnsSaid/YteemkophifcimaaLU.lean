/-
  The law on turns: what is told and what is taken.
-/
import Derived.Test.YteemkophifcimaaSA
import Derived.Test.YteemkophifcimaaK14
import Derived.Test.YteemkophifcimaaK16
import Derived.Test.YteemkophifcimaaLE
namespace Go.Proofs.Yteemkophifcimaa.Sx
open Go Go.RowKit
set_option linter.unusedVariables false
set_option linter.unusedSimpArgs false

theorem ask2001 {a b : List Int} {n : Int} (hv : vsB a b = true) (hn : 0 ≤ n ∧ n ≤ 60) : askC 2 0 0 1 a b n = 4 := by
  have h1 : vmB 2 0 0 1 = true := by decide
  have h2 : liesB ⟨2, 0, 0, 1⟩ (-2) 2 = false := by decide
  unfold askC
  rw [h1, hv, if_neg (by simp), if_neg (by omega), if_pos h2]
theorem ask61 {A B C D : Int} {a b : List Int} (hm : vmB A B C D = true) (hv : vsB a b = true) : askC A B C D a b 61 = 2 := by
  unfold askC
  rw [hm, hv, if_neg (by simp), if_pos (by omega)]
theorem ask0 {A B C D : Int} {a b : List Int} {n : Int} (hm : vmB A B C D = true) (hv : vsB a b = true) (hn : 0 ≤ n ∧ n ≤ 60) (hl : liesB ⟨A, B, C, D⟩ (-2) 2 = true) : askC A B C D a b n = 0 := by
  unfold askC
  rw [hm, hv, if_neg (by simp), if_neg (by omega), hl, if_neg (by simp)]
theorem vm_small {A B C D : Int} (h0 : -4 ≤ A ∧ A ≤ 4) (h1 : -4 ≤ B ∧ B ≤ 4) (h2 : -2 ≤ C ∧ C ≤ 2) (h3 : C < D ∧ -C < D ∧ D ≤ 40) : vmB A B C D = true := by
  unfold vmB
  rw [(fitM_iff).2 ⟨⟨by show -1000000 ≤ A; omega, by show A ≤ 1000000; omega⟩, ⟨by show -1000000 ≤ B; omega, by show B ≤ 1000000; omega⟩, ⟨by show -1000000 ≤ C; omega, by show C ≤ 1000000; omega⟩, ⟨by show -1000000 ≤ D; omega, by show D ≤ 1000000; omega⟩⟩]
  rw [decide_eq_true h3.1, decide_eq_true h3.2.1]
  rfl
/-- How a run ends, in numbers. -/
theorem end_num {a b : List Int} {m0 : Mo} {n J L : Nat} {c : Int} (h : EndM a b m0 n J L c) (ho : ∀ i, i < J → OkAt a b m0 n i) : (c = 0 ∧ L = J ∧ (runM a b m0 J).t = n) ∨ ((c = 7 ∨ c = 3) ∧ L = 0) := by
  cases h with
  | done h => exact .inl ⟨rfl, rfl, h⟩
  | budget => exact .inr ⟨.inl rfl, rfl⟩
  | limit => exact .inr ⟨.inr rfl, rfl⟩
theorem run_t1 (a b : List Int) (m0 : Mo) (j : Nat) (h : hasM (runM a b m0 j).m = true) : (runM a b m0 (j + 1)).t = (runM a b m0 j).t + 1 ∧ (runM a b m0 (j + 1)).k = (runM a b m0 j).k := by
  show (stp a b (runM a b m0 j)).t = _ ∧ (stp a b (runM a b m0 j)).k = _
  unfold stp
  rw [if_pos h]
  exact ⟨rfl, rfl⟩
theorem run_k1 (a b : List Int) (m0 : Mo) (j : Nat) (h : hasM (runM a b m0 j).m = false) : (runM a b m0 (j + 1)).t = (runM a b m0 j).t ∧ (runM a b m0 (j + 1)).k = (runM a b m0 j).k + 1 ∧ tdM a b m0 j = dg a b (runM a b m0 j).k := by
  refine ⟨?_, ?_, ?_⟩
  · show (stp a b (runM a b m0 j)).t = _
    unfold stp
    rw [if_neg (by simp [h])]
  · show (stp a b (runM a b m0 j)).k = _
    unfold stp
    rw [if_neg (by simp [h])]
  · unfold tdM
    rw [if_neg (by simp [h])]
theorem ddL_t {a b : List Int} {m0 : Mo} {j : Nat} (h : hasM (runM a b m0 j).m = true) : ddL a b m0 (j + 1) = ddL a b m0 j ++ [tdM a b m0 j] := by
  show (if _ then _ else _) = _
  rw [if_pos h]
theorem ddL_k {a b : List Int} {m0 : Mo} {j : Nat} (h : hasM (runM a b m0 j).m = false) : ddL a b m0 (j + 1) = ddL a b m0 j := by
  show (if _ then _ else _) = _
  rw [if_neg (by simp [h])]
theorem tdM_bd {a b : List Int} (m0 : Mo) (hv : vsB a b = true) (j : Nat) : -1 ≤ tdM a b m0 j ∧ tdM a b m0 j ≤ 1 := by
  unfold tdM
  split
  · exact digM_bd _
  · exact dgs1 hv _
set_option maxRecDepth 1000000 in
set_option maxHeartbeats 8000000 in
/-- ONE OF THE ARGUMENTS IS LONG. -/
theorem turns_long {w : World} {s1 s2 : Option Addr} {n m c1 c2 : Nat} (h : 3000 < n ∨ 3000 < m) :
    Calls Try.prog 8 #[.slice s1 n c1, .slice s2 m c2] w fun e w' => e = .returned (.bool true) ∧ Below w.heap.size w w' := by
  have t := longI (w := w) (s1 := s1) (s2 := s2) (n := n) (m := m) (c1 := c1) (c2 := c2)
  rw [show (decide (3000 < n) || decide (3000 < m)) = true by simpa using h] at t
  clear h
  go_enter Try.func8, Try.ntmps8
  go_wp2_with (go_at_call 32; refine t.mono ?_)
  first | (rintro e W1 rfl hs) | (rintro e W1 ⟨rfl, hs⟩)
  obtain rfl := hs.out
  clear hs
  go_wp2
  go_ret
  exact ⟨rfl, Below.refl _ _⟩
set_option maxRecDepth 1000000 in
set_option maxHeartbeats 16000000 in
/-- THE LAW. -/
theorem law_Turns {w : World} {l m : List Int} {v u : Value} (h0 : IsL .u8 w l v) (h1 : IsL .u8 w m u) (b0 : ∀ (i : Nat) (x : Int), l[i]? = some x → 0 ≤ x ∧ x ≤ 255) (b1 : ∀ (i : Nat) (x : Int), m[i]? = some x → 0 ≤ x ∧ x ≤ 255)
    (o0 : ∀ n, v.ownBlock = some n → n < w.heap.size) (o1 : ∀ n, u.ownBlock = some n → n < w.heap.size) (ll : l.length ≤ 3000) (lm : m.length ≤ 3000) :
    Calls Try.prog 8 #[v, u] w fun e w' => e = .returned (.bool true) ∧ Below w.heap.size w w' := by
  obtain ⟨s1, c1, rfl⟩ := h0.form
  obtain ⟨s2, c2, rfl⟩ := h1.form
  have t := longI (w := w) (s1 := s1) (s2 := s2) (n := l.length) (m := m.length) (c1 := c1) (c2 := c2)
  rw [decide_eq_false (show ¬ 3000 < l.length by omega), decide_eq_false (show ¬ 3000 < m.length by omega)] at t
  have MA := Lib.hid (A2MachineS h0 b0 ll o0)
  have ST := Lib.hid fun W (hB : Below w.heap.size w W) => A2StreamS (h1.keep hB) b1 lm (fun n e => Nat.lt_of_lt_of_le (o1 n e) hB.size)
  have AT := Lib.hid fun W (hB : Below w.heap.size w W) => a2AtI (h0.keep hB) b0 ll 12 (by decide) (by decide)
  have hlB : ∀ (s : Option Addr) (n k : Nat) (W : World), (Builtin.len_ #[41] 3 #[.slice s n k]).run Try.prog W = .ok (.int .i64 n) W := fun s n k W => rfl
  clear h0 h1 b0 b1 o0 o1 ll lm
  go_enter Try.func8, Try.ntmps8
  go_wp2_with (go_at_call 32; refine t.mono ?_)
  first | (rintro e W1 rfl hs) | (rintro e W1 ⟨rfl, hs⟩)
  rw [hs.out]
  clear hs t W1
  go_wp2_with (go_at_call 33; refine MA.out.mono ?_)
  rintro e W2 ⟨⟨A, B, C, D, rfl, bA, bB, bC, bD, hl⟩, b2⟩
  obtain ⟨V1, hV1, bV1, y1⟩ := boxM W2 0 0 0 0
  obtain ⟨V2, hV2, y2, b2', r2, z2⟩ := storedM y1 A B C D
  have b12 : Below W2.heap.size W2 V2 := bV1.trans (b2' _ (Nat.le_refl _))
  have bw2 := b2.trans (b12.mono b2.size)
  obtain ⟨d0, d1, d2, d3⟩ := y1.c
  have f0 := y1.f 0
  have f1 := y1.f 1
  have f2 := y1.f 2
  have f3 := y1.f 3
  have hvm := vm_small bA bB bC bD
  have hC2 : -9223372036854775808 ≤ C ∧ C ≤ 9223372036854775807 := by omega
  have HM := Lib.hid (And.intro hvm (And.intro hl hC2))
  have YM := Lib.hid y2
  have BW := Lib.hid bw2
  have st := ST.out V2 bw2
  clear bA bB bC bD hl b2 bV1 y1 y2 b2' r2 z2 b12 hvm hC2 bw2 MA
  go_wp2_with (go_at_call 34; refine st.mono ?_)
  rintro e W3 ⟨⟨a, b, u0, u1, rfl, oa, ob, hvs⟩, b3⟩
  obtain ⟨p0, k0, rfl⟩ := oa.form
  obtain ⟨p1, k1, rfl⟩ := ob.form
  obtain ⟨V3, hV3, bV3, y3⟩ := boxK W3 (.slice none 0 0) (.slice none 0 0) 26
  obtain ⟨V4, hV4, y4, _⟩ := storedK6 y3 (.slice p0 a.length k0) (.slice p1 b.length k1)
  obtain ⟨V4', hV4', _, _, r4, B4⟩ := stored y3 (.slice p0 a.length k0) (.slice p1 b.length k1)
  obtain rfl : V4 = V4' := hV4.symm.trans hV4'
  clear hV4'
  have b34 : Below W3.heap.size W3 V4 := bV3.trans (B4 _ (Nat.le_refl _))
  have oa4 := (oa.keep b34).mono (Nat.zero_le _)
  have ob4 := (ob.keep b34).mono (Nat.zero_le _)
  have ym4 : BM V4 W2.heap.size A B C D := (YM.out.keep b3).keep b34
  have bw4 : Below w.heap.size w V4 := (BW.out.trans (b3.mono BW.out.size)).trans (b34.mono (Nat.le_trans BW.out.size b3.size))
  clear d0 d1 d2 d3 f0 f1 f2 f3
  have d0 := y3.c0
  have d1 := y3.c1
  have f0 := y3.f 0
  have f1 := y3.f 1
  have at4 := AT.out V4 bw4
  have YM4 := Lib.hid ym4
  have YS4 := Lib.hid y4
  have OA := Lib.hid oa4
  have OB := Lib.hid ob4
  have BW4 := Lib.hid bw4
  have VS := Lib.hid hvs
  clear oa ob hvs b3 bV3 y3 y4 r4 B4 b34 oa4 ob4 ym4 bw4 YM BW st ST AT
  go_wp2_with (go_at_call 35; refine at4.mono ?_)
  first | (rintro e W5 ⟨⟨n, rfl, hn⟩, hs⟩) | (rintro e W5 ⟨n, rfl, hn⟩ hs)
  obtain rfl := hs.out
  clear hs at4 d0 d1 f0 f1
  have hz := ask0 (n := (n : Int)) HM.out.1 VS.out (by omega) HM.out.2.1
  obtain ⟨J, L, c, hSt, hJ, hE⟩ := runM_ex a b ⟨A, B, C, D⟩ (n : Int).toNat
  have tI := turnsI_yes A B C D n a b hz J L c hSt hJ hE
  have tS := turnsS_yes A B C D n a b hz J L c hSt hJ hE
  simp only [Int.toNat_natCast] at hSt hJ hE
  obtain ⟨m0, hm0⟩ : ∃ m0, (⟨A, B, C, D⟩ : Mo) = m0 := ⟨_, rfl⟩
  rw [hm0] at hSt hE tI tS
  have hpr := end_num hE hSt
  have hbd := runM_bd hSt
  have hLJ : L ≤ J := by omega
  have EN := Lib.hid hpr
  have BD := Lib.hid hbd
  have ST := Lib.hid hSt
  have TI := Lib.hid tI
  have TS := Lib.hid tS
  have LB := Lib.hid (And.intro hLJ (And.intro hJ hn))
  have tI1 := tI W5 _ _ OA.out.is OB.out.is (fun q e => (OA.out.lt q e).2) (fun q e => (OB.out.lt q e).2)
  obtain ⟨c0, c1', c2', c3⟩ := YM4.out.c
  have d0 := YS4.out.c0
  have d1 := YS4.out.c1
  clear hSt hJ hE hpr hbd hLJ hz hm0 tI hn tS
  dsimp only
  go_wp2_with (go_at_call 23; refine tI1.mono ?_)
  rintro e W6 ⟨⟨sT, kT, rfl, rT⟩, b6⟩
  dsimp only
  clear c0 c1' c2' c3 d0 d1 tI1
  have ym := YM4.out.keep b6
  have ys := YS4.out.keep b6
  have oa := OA.out.keep b6
  have ob := OB.out.keep b6
  have bw := BW4.out.trans (b6.mono BW4.out.size)
  have tS1 := TS.out W6 _ _ oa.is ob.is (fun q e => (oa.lt q e).2) (fun q e => (ob.lt q e).2)
  obtain ⟨c0, c1', c2', c3⟩ := ym.c
  have d0 := ys.c0
  have d1 := ys.c1
  have YM6 := Lib.hid ym
  have YS6 := Lib.hid ys
  have OA6 := Lib.hid oa
  have OB6 := Lib.hid ob
  have BW6 := Lib.hid bw
  have RT6 := Lib.hid (row_base rT (Nat.zero_le _))
  clear ym ys oa ob bw rT b6 YM4 YS4 OA OB BW4 TS
  go_wp2_with (go_at_call 21; refine tS1.mono ?_)
  rintro e W7 ⟨⟨sD, kD, rfl, rD⟩, b7⟩
  dsimp only
  clear c0 c1' c2' c3 d0 d1 tS1
  have ym := YM6.out.keep b7
  have ys := YS6.out.keep b7
  have oa := OA6.out.keep b7
  have ob := OB6.out.keep b7
  have bw := BW6.out.trans (b7.mono BW6.out.size)
  have rt := row_underN (k := 0) RT6.out b7
  have YM := Lib.hid ym
  have YS := Lib.hid ys
  have OA := Lib.hid oa
  have OB := Lib.hid ob
  have BW := Lib.hid bw
  have RT := Lib.hid rt
  have RD := Lib.hid (row_base rD (Nat.zero_le _))
  clear ym ys oa ob bw rt rD b7 YM6 YS6 OA6 OB6 BW6 RT6
  obtain ⟨i0, ha, ha0, ha1, ha2⟩ := info_parts info8
  obtain ⟨Bz, hBz⟩ : ∃ B, W7.heap.size = B := ⟨_, rfl⟩
  have hn12 : n < 12 := by have := LB.out.2.2; omega
  have hL4 : L ≤ 412 := by have := LB.out; omega
  have HB := Lib.hid hBz
  have TD : ∀ j, -1 ≤ tdM a b m0 j ∧ tdM a b m0 j ≤ 1 := fun j => tdM_bd m0 VS.out j
  have TD := Lib.hid TD
  have DA := Lib.hid fun (w' : World) (hb : Below W7.heap.size W7 w') (k : Nat) (hk : k ≤ 1000000000) => digAtI ((OA.out.keep hb).is) ((OB.out.keep hb).is) VS.out hk
  go_wp2
  go_loopw [12, 13, 14, 15] (fun tv kv dv iv wr => ∃ j : Nat, j ≤ L ∧ iv = .int .i64 j ∧ tv = .int .i64 (runM a b m0 j).t ∧ kv = .int .i64 (runM a b m0 j).k ∧ wr.ownsRow Bz 58 1 dv (ddL a b m0 j).length ((ddL a b m0 j).map (Value.int .i8)) ∧ Below W7.heap.size W7 wr) (fun _ _ _ iv _ => L - (RowKit.intOf iv).toNat)
  case atStart => exact ⟨0, Nat.zero_le _, rfl, rfl, rfl, by rw [← hBz]; exact made8 _ _ (Nat.le_refl _), (Below.refl _ _).alloc (Nat.le_refl _) _⟩
  case round =>
    obtain ⟨j, hj, rfl, rfl, rfl, hown, hb⟩ := hrel
    clear hBz
    by_cases hlt : j < L
    · obtain ⟨g, cp, hf, _, _⟩ := RT.out.form (by omega)
      obtain rfl : sT = some ⟨g, 0, none⟩ := by simp at hf; exact hf.1
      obtain ⟨g', cp', hf', _, _⟩ := RD.out.form (by omega)
      obtain rfl : sD = some ⟨g', 0, none⟩ := by simp at hf'; exact hf'.1
      obtain ⟨ht, hht⟩ : ∃ x, hasM (runM a b m0 j).m = x := ⟨_, rfl⟩
      obtain ⟨td, htd⟩ : ∃ x, tdM a b m0 j = x := ⟨_, rfl⟩
      obtain ⟨P, hP⟩ : ∃ x, (runM a b m0 (j + 1)).m.A = x := ⟨_, rfl⟩
      obtain ⟨Q, hQ⟩ : ∃ x, (runM a b m0 (j + 1)).m.B = x := ⟨_, rfl⟩
      obtain ⟨R, hR⟩ : ∃ x, (runM a b m0 (j + 1)).m.C = x := ⟨_, rfl⟩
      obtain ⟨S, hS⟩ : ∃ x, (runM a b m0 (j + 1)).m.D = x := ⟨_, rfl⟩
      have hx : trC a b m0 j = [.bool ht, .int .i8 td, .int .i64 P, .int .i64 Q, .int .i64 R, .int .i64 S] := by unfold trC; rw [hht, htd, hP, hQ, hR, hS]
      have x0 := trL_at a b m0 (r := 0) (by omega) hlt
      have x1 := trL_at a b m0 (r := 1) (by omega) hlt
      have x2 := trL_at a b m0 (r := 2) (by omega) hlt
      have x3 := trL_at a b m0 (r := 3) (by omega) hlt
      have x4 := trL_at a b m0 (r := 4) (by omega) hlt
      have x5 := trL_at a b m0 (r := 5) (by omega) hlt
      rw [hx] at x0 x1 x2 x3 x4 x5
      have r := row_underN (k := 0) RT.out hb
      have r' := row_underN (k := 0) RD.out hb
      have q0 := row_cell r x0
      have q1 := row_cell r x1
      have q2 := row_cell r x2
      have q3 := row_cell r x3
      have q4 := row_cell r x4
      have q5 := row_cell r x5
      have p0' := row_cell r' x0
      have p1' := row_cell r' x1
      have p2' := row_cell r' x2
      have p3' := row_cell r' x3
      have p4' := row_cell r' x4
      have p5' := row_cell r' x5
      rw [Nat.add_zero] at q0 p0'
      have g0 : (j : Int) < L := by omega
      have HX := Lib.hid (And.intro hht htd)
      have HOWN := Lib.hid hown
      have HBL := Lib.hid hb
      obtain ⟨tj, htj⟩ : ∃ x, (runM a b m0 j).t = x := ⟨_, rfl⟩
      obtain ⟨kj, hkj⟩ : ∃ x, (runM a b m0 j).k = x := ⟨_, rfl⟩
      rw [htj, hkj]
      have HTK := Lib.hid (And.intro htj hkj)
      have hjb : tj ≤ 412 ∧ kj ≤ 412 := by
        have := runM_bd (a := a) (b := b) (m0 := m0) (n := n) (j := j) (fun i hi => ST.out i (by have := LB.out.1; omega))
        omega
      clear hf hf' x0 x1 x2 x3 x4 x5 hx hP hQ hR hS r r' hown hb hht htd htj hkj
      go_upto_region 16 with (fail)
      go_quiet (fail)
      obtain ⟨W8, hW8⟩ : ∃ W, wr.drewN nq = W := ⟨_, rfl⟩
      have hb8 : Below W7.heap.size W7 W8 := by rw [← hW8]; exact HBL.out.trans ⟨rfl, rfl, rfl, Nat.le_refl _, fun _ _ => rfl⟩
      have ho8 := row_underN (k := 0) (w' := W8) HOWN.out (by rw [← hW8]; exact ⟨rfl, rfl, rfl, Nat.le_refl _, fun _ _ => rfl⟩)
      have y0 : W8.cell? ⟨g', j * 6, none⟩ = some (.bool ht) := by rw [← hW8]; exact p0'
      have y1 : W8.cell? ⟨g', j * 6 + 1, none⟩ = some (.int .i8 td) := by rw [← hW8]; exact p1'
      rw [hW8]
      have HB8 := Lib.hid hb8
      have HO8 := Lib.hid ho8
      have hdl : (ddL a b m0 j).length ≤ 412 := by have := ddL_le a b m0 j; omega
      have e0 : IntKind.i64.wrap ((j : Int) + 1) = ((j + 1 : Nat) : Int) := by rw [IntKind.wrap_i64]; omega
      clear q0 q1 q2 q3 q4 q5 p0' p1' p2' p3' p4' p5' hb8 ho8
      cases ht
      · have y4 := DA.out W8 HB8.out kj (by omega)
        have d0 := (YS.out.keep HB8.out).c0
        have d1 := (YS.out.keep HB8.out).c1
        obtain ⟨k1', k2', k3'⟩ := run_k1 a b m0 j HX.out.1
        have htd2 : dg a b kj = td := by rw [← HTK.out.2, ← k3']; exact HX.out.2
        rw [htd2] at y4
        have e1 : IntKind.i64.wrap ((kj : Int) + 1) = ((kj + 1 : Nat) : Int) := by rw [IntKind.wrap_i64]; omega
        have hrel' : (runM a b m0 (j + 1)).t = tj ∧ (runM a b m0 (j + 1)).k = kj + 1 := by rw [k1', k2', HTK.out.1, HTK.out.2]; exact ⟨rfl, rfl⟩
        have HR := Lib.hid hrel'
        have HDD := Lib.hid (ddL_k HX.out.1)
        clear k1' k2' k3' htd2 hrel' hdl
        go_wp2_with (go_at_call 36; refine y4.mono ?_)
        first | (rintro e W9 ⟨rfl, b9⟩; have zz := b9.size) | (rintro e W9 rfl b9; have zz := b9.size)
        try dsimp only
        have y0 := (b9.cell (p := ⟨g', j * 6, none⟩) (cell_lt y0)).trans y0
        have y1 := (b9.cell (p := ⟨g', j * 6 + 1, none⟩) (cell_lt y1)).trans y1
        have HB9 := Lib.hid (HB8.out.trans (b9.mono HB8.out.size))
        have HO9 := Lib.hid (row_underN (k := 0) HO8.out b9)
        clear b9 zz y4
        go_wp2
        exact ⟨⟨j + 1, by omega, rfl, by rw [HR.out.1], by rw [HR.out.2]; rfl, by rw [HDD.out]; exact HO9.out, HB9.out⟩, by simp [RowKit.intOf]; omega⟩
      · obtain ⟨k1', k2'⟩ := run_t1 a b m0 j HX.out.1
        have e1 : IntKind.i64.wrap ((tj : Int) + 1) = ((tj + 1 : Nat) : Int) := by rw [IntKind.wrap_i64]; omega
        have hrel' : (runM a b m0 (j + 1)).t = tj + 1 ∧ (runM a b m0 (j + 1)).k = kj := by rw [k1', k2', HTK.out.1, HTK.out.2]; exact ⟨rfl, rfl⟩
        have HR := Lib.hid hrel'
        have hdd := ddL_t HX.out.1
        rw [HX.out.2] at hdd
        have HDD := Lib.hid hdd
        obtain ⟨dl, hdl2⟩ : ∃ x, ddL a b m0 j = x := ⟨_, rfl⟩
        rw [hdl2] at HO8 HDD hdl
        have hown := HO8.out
        have hz8 : Bz ≤ W8.heap.size := by have := HB8.out.size; have := HB.out; omega
        obtain ⟨zs, hzs⟩ : ∃ x, dl.map (Value.int .i8) = x := ⟨_, rfl⟩
        rw [hzs] at hown
        have HZS := Lib.hid hzs
        clear k1' k2' hrel' hdd hdl2 hzs
        go_wp2_with (at_builtin; refine wpList_append_own _ rfl _ _ 22 rfl Bz 58 i0 (.int .i8 0) 1 1 Try.underlying22 ha ha0 ha1 ha2 rfl (by decide) _ _ _ rfl (hown.alloc _) ⟨W8.heap.size, 0, none⟩ 1 1 [.int .i8 td] rfl rfl ?c1 ?c2 ?c3 ?c4 ?c5 ?_)
        case c1 => exact new1 _ _ _
        case c2 => simp [Value.oneCell']
        case c3 => unfold maxLen; omega
        case c4 => omega
        case c5 => simp; omega
        intro v' w1 hown' hgrow _
        have hb9 : Below W7.heap.size W7 w1 := by
          have := own_grow (B := Bz) (w := W7) hown (by rw [← HB.out]; exact HB8.out) hz8 hgrow
          rw [HB.out]; exact this
        have HO9 := Lib.hid (show w1.ownsRow Bz 58 1 v' (dl ++ [td]).length ((dl ++ [td]).map (Value.int .i8)) by rw [List.map_append, HZS.out, List.length_append]; exact hown')
        have HB9 := Lib.hid hb9
        clear hown' hgrow hown hb9
        go_wp2
        exact ⟨⟨j + 1, by omega, rfl, by rw [HR.out.1]; rfl, by rw [HR.out.2], by rw [HDD.out]; exact HO9.out, HB9.out⟩, by simp [RowKit.intOf]; omega⟩
    · obtain rfl : j = L := by omega
      have hBf := BW.out.trans (hb.mono BW.out.size)
      rcases EN.out with ⟨rfl, rfl, htn⟩ | ⟨hc, hj0⟩
      · have hkk : (runM a b m0 j).k = j - n := by
          have := (runM_bd (a := a) (b := b) (m0 := m0) (n := n) (j := j) (fun i hi => ST.out i (by omega))).2.2
          omega
        have hnj : n ≤ j := by
          have := (runM_bd (a := a) (b := b) (m0 := m0) (n := n) (j := j) (fun i hi => ST.out i (by omega))).2.2
          omega
        obtain ⟨kk, hkk2⟩ : ∃ kk, j - n = kk := ⟨_, rfl⟩
        rw [htn, hkk, hkk2]
        have hdl : (ddL a b m0 j).length = n := by rw [ddL_len]; exact htn
        have q1 := digsI_yes A B C D n a b m0 j (by omega) (by omega) TI.out
        have hcnt : ((j : Int) - (ddL a b m0 j).length) = (kk : Int) := by rw [hdl]; omega
        rw [hcnt] at q1
        obtain ⟨dl, hdl2⟩ : ∃ x, ddL a b m0 j = x := ⟨_, rfl⟩
        rw [hdl2] at q1 hown hdl
        have hdg : OwnL .i8 0 wr dl _ := (OwnL.of_row hown rfl rfl).mono (Nat.zero_le _)
        obtain ⟨s14, k14, rfl⟩ := hdg.form
        have T1 : n = 0 ∨ ∃ (j' : Nat) (g' : Nat), 0 < n ∧ j = j' + 1 ∧ sD = some ⟨g', 0, none⟩ ∧ ∀ W', Below W7.heap.size W7 W' → W'.cell? ⟨g', j' * 6, none⟩ = some (.bool true) := by
          by_cases hn0 : n = 0
          · exact .inl hn0
          · obtain ⟨j', rfl⟩ : ∃ j', j = j' + 1 := ⟨j - 1, by omega⟩
            obtain ⟨g', cp', hf', _, _⟩ := RD.out.form (by omega)
            obtain rfl : sD = some ⟨g', 0, none⟩ := by simp at hf'; exact hf'.1
            refine .inr ⟨j', g', by omega, rfl, rfl, fun W' hb => ?_⟩
            have hh : hasM (runM a b m0 j').m = true := by
              cases hq : hasM (runM a b m0 j').m
              · have h1 := (run_k1 a b m0 j' hq).1
                have h2 := (ST.out j' (by omega)).t
                omega
              · rfl
            have x0 := trL_at a b m0 (r := 0) (by omega) (show j' < j' + 1 by omega)
            have r' := row_underN (k := 0) RD.out hb
            have := row_cell r' x0
            rw [Nat.add_zero] at this
            rw [this]
            rw [hh]
        have q2 := digsI_code 2 0 0 1 n a b 4 (by decide) (turnsI_no 2 0 0 1 n a b 4 (ask2001 VS.out (by omega)) (by decide) (by decide) (by have := (vsB_iff a b).1 VS.out; omega) (by have := (vsB_iff a b).1 VS.out; omega))
        have q3 := turnsI_no A B C D 61 a b 2 (ask61 HM.out.1 VS.out) (by decide) HM.out.2.2 (by have := (vsB_iff a b).1 VS.out; omega) (by have := (vsB_iff a b).1 VS.out; omega)
        have Q2 := Lib.hid q2
        have Q3 := Lib.hid q3
        have LD := Lib.hid hdl
        have DG := Lib.hid hdg
        have HBW := Lib.hid hb
        have TT := Lib.hid T1
        have ym := YM.out.keep hb
        have ys := YS.out.keep hb
        obtain ⟨c0, c1', c2', c3⟩ := ym.c
        have d0 := ys.c0
        have d1 := ys.c1
        have oa := OA.out.keep hb
        have ob := OB.out.keep hb
        have q1' := q1 wr _ _ oa.is ob.is (fun q e => (oa.lt q e).2) (fun q e => (ob.lt q e).2)
        have gj : ¬ (j : Int) < j := by omega
        clear q1 q2 q3 hdg hb T1 hdl2 hcnt hown htn hkk hBf ym ys oa ob hkk2 hnj hlt hj
        go_wp2_with (go_at_call 28; refine q1'.mono ?_)
        rintro e W9 ⟨⟨s9, k9, rfl, o9⟩, b9⟩
        dsimp only
        rw [LD.out] at o9 ⊢
        clear c0 c1' c2' c3 d0 d1 q1'
        have hb9 := HBW.out.trans (b9.mono HBW.out.size)
        have dg9 := DG.out.keep b9
        have HB9 := Lib.hid hb9
        have al : Calls Try.prog 37 #[.slice s9 n k9, .slice s14 n k14] W9 fun e w' => e = .returned (.bool true) ∧ Below W9.heap.size W9 w' := by
          have h9 : IsL .i8 W9 dl (.slice s9 n k9) := o9.is
          have h14 : IsL .i8 W9 dl (.slice s14 dl.length k14) := dg9.is
          rw [LD.out] at h14
          exact alikeS h9 h14 (by rw [LD.out]; omega)
        clear o9 dg9 hb9 b9
        rcases TT.out with rfl | ⟨j', g', hn0, rfl, rfl, hcell⟩
        · go_wp2_with (go_at_call 37; refine al.mono ?_)
          first | (rintro e W10 rfl b10) | (rintro e W10 ⟨rfl, b10⟩)
          try dsimp only
          clear al
          have hb10 := HB9.out.trans (b10.mono HB9.out.size)
          have ys := YS.out.keep hb10
          have ym := YM.out.keep hb10
          have oa := OA.out.keep hb10
          have ob := OB.out.keep hb10
          have q2' := Q2.out W10 _ _ oa.is ob.is (fun q e => (oa.lt q e).2) (fun q e => (ob.lt q e).2)
          have d0 := ys.c0
          have d1 := ys.c1
          have HB10 := Lib.hid hb10
          clear hb10 b10 ys ym oa ob
          go_wp2_with (go_at_call 28; refine q2'.mono ?_)
          rintro e W11 ⟨⟨s11, k11, rfl, o11⟩, b11⟩
          dsimp only
          clear d0 d1 q2' o11
          have hb11 := HB10.out.trans (b11.mono HB10.out.size)
          have ys := YS.out.keep hb11
          have ym := YM.out.keep hb11
          have oa := OA.out.keep hb11
          have ob := OB.out.keep hb11
          have q3' := Q3.out W11 _ _ oa.is ob.is (fun q e => (oa.lt q e).2) (fun q e => (ob.lt q e).2)
          have d0 := ys.c0
          have d1 := ys.c1
          obtain ⟨c0, c1', c2', c3⟩ := ym.c
          have HB11 := Lib.hid hb11
          clear hb11 b11 ys ym oa ob
          go_wp2_with (go_at_call 23; refine q3'.mono ?_)
          rintro e W12 ⟨⟨s12, k12, rfl, o12⟩, b12⟩
          dsimp only
          have hb12 := HB11.out.trans (b12.mono HB11.out.size)
          have FIN := Lib.hid (BW.out.trans (hb12.mono BW.out.size))
          clear d0 d1 q3' o12 c0 c1' c2' c3 b12 hb12
          go_wp2
          go_ret
          exact ⟨rfl, FIN.out⟩
        · have hcell := Lib.hid hcell
          have ej : IntKind.i64.wrap ((j' : Int) + 1 - 1) = (j' : Int) := by rw [IntKind.wrap_i64]; omega
          go_wp2_with (go_at_call 37; refine al.mono ?_)
          first | (rintro e W10 rfl b10) | (rintro e W10 ⟨rfl, b10⟩)
          try dsimp only
          have y0 := hcell.out W10 (HB9.out.trans (b10.mono HB9.out.size))
          clear al
          have hb10 := HB9.out.trans (b10.mono HB9.out.size)
          have ys := YS.out.keep hb10
          have ym := YM.out.keep hb10
          have oa := OA.out.keep hb10
          have ob := OB.out.keep hb10
          have q2' := Q2.out W10 _ _ oa.is ob.is (fun q e => (oa.lt q e).2) (fun q e => (ob.lt q e).2)
          have d0 := ys.c0
          have d1 := ys.c1
          have HB10 := Lib.hid hb10
          clear hb10 b10 ys ym oa ob
          go_wp2_with (go_at_call 28; refine q2'.mono ?_)
          rintro e W11 ⟨⟨s11, k11, rfl, o11⟩, b11⟩
          dsimp only
          clear d0 d1 q2' o11
          have hb11 := HB10.out.trans (b11.mono HB10.out.size)
          have ys := YS.out.keep hb11
          have ym := YM.out.keep hb11
          have oa := OA.out.keep hb11
          have ob := OB.out.keep hb11
          have q3' := Q3.out W11 _ _ oa.is ob.is (fun q e => (oa.lt q e).2) (fun q e => (ob.lt q e).2)
          have d0 := ys.c0
          have d1 := ys.c1
          obtain ⟨c0, c1', c2', c3⟩ := ym.c
          have HB11 := Lib.hid hb11
          clear hb11 b11 ys ym oa ob
          go_wp2_with (go_at_call 23; refine q3'.mono ?_)
          rintro e W12 ⟨⟨s12, k12, rfl, o12⟩, b12⟩
          dsimp only
          have hb12 := HB11.out.trans (b12.mono HB11.out.size)
          have FIN := Lib.hid (BW.out.trans (hb12.mono BW.out.size))
          clear d0 d1 q3' o12 c0 c1' c2' c3 b12 hb12
          go_wp2
          go_ret
          exact ⟨rfl, FIN.out⟩
      · subst hj0
        have FIN := Lib.hid hBf
        clear hBf hb hown
        rcases hc with rfl | rfl
        · go_wp2
          go_ret
          exact ⟨rfl, FIN.out⟩
        · go_wp2
          go_ret
          exact ⟨rfl, FIN.out⟩
end Go.Proofs.Yteemkophifcimaa.Sx
