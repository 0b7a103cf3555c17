/-
  Products of sizes: contracts of 'times' and of its model, and the law on 'MulWides'.
-/
import Derived.Test.YtppbanmlifikpabU8
namespace Go.Proofs.Ytppbanmlifikpab.Sx
open Go Go.RowKit

theorem mul_bd {x y : Int} (hx : L32 x) (hy : L32 y) : 0 ≤ x * y ∧ x * y ≤ 18446744065119617025 :=
  ⟨Int.mul_nonneg hx.1 hy.1, by
    have := Int.mul_le_mul hx.2 hy.2 hy.1 (by omega)
    omega⟩

/-! ### The model's -/
theorem row_step {p o c s r q : Int} (hp : 0 ≤ p ∧ p ≤ 18446744065119617025) (ho : L32 o) (hc : L32 c) (hs : s = p + o + c) (hr : r = s % 4294967296) (hq : q = s / 4294967296) : p + o + c = 4294967296 * q + r ∧ L32 r ∧ L32 q := by omega
theorem row6 {x y0 y1 y2 y3 y4 y5 o0 o1 o2 o3 o4 o5 s0 r0 c0 s1 r1 c1 s2 r2 c2 s3 r3 c3 s4 r4 c4 s5 r5 c5 : Int} (hx : L32 x) (hy0 : L32 y0) (hy1 : L32 y1) (hy2 : L32 y2) (hy3 : L32 y3) (hy4 : L32 y4) (hy5 : L32 y5)
    (ho0 : L32 o0) (ho1 : L32 o1) (ho2 : L32 o2) (ho3 : L32 o3) (ho4 : L32 o4) (ho5 : L32 o5)
    (h0 : s0 = x * y0 + o0) (a0 : r0 = s0 % 4294967296) (b0 : c0 = s0 / 4294967296) (h1 : s1 = x * y1 + o1 + c0) (a1 : r1 = s1 % 4294967296) (b1 : c1 = s1 / 4294967296)
    (h2 : s2 = x * y2 + o2 + c1) (a2 : r2 = s2 % 4294967296) (b2 : c2 = s2 / 4294967296) (h3 : s3 = x * y3 + o3 + c2) (a3 : r3 = s3 % 4294967296) (b3 : c3 = s3 / 4294967296)
    (h4 : s4 = x * y4 + o4 + c3) (a4 : r4 = s4 % 4294967296) (b4 : c4 = s4 / 4294967296) (h5 : s5 = x * y5 + o5 + c4) (a5 : r5 = s5 % 4294967296) (b5 : c5 = s5 / 4294967296) :
    v6 r0 r1 r2 r3 r4 r5 + c5 * top = v6 y0 y1 y2 y3 y4 y5 * x + v6 o0 o1 o2 o3 o4 o5 ∧ L32 r0 ∧ L32 r1 ∧ L32 r2 ∧ L32 r3 ∧ L32 r4 ∧ L32 r5 ∧ L32 c5 := by
  have k0 := row_step (c := 0) (mul_bd hx hy0) ho0 (by omega) (by omega) a0 b0
  have k1 := row_step (mul_bd hx hy1) ho1 k0.2.2 h1 a1 b1
  have k2 := row_step (mul_bd hx hy2) ho2 k1.2.2 h2 a2 b2
  have k3 := row_step (mul_bd hx hy3) ho3 k2.2.2 h3 a3 b3
  have k4 := row_step (mul_bd hx hy4) ho4 k3.2.2 h4 a4 b4
  have k5 := row_step (mul_bd hx hy5) ho5 k4.2.2 h5 a5 b5
  clear h0 h1 h2 h3 h4 h5 a0 a1 a2 a3 a4 a5 b0 b1 b2 b3 b4 b5
  refine ⟨?_, k0.2.1, k1.2.1, k2.2.1, k3.2.1, k4.2.1, k5.2.1, k5.2.2⟩
  rw [v6_mul, Int.mul_comm y0, Int.mul_comm y1, Int.mul_comm y2, Int.mul_comm y3, Int.mul_comm y4, Int.mul_comm y5]
  unfold v6 top
  omega

theorem mulF_has {n n' a b c d e f a' b' c' d' e' f' : Int} : allHas (h7 ++ [(Kd.i .i64).iv]) (mulF [n, a, b, c, d, e, f, n', a', b', c', d', e', f']) := by
  unfold mulF
  simp only
  split
  · exact bad_has 3 ⟨by omega, by omega⟩
  · exact allHas_append (made_has (lim6_has _)) ⟨has1 ⟨by decide, by decide⟩, trivial⟩

set_option maxRecDepth 100000 in
theorem cMul' : CT Try.prog tb.fns (pres pr) 36 s36 :=
  k36 tb noI noM pr ⟨rfl, trivial⟩ ⟨fun _ _ => trivial, trivial⟩ rfl ⟨cMade', trivial⟩ fun v0 v1 v2 v3 v4 v5 v6' v7 v8 v9 v10 v11 v12 v13 hn hx0 hx1 hx2 hx3 hx4 hx5 hn' hy0 hy1 hy2 hy3 hy4 hy5 _ => by
    unfold p36
    have e0 : tb.fn 36 [v0, v1, v2, v3, v4, v5, v6', v7, v8, v9, v10, v11, v12, v13] = mulF [v0, v1, v2, v3, v4, v5, v6', v7, v8, v9, v10, v11, v12, v13] := rfl
    rw [e0]
    intro v14 h14 v15 h15 v16 h16 v17 h17 v18 h18 v19 h19 v20 h20 v21 h21 v22 h22 v23 h23 v24 h24 v25 h25 v26 h26 v27 h27 v28 h28 v29 h29 v30 h30 v31 h31 v32 h32 v33 h33 v34 h34 v35 h35 v36 h36 v37 h37 v38 h38 v39 h39 v40 h40 v41 h41 v42 h42 v43 h43 v44 h44 v45 h45 v46 h46 v47 h47 v48 h48 v49 h49 v50 h50 v51 h51 v52 h52 v53 h53 v54 h54 v55 h55 v56 h56 v57 h57 v58 h58 v59 h59 v60 h60 v61 h61 v62 h62 v63 h63 v64 h64 v65 h65 v66 h66 v67 h67 v68 h68 v69 h69 v70 h70 v71 h71 v72 h72 v73 h73 v74 h74 v75 h75 v76 h76 v77 h77 v78 h78 v79 h79 v80 h80 v81 h81 v82 h82 v83 h83 v84 h84 v85 h85 v86 h86 v87 h87 v88 h88 v89 h89 v90 h90 v91 h91 v92 h92 v93 h93 v94 h94 v95 h95 v96 h96 v97 h97 v98 h98 v99 h99 v100 h100 v101 h101 v102 h102 v103 h103 v104 h104 v105 h105 v106 h106 v107 h107 v108 h108 v109 h109 v110 h110 v111 h111 v112 h112 v113 h113 v114 h114 v115 h115 v116 h116 v117 h117 v118 h118 v119 h119 v120 h120 v121 h121
    have k0 := row6 (o0 := 0) (o1 := 0) (o2 := 0) (o3 := 0) (o4 := 0) (o5 := 0) hx0 hy0 hy1 hy2 hy3 hy4 hy5 (by omega : L32 0) (by omega : L32 0) (by omega : L32 0) (by omega : L32 0) (by omega : L32 0) (by omega : L32 0) (by rw [h14]; omega) (h15.trans (wrap_u32 _)) h16 (by rw [h17]; omega) (h18.trans (wrap_u32 _)) h19 (by rw [h20]; omega) (h21.trans (wrap_u32 _)) h22 (by rw [h23]; omega) (h24.trans (wrap_u32 _)) h25 (by rw [h26]; omega) (h27.trans (wrap_u32 _)) h28 (by rw [h29]; omega) (h30.trans (wrap_u32 _)) h31
    have k1 := row6 hx1 hy0 hy1 hy2 hy3 hy4 hy5 k0.2.2.1 k0.2.2.2.1 k0.2.2.2.2.1 k0.2.2.2.2.2.1 k0.2.2.2.2.2.2.1 k0.2.2.2.2.2.2.2 h32 (h33.trans (wrap_u32 _)) h34 h35 (h36.trans (wrap_u32 _)) h37 h38 (h39.trans (wrap_u32 _)) h40 h41 (h42.trans (wrap_u32 _)) h43 h44 (h45.trans (wrap_u32 _)) h46 h47 (h48.trans (wrap_u32 _)) h49
    have k2 := row6 hx2 hy0 hy1 hy2 hy3 hy4 hy5 k1.2.2.1 k1.2.2.2.1 k1.2.2.2.2.1 k1.2.2.2.2.2.1 k1.2.2.2.2.2.2.1 k1.2.2.2.2.2.2.2 h50 (h51.trans (wrap_u32 _)) h52 h53 (h54.trans (wrap_u32 _)) h55 h56 (h57.trans (wrap_u32 _)) h58 h59 (h60.trans (wrap_u32 _)) h61 h62 (h63.trans (wrap_u32 _)) h64 h65 (h66.trans (wrap_u32 _)) h67
    have k3 := row6 hx3 hy0 hy1 hy2 hy3 hy4 hy5 k2.2.2.1 k2.2.2.2.1 k2.2.2.2.2.1 k2.2.2.2.2.2.1 k2.2.2.2.2.2.2.1 k2.2.2.2.2.2.2.2 h68 (h69.trans (wrap_u32 _)) h70 h71 (h72.trans (wrap_u32 _)) h73 h74 (h75.trans (wrap_u32 _)) h76 h77 (h78.trans (wrap_u32 _)) h79 h80 (h81.trans (wrap_u32 _)) h82 h83 (h84.trans (wrap_u32 _)) h85
    have k4 := row6 hx4 hy0 hy1 hy2 hy3 hy4 hy5 k3.2.2.1 k3.2.2.2.1 k3.2.2.2.2.1 k3.2.2.2.2.2.1 k3.2.2.2.2.2.2.1 k3.2.2.2.2.2.2.2 h86 (h87.trans (wrap_u32 _)) h88 h89 (h90.trans (wrap_u32 _)) h91 h92 (h93.trans (wrap_u32 _)) h94 h95 (h96.trans (wrap_u32 _)) h97 h98 (h99.trans (wrap_u32 _)) h100 h101 (h102.trans (wrap_u32 _)) h103
    have k5 := row6 hx5 hy0 hy1 hy2 hy3 hy4 hy5 k4.2.2.1 k4.2.2.2.1 k4.2.2.2.2.1 k4.2.2.2.2.2.1 k4.2.2.2.2.2.2.1 k4.2.2.2.2.2.2.2 h104 (h105.trans (wrap_u32 _)) h106 h107 (h108.trans (wrap_u32 _)) h109 h110 (h111.trans (wrap_u32 _)) h112 h113 (h114.trans (wrap_u32 _)) h115 h116 (h117.trans (wrap_u32 _)) h118 h119 (h120.trans (wrap_u32 _)) h121
    clear h14 h15 h16 h17 h18 h19 h20 h21 h22 h23 h24 h25 h26 h27 h28 h29 h30 h31 h32 h33 h34 h35 h36 h37 h38 h39 h40 h41 h42 h43 h44 h45 h46 h47 h48 h49 h50 h51 h52 h53 h54 h55 h56 h57 h58 h59 h60 h61 h62 h63 h64 h65 h66 h67 h68 h69 h70 h71 h72 h73 h74 h75 h76 h77 h78 h79 h80 h81 h82 h83 h84 h85 h86 h87 h88 h89 h90 h91 h92 h93 h94 h95 h96 h97 h98 h99 h100 h101 h102 h103 h104 h105 h106 h107 h108 h109 h110 h111 h112 h113 h114 h115 h116 h117 h118 h119 h120 h121
    have hXY : v6 v1 v2 v3 v4 v5 v6' * v6 v8 v9 v10 v11 v12 v13 = v6 v15 v33 v51 v69 v87 v105 + v6 v108 v111 v114 v117 v120 v121 * top := by
      rw [v6_mul, Int.mul_comm v1, Int.mul_comm v2, Int.mul_comm v3, Int.mul_comm v4, Int.mul_comm v5, Int.mul_comm v6']
      have e0 := k0.1; have e1 := k1.1; have e2 := k2.1; have e3 := k3.1; have e4 := k4.1; have e5 := k5.1
      generalize v6 v8 v9 v10 v11 v12 v13 * v1 = T0 at *
      generalize v6 v8 v9 v10 v11 v12 v13 * v2 = T1 at *
      generalize v6 v8 v9 v10 v11 v12 v13 * v3 = T2 at *
      generalize v6 v8 v9 v10 v11 v12 v13 * v4 = T3 at *
      generalize v6 v8 v9 v10 v11 v12 v13 * v5 = T4 at *
      generalize v6 v8 v9 v10 v11 v12 v13 * v6' = T5 at *
      unfold v6 top at *
      clear k0 k1 k2 k3 k4 k5
      omega
    have hlo : [v15, v33, v51, v69, v87, v105] = lim6 (v6 v1 v2 v3 v4 v5 v6' * v6 v8 v9 v10 v11 v12 v13) := lim6_of (v6 v108 v111 v114 v117 v120 v121) hXY.symm k0.2.1 k1.2.1 k2.2.1 k3.2.1 k4.2.1 k5.2.1
    have hL : allHas h6 [v15, v33, v51, v69, v87, v105] := has6 k0.2.1 k1.2.1 k2.2.1 k3.2.1 k4.2.1 k5.2.1
    have bL := v6_bd k0.2.1 k1.2.1 k2.2.1 k3.2.1 k4.2.1 k5.2.1
    have bH := v6_bd k5.2.2.1 k5.2.2.2.1 k5.2.2.2.2.1 k5.2.2.2.2.2.1 k5.2.2.2.2.2.2.1 k5.2.2.2.2.2.2.2
    have big : (v108 ≠ 0 ∨ v111 ≠ 0 ∨ v114 ≠ 0 ∨ v117 ≠ 0 ∨ v120 ≠ 0 ∨ v121 ≠ 0) → [0, 0, 0, 0, 0, 0, 0, 3] = mulF [v0, v1, v2, v3, v4, v5, v6', v7, v8, v9, v10, v11, v12, v13] := by
      intro h
      simp only [mulF]
      rw [if_pos]
      rw [hXY]
      have : 1 ≤ v6 v108 v111 v114 v117 v120 v121 := by
        have g5 := k5.2.2
        unfold v6
        clear k0 k1 k2 k3 k4 k5 hXY hlo hL bL bH
        omega
      unfold top at *
      omega
    refine ⟨fun g => big (.inl (by simpa using g)), fun g0 => ⟨fun g => big (.inr (.inl (by simpa using g))), fun g1 => ⟨fun g => big (.inr (.inr (.inl (by simpa using g)))), fun g2 => ⟨fun g => big (.inr (.inr (.inr (.inl (by simpa using g))))), fun g3 => ⟨fun g => big (.inr (.inr (.inr (.inr (.inl (by simpa using g)))))), fun g4 => ⟨fun g => big (.inr (.inr (.inr (.inr (.inr (by simpa using g)))))), fun g5 w0 w1 w2 w3 w4 w5 w6 hw => ?_⟩⟩⟩⟩⟩⟩
    have hw := out1 (g := 64) rfl rfl (F := madeF) rfl hw (made_has hL)
    have hz : v6 v108 v111 v114 v117 v120 v121 = 0 := by
      simp only [Bool.not_eq_false', decide_eq_true_eq] at g0 g1 g2 g3 g4 g5
      rw [g0, g1, g2, g3, g4, g5]; rfl
    rw [hz] at hXY
    have : mulF [v0, v1, v2, v3, v4, v5, v6', v7, v8, v9, v10, v11, v12, v13] = [w0, w1, w2, w3, w4, w5, w6] ++ [0] := by
      simp only [mulF]
      rw [if_neg (by unfold top at *; omega), hw, made_eq, hlo]
      congr 2
      by_cases q : v0 = 1 <;> by_cases q' : v7 = 1 <;> simp [q, q']
    rw [this]; rfl

theorem ok_two {g : Nat} (hg : tb.sig g = some s35) (hF : tb.fn g = validF) {n a b c d e f y : Int} (hy : [y] = tb.out g 1 [n, a, b, c, d, e, f]) : (y = 1 ↔ validF [n, a, b, c, d, e, f] = [1]) ∧ (y = 1 ∨ y = 0) := by
  have hy := out1 hg rfl (F := validF) hF hy (valid_has _ _ _ _ _ _ _)
  rw [← hy]
  refine ⟨by simp, ?_⟩
  simp only [validF, List.cons.injEq, and_true] at hy
  split at hy <;> omega
theorem valid_two {g : Nat} (hg : tb.sig g = some s38) (hF : tb.fn g = validF) {n a b c d e f y : Int} (hy : [y] = tb.out g 1 [n, a, b, c, d, e, f]) : (y = 1 ↔ validF [n, a, b, c, d, e, f] = [1]) ∧ (y = 1 ∨ y = 0) := by
  have hy := out1 hg rfl (F := validF) hF hy (valid_has _ _ _ _ _ _ _)
  rw [← hy]
  refine ⟨by simp, ?_⟩
  simp only [validF, List.cons.injEq, and_true] at hy
  split at hy <;> omega
theorem mulW_has {n n' a b c d e f a' b' c' d' e' f' : Int} : allHas (h7 ++ [(Kd.i .i64).iv]) (mulWF [n, a, b, c, d, e, f, n', a', b', c', d', e', f']) := by
  unfold mulWF
  split
  · exact mulF_has
  · exact bad_has 1 ⟨by omega, by omega⟩
end Go.Proofs.Ytppbanmlifikpab.Sx
