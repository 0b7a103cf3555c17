/-
  Products of sizes: contracts of 'times' and of its model, and the law on 'MulWides'.
  'MulWides', of the program and of its model, and the law that compares them.
  'PowerWide', of the program and of its model, and the law that compares them.
  Plain mathematics of division bit by bit: no word of the program.
  Division bit by bit, as the model does it: its contract.
  Division bit by bit, as the model does it: the loop; division by a single limb.
  Division by guessed limbs: what the guess is, and how near it comes. Numbers only.
  Division by guessed limbs: the guess.
  Division by a single limb: its contract.
  A size shifted up, with what goes over: its contract.
  Division by guessed limbs: what is taken away.
  Division by guessed limbs: what is given back.
  Division by guessed limbs: one column, on values.
  The zeros ahead of a limb, and a divisor that is shifted by them.
  Division by guessed limbs: the guess at a column of a row.
  Division by guessed limbs: a whole column.
  Division by guessed limbs: what the loop over the columns keeps, on values.
-/
import Derived.Test.YtmlmdicdblgcfaaUA
import Derived.Test.YtmlmdicdblgcfaaVB
import Derived.Test.YtmlmdicdblgcfaaX1
namespace Go.Proofs.Ytmlmdicdblgcfaa.Sx
open Go Go.RowKit

theorem mul_bd {x y : Int} (hx : L32 x) (hy : L32 y) : 0 ≤ x * y ∧ x * y ≤ 18446744065119617025 :=
  ⟨Int.mul_nonneg hx.1 hy.1, by
    have := Int.mul_le_mul hx.2 hy.2 hy.1 (by omega)
    omega⟩

/-! ### The model's -/
theorem row_step {p o c s r q : Int} (hp : 0 ≤ p ∧ p ≤ 18446744065119617025) (ho : L32 o) (hc : L32 c) (hs : s = p + o + c) (hr : r = s % 4294967296) (hq : q = s / 4294967296) : p + o + c = 4294967296 * q + r ∧ L32 r ∧ L32 q := by omega
theorem row6 {x y0 y1 y2 y3 y4 y5 o0 o1 o2 o3 o4 o5 s0 r0 c0 s1 r1 c1 s2 r2 c2 s3 r3 c3 s4 r4 c4 s5 r5 c5 : Int} (hx : L32 x) (hy0 : L32 y0) (hy1 : L32 y1) (hy2 : L32 y2) (hy3 : L32 y3) (hy4 : L32 y4) (hy5 : L32 y5)
    (ho0 : L32 o0) (ho1 : L32 o1) (ho2 : L32 o2) (ho3 : L32 o3) (ho4 : L32 o4) (ho5 : L32 o5)
    (h0 : s0 = x * y0 + o0) (a0 : r0 = s0 % 4294967296) (b0 : c0 = s0 / 4294967296) (h1 : s1 = x * y1 + o1 + c0) (a1 : r1 = s1 % 4294967296) (b1 : c1 = s1 / 4294967296)
    (h2 : s2 = x * y2 + o2 + c1) (a2 : r2 = s2 % 4294967296) (b2 : c2 = s2 / 4294967296) (h3 : s3 = x * y3 + o3 + c2) (a3 : r3 = s3 % 4294967296) (b3 : c3 = s3 / 4294967296)
    (h4 : s4 = x * y4 + o4 + c3) (a4 : r4 = s4 % 4294967296) (b4 : c4 = s4 / 4294967296) (h5 : s5 = x * y5 + o5 + c4) (a5 : r5 = s5 % 4294967296) (b5 : c5 = s5 / 4294967296) :
    v6 r0 r1 r2 r3 r4 r5 + c5 * top = v6 y0 y1 y2 y3 y4 y5 * x + v6 o0 o1 o2 o3 o4 o5 ∧ L32 r0 ∧ L32 r1 ∧ L32 r2 ∧ L32 r3 ∧ L32 r4 ∧ L32 r5 ∧ L32 c5 := by
  have k0 := row_step (c := 0) (mul_bd hx hy0) ho0 (by omega) (by omega) a0 b0
  have k1 := row_step (mul_bd hx hy1) ho1 k0.2.2 h1 a1 b1
  have k2 := row_step (mul_bd hx hy2) ho2 k1.2.2 h2 a2 b2
  have k3 := row_step (mul_bd hx hy3) ho3 k2.2.2 h3 a3 b3
  have k4 := row_step (mul_bd hx hy4) ho4 k3.2.2 h4 a4 b4
  have k5 := row_step (mul_bd hx hy5) ho5 k4.2.2 h5 a5 b5
  clear h0 h1 h2 h3 h4 h5 a0 a1 a2 a3 a4 a5 b0 b1 b2 b3 b4 b5
  refine ⟨?_, k0.2.1, k1.2.1, k2.2.1, k3.2.1, k4.2.1, k5.2.1, k5.2.2⟩
  rw [v6_mul, Int.mul_comm y0, Int.mul_comm y1, Int.mul_comm y2, Int.mul_comm y3, Int.mul_comm y4, Int.mul_comm y5]
  unfold v6 top
  omega

theorem mulF_has {n n' a b c d e f a' b' c' d' e' f' : Int} : allHas (h7 ++ [(Kd.i .i64).iv]) (mulF [n, a, b, c, d, e, f, n', a', b', c', d', e', f']) := by
  unfold mulF
  simp only
  split
  · exact bad_has 3 ⟨by omega, by omega⟩
  · exact allHas_append (made_has (lim6_has _)) ⟨has1 ⟨by decide, by decide⟩, trivial⟩

set_option maxRecDepth 100000 in
theorem cMul' : CT Try.prog tb.fns (pres pr) 42 s42 :=
  k42 tb noI noM pr ⟨rfl, trivial⟩ ⟨fun _ _ => trivial, trivial⟩ rfl ⟨cMade', trivial⟩ fun v0 v1 v2 v3 v4 v5 v6' v7 v8 v9 v10 v11 v12 v13 hn hx0 hx1 hx2 hx3 hx4 hx5 hn' hy0 hy1 hy2 hy3 hy4 hy5 _ => by
    unfold p42
    have e0 : tb.fn 42 [v0, v1, v2, v3, v4, v5, v6', v7, v8, v9, v10, v11, v12, v13] = mulF [v0, v1, v2, v3, v4, v5, v6', v7, v8, v9, v10, v11, v12, v13] := rfl
    rw [e0]
    intro v14 h14 v15 h15 v16 h16 v17 h17 v18 h18 v19 h19 v20 h20 v21 h21 v22 h22 v23 h23 v24 h24 v25 h25 v26 h26 v27 h27 v28 h28 v29 h29 v30 h30 v31 h31 v32 h32 v33 h33 v34 h34 v35 h35 v36 h36 v37 h37 v38 h38 v39 h39 v40 h40 v41 h41 v42 h42 v43 h43 v44 h44 v45 h45 v46 h46 v47 h47 v48 h48 v49 h49 v50 h50 v51 h51 v52 h52 v53 h53 v54 h54 v55 h55 v56 h56 v57 h57 v58 h58 v59 h59 v60 h60 v61 h61 v62 h62 v63 h63 v64 h64 v65 h65 v66 h66 v67 h67 v68 h68 v69 h69 v70 h70 v71 h71 v72 h72 v73 h73 v74 h74 v75 h75 v76 h76 v77 h77 v78 h78 v79 h79 v80 h80 v81 h81 v82 h82 v83 h83 v84 h84 v85 h85 v86 h86 v87 h87 v88 h88 v89 h89 v90 h90 v91 h91 v92 h92 v93 h93 v94 h94 v95 h95 v96 h96 v97 h97 v98 h98 v99 h99 v100 h100 v101 h101 v102 h102 v103 h103 v104 h104 v105 h105 v106 h106 v107 h107 v108 h108 v109 h109 v110 h110 v111 h111 v112 h112 v113 h113 v114 h114 v115 h115 v116 h116 v117 h117 v118 h118 v119 h119 v120 h120 v121 h121
    have k0 := row6 (o0 := 0) (o1 := 0) (o2 := 0) (o3 := 0) (o4 := 0) (o5 := 0) hx0 hy0 hy1 hy2 hy3 hy4 hy5 (by omega : L32 0) (by omega : L32 0) (by omega : L32 0) (by omega : L32 0) (by omega : L32 0) (by omega : L32 0) (by rw [h14]; omega) (h15.trans (wrap_u32 _)) h16 (by rw [h17]; omega) (h18.trans (wrap_u32 _)) h19 (by rw [h20]; omega) (h21.trans (wrap_u32 _)) h22 (by rw [h23]; omega) (h24.trans (wrap_u32 _)) h25 (by rw [h26]; omega) (h27.trans (wrap_u32 _)) h28 (by rw [h29]; omega) (h30.trans (wrap_u32 _)) h31
    have k1 := row6 hx1 hy0 hy1 hy2 hy3 hy4 hy5 k0.2.2.1 k0.2.2.2.1 k0.2.2.2.2.1 k0.2.2.2.2.2.1 k0.2.2.2.2.2.2.1 k0.2.2.2.2.2.2.2 h32 (h33.trans (wrap_u32 _)) h34 h35 (h36.trans (wrap_u32 _)) h37 h38 (h39.trans (wrap_u32 _)) h40 h41 (h42.trans (wrap_u32 _)) h43 h44 (h45.trans (wrap_u32 _)) h46 h47 (h48.trans (wrap_u32 _)) h49
    have k2 := row6 hx2 hy0 hy1 hy2 hy3 hy4 hy5 k1.2.2.1 k1.2.2.2.1 k1.2.2.2.2.1 k1.2.2.2.2.2.1 k1.2.2.2.2.2.2.1 k1.2.2.2.2.2.2.2 h50 (h51.trans (wrap_u32 _)) h52 h53 (h54.trans (wrap_u32 _)) h55 h56 (h57.trans (wrap_u32 _)) h58 h59 (h60.trans (wrap_u32 _)) h61 h62 (h63.trans (wrap_u32 _)) h64 h65 (h66.trans (wrap_u32 _)) h67
    have k3 := row6 hx3 hy0 hy1 hy2 hy3 hy4 hy5 k2.2.2.1 k2.2.2.2.1 k2.2.2.2.2.1 k2.2.2.2.2.2.1 k2.2.2.2.2.2.2.1 k2.2.2.2.2.2.2.2 h68 (h69.trans (wrap_u32 _)) h70 h71 (h72.trans (wrap_u32 _)) h73 h74 (h75.trans (wrap_u32 _)) h76 h77 (h78.trans (wrap_u32 _)) h79 h80 (h81.trans (wrap_u32 _)) h82 h83 (h84.trans (wrap_u32 _)) h85
    have k4 := row6 hx4 hy0 hy1 hy2 hy3 hy4 hy5 k3.2.2.1 k3.2.2.2.1 k3.2.2.2.2.1 k3.2.2.2.2.2.1 k3.2.2.2.2.2.2.1 k3.2.2.2.2.2.2.2 h86 (h87.trans (wrap_u32 _)) h88 h89 (h90.trans (wrap_u32 _)) h91 h92 (h93.trans (wrap_u32 _)) h94 h95 (h96.trans (wrap_u32 _)) h97 h98 (h99.trans (wrap_u32 _)) h100 h101 (h102.trans (wrap_u32 _)) h103
    have k5 := row6 hx5 hy0 hy1 hy2 hy3 hy4 hy5 k4.2.2.1 k4.2.2.2.1 k4.2.2.2.2.1 k4.2.2.2.2.2.1 k4.2.2.2.2.2.2.1 k4.2.2.2.2.2.2.2 h104 (h105.trans (wrap_u32 _)) h106 h107 (h108.trans (wrap_u32 _)) h109 h110 (h111.trans (wrap_u32 _)) h112 h113 (h114.trans (wrap_u32 _)) h115 h116 (h117.trans (wrap_u32 _)) h118 h119 (h120.trans (wrap_u32 _)) h121
    clear h14 h15 h16 h17 h18 h19 h20 h21 h22 h23 h24 h25 h26 h27 h28 h29 h30 h31 h32 h33 h34 h35 h36 h37 h38 h39 h40 h41 h42 h43 h44 h45 h46 h47 h48 h49 h50 h51 h52 h53 h54 h55 h56 h57 h58 h59 h60 h61 h62 h63 h64 h65 h66 h67 h68 h69 h70 h71 h72 h73 h74 h75 h76 h77 h78 h79 h80 h81 h82 h83 h84 h85 h86 h87 h88 h89 h90 h91 h92 h93 h94 h95 h96 h97 h98 h99 h100 h101 h102 h103 h104 h105 h106 h107 h108 h109 h110 h111 h112 h113 h114 h115 h116 h117 h118 h119 h120 h121
    have hXY : v6 v1 v2 v3 v4 v5 v6' * v6 v8 v9 v10 v11 v12 v13 = v6 v15 v33 v51 v69 v87 v105 + v6 v108 v111 v114 v117 v120 v121 * top := by
      rw [v6_mul, Int.mul_comm v1, Int.mul_comm v2, Int.mul_comm v3, Int.mul_comm v4, Int.mul_comm v5, Int.mul_comm v6']
      have e0 := k0.1; have e1 := k1.1; have e2 := k2.1; have e3 := k3.1; have e4 := k4.1; have e5 := k5.1
      generalize v6 v8 v9 v10 v11 v12 v13 * v1 = T0 at *
      generalize v6 v8 v9 v10 v11 v12 v13 * v2 = T1 at *
      generalize v6 v8 v9 v10 v11 v12 v13 * v3 = T2 at *
      generalize v6 v8 v9 v10 v11 v12 v13 * v4 = T3 at *
      generalize v6 v8 v9 v10 v11 v12 v13 * v5 = T4 at *
      generalize v6 v8 v9 v10 v11 v12 v13 * v6' = T5 at *
      unfold v6 top at *
      clear k0 k1 k2 k3 k4 k5
      omega
    have hlo : [v15, v33, v51, v69, v87, v105] = lim6 (v6 v1 v2 v3 v4 v5 v6' * v6 v8 v9 v10 v11 v12 v13) := lim6_of (v6 v108 v111 v114 v117 v120 v121) hXY.symm k0.2.1 k1.2.1 k2.2.1 k3.2.1 k4.2.1 k5.2.1
    have hL : allHas h6 [v15, v33, v51, v69, v87, v105] := has6 k0.2.1 k1.2.1 k2.2.1 k3.2.1 k4.2.1 k5.2.1
    have bL := v6_bd k0.2.1 k1.2.1 k2.2.1 k3.2.1 k4.2.1 k5.2.1
    have bH := v6_bd k5.2.2.1 k5.2.2.2.1 k5.2.2.2.2.1 k5.2.2.2.2.2.1 k5.2.2.2.2.2.2.1 k5.2.2.2.2.2.2.2
    have big : (v108 ≠ 0 ∨ v111 ≠ 0 ∨ v114 ≠ 0 ∨ v117 ≠ 0 ∨ v120 ≠ 0 ∨ v121 ≠ 0) → [0, 0, 0, 0, 0, 0, 0, 3] = mulF [v0, v1, v2, v3, v4, v5, v6', v7, v8, v9, v10, v11, v12, v13] := by
      intro h
      simp only [mulF]
      rw [if_pos]
      rw [hXY]
      have : 1 ≤ v6 v108 v111 v114 v117 v120 v121 := by
        have g5 := k5.2.2
        unfold v6
        clear k0 k1 k2 k3 k4 k5 hXY hlo hL bL bH
        omega
      unfold top at *
      omega
    refine ⟨fun g => big (.inl (by simpa using g)), fun g0 => ⟨fun g => big (.inr (.inl (by simpa using g))), fun g1 => ⟨fun g => big (.inr (.inr (.inl (by simpa using g)))), fun g2 => ⟨fun g => big (.inr (.inr (.inr (.inl (by simpa using g))))), fun g3 => ⟨fun g => big (.inr (.inr (.inr (.inr (.inl (by simpa using g)))))), fun g4 => ⟨fun g => big (.inr (.inr (.inr (.inr (.inr (by simpa using g)))))), fun g5 w0 w1 w2 w3 w4 w5 w6 hw => ?_⟩⟩⟩⟩⟩⟩
    have hw := out1 (g := 70) rfl rfl (F := madeF) rfl hw (made_has hL)
    have hz : v6 v108 v111 v114 v117 v120 v121 = 0 := by
      simp only [Bool.not_eq_false', decide_eq_true_eq] at g0 g1 g2 g3 g4 g5
      rw [g0, g1, g2, g3, g4, g5]; rfl
    rw [hz] at hXY
    have : mulF [v0, v1, v2, v3, v4, v5, v6', v7, v8, v9, v10, v11, v12, v13] = [w0, w1, w2, w3, w4, w5, w6] ++ [0] := by
      simp only [mulF]
      rw [if_neg (by unfold top at *; omega), hw, made_eq, hlo]
      congr 2
      by_cases q : v0 = 1 <;> by_cases q' : v7 = 1 <;> simp [q, q']
    rw [this]; rfl

theorem ok_two {g : Nat} (hg : tb.sig g = some s41) (hF : tb.fn g = validF) {n a b c d e f y : Int} (hy : [y] = tb.out g 1 [n, a, b, c, d, e, f]) : (y = 1 ↔ validF [n, a, b, c, d, e, f] = [1]) ∧ (y = 1 ∨ y = 0) := by
  have hy := out1 hg rfl (F := validF) hF hy (valid_has _ _ _ _ _ _ _)
  rw [← hy]
  refine ⟨by simp, ?_⟩
  simp only [validF, List.cons.injEq, and_true] at hy
  split at hy <;> omega
theorem valid_two {g : Nat} (hg : tb.sig g = some s44) (hF : tb.fn g = validF) {n a b c d e f y : Int} (hy : [y] = tb.out g 1 [n, a, b, c, d, e, f]) : (y = 1 ↔ validF [n, a, b, c, d, e, f] = [1]) ∧ (y = 1 ∨ y = 0) := by
  have hy := out1 hg rfl (F := validF) hF hy (valid_has _ _ _ _ _ _ _)
  rw [← hy]
  refine ⟨by simp, ?_⟩
  simp only [validF, List.cons.injEq, and_true] at hy
  split at hy <;> omega
theorem mulW_has {n n' a b c d e f a' b' c' d' e' f' : Int} : allHas (h7 ++ [(Kd.i .i64).iv]) (mulWF [n, a, b, c, d, e, f, n', a', b', c', d', e', f']) := by
  unfold mulWF
  split
  · exact mulF_has
  · exact bad_has 1 ⟨by omega, by omega⟩
end Go.Proofs.Ytmlmdicdblgcfaa.Sx

namespace Go.Proofs.Ytmlmdicdblgcfaa.Sx
open Go Go.RowKit

/-- 2 to the power 32 t. -/
def pw (t : Int) : Int := 2 ^ (32 * t.toNat)
theorem pw_succ {t : Int} (h : 0 ≤ t) : pw (t + 1) = 4294967296 * pw t := by
  unfold pw
  rw [show 32 * (t + 1).toNat = 32 + 32 * t.toNat by omega, Int.pow_add]; rfl
theorem pw_add {i j : Int} (h : 0 ≤ i) (k : 0 ≤ j) : pw (i + j) = pw i * pw j := by
  unfold pw
  rw [show 32 * (i + j).toNat = 32 * i.toNat + 32 * j.toNat by omega, Int.pow_add]
theorem pw_pos (t : Int) : 0 < pw t := pow_pos' _
/-- The value of the first limbs. -/
def low (a b c d e f i : Int) : Int := v6 (if 0 < i then a else 0) (if 1 < i then b else 0) (if 2 < i then c else 0) (if 3 < i then d else 0) (if 4 < i then e else 0) (if 5 < i then f else 0)
theorem six {i : Int} (h0 : 0 ≤ i) (h5 : i ≤ 5) : i = 0 ∨ i = 1 ∨ i = 2 ∨ i = 3 ∨ i = 4 ∨ i = 5 := by omega
theorem low_zero (a b c d e f : Int) : low a b c d e f 0 = 0 := rfl
theorem low_succ {a b c d e f i : Int} (h0 : 0 ≤ i) (h5 : i ≤ 5) : low a b c d e f (i + 1) = low a b c d e f i + pw i * lb a b c d e f i := by
  rcases six h0 h5 with rfl | rfl | rfl | rfl | rfl | rfl <;> (simp [low, lb, pw, v6]; try omega)
theorem low_lt {a b c d e f : Int} (ha : L32 a) (hb : L32 b) (hc : L32 c) (hd : L32 d) (he : L32 e) (hf : L32 f) {i : Int} (h0 : 0 ≤ i) (h6 : i ≤ 6) : 0 ≤ low a b c d e f i ∧ low a b c d e f i < pw i := by
  have cs : i = 0 ∨ i = 1 ∨ i = 2 ∨ i = 3 ∨ i = 4 ∨ i = 5 ∨ i = 6 := by omega
  rcases cs with rfl | rfl | rfl | rfl | rfl | rfl | rfl <;> (simp [low, pw, v6]; try omega)
theorem low_all {a b c d e f m : Int} (hm : m = used6 a b c d e f) : low a b c d e f m = v6 a b c d e f ∧ 0 ≤ m ∧ m ≤ 6 := by
  unfold used6 at hm
  (repeat' split at hm) <;> subst hm <;> simp_all [low]
/-- A limb put in place of another one. -/
theorem v6_put {a b c d e f a' b' c' d' e' f' i X : Int} {U : Int → Int} (h0 : 0 ≤ i) (h5 : i ≤ 5) (g : Cells a b c d e f U) (g' : Cells a' b' c' d' e' f' (fun j => if j = i then X else U j)) :
    v6 a' b' c' d' e' f' = v6 a b c d e f + pw i * (X - lb a b c d e f i) := by
  rw [g.lb h0 h5]
  obtain ⟨rfl, rfl, rfl, rfl, rfl, rfl⟩ := g
  obtain ⟨rfl, rfl, rfl, rfl, rfl, rfl⟩ := g'
  rcases six h0 h5 with rfl | rfl | rfl | rfl | rfl | rfl <;> (simp [pw, v6]; omega)
theorem lb_small {a b c d e f : Int} (ha : L32 a) (hb : L32 b) (hc : L32 c) (hd : L32 d) (he : L32 e) (hf : L32 f) {t : Int} (h0 : 0 ≤ t) (h5 : t ≤ 5) (h : v6 a b c d e f < pw t) : lb a b c d e f t = 0 := by
  rcases six h0 h5 with rfl | rfl | rfl | rfl | rfl | rfl <;> (simp [pw, v6] at h; simp [lb]; omega)
theorem cells_of (a b c d e f : Int) : Cells a b c d e f (lb a b c d e f) := ⟨rfl, rfl, rfl, rfl, rfl, rfl⟩

theorem ring1 {vq vq' c s q r qt A D W L xi yj P0 : Int} (hW : W = A * D) (h1 : vq + c * W = P0 + A * xi * L) (hs : s = xi * yj + qt + c) (hd : s = 4294967296 * q + r) (hq : vq' = vq + W * (r - qt)) : vq' + q * (4294967296 * W) = P0 + A * xi * (L + D * yj) := by
  subst hW
  grind

abbrev i8 : Iv := ⟨0, 6⟩
def timesI : Nat → List Int → List Int → Prop := fun k pre ys => match k, pre, ys with
  | 0, [x0, x1, x2, x3, x4, x5, y0, y1, y2, y3, y4, y5, m, _], [o, i, p0, p1, p2, p3, p4, p5] => i ≤ m ∧ ∃ e : Int, 0 ≤ e ∧ v6 p0 p1 p2 p3 p4 p5 + e * top = low x0 x1 x2 x3 x4 x5 i * v6 y0 y1 y2 y3 y4 y5 ∧ (o = 1 ↔ e ≠ 0) ∧ (e ≠ 0 → i = m)
  | 1, [x0, x1, x2, x3, x4, x5, y0, y1, y2, y3, y4, y5, _, n, _, i, p0, p1, p2, p3, p4, p5], [c, j, q0, q1, q2, q3, q4, q5] => j ≤ n ∧ v6 q0 q1 q2 q3 q4 q5 + c * pw (i + j) = v6 p0 p1 p2 p3 p4 p5 + pw i * lb x0 x1 x2 x3 x4 x5 i * low y0 y1 y2 y3 y4 y5 j ∧
      ∀ t, i + j ≤ t → t ≤ 5 → lb q0 q1 q2 q3 q4 q5 t = lb p0 p1 p2 p3 p4 p5 t
  | _, _, _ => False
def timesM : Nat → List Int → List Int → Nat := fun _ _ ys => match ys with
  | _ :: i :: _ => (6 - i).toNat
  | _ => 0

theorem cTimes : CT Try.prog tb.fns (pres pr) 45 s45 :=
  k45 tb timesI timesM pr ⟨rfl, trivial⟩ ⟨fun _ _ => trivial, trivial⟩ rfl ⟨cUsed, trivial⟩ fun x0 x1 x2 x3 x4 x5 y0 y1 y2 y3 y4 y5 hx0 hx1 hx2 hx3 hx4 hx5 hy0 hy1 hy2 hy3 hy4 hy5 _ => by
    unfold p45
    have e0 : tb.fn 45 [x0, x1, x2, x3, x4, x5, y0, y1, y2, y3, y4, y5] = timesF [x0, x1, x2, x3, x4, x5, y0, y1, y2, y3, y4, y5] := rfl
    rw [e0]
    intro m hm n hn
    have hm := out1 (g := 86) rfl rfl (F := usedF) rfl hm (used_has _ _ _ _ _ _)
    have hn := out1 (g := 86) rfl rfl (F := usedF) rfl hn (used_has _ _ _ _ _ _)
    simp only [usedF, List.cons.injEq, and_true] at hm hn
    have Lx := low_all hm
    have Ly := low_all hn
    refine ⟨fun h => ?_, fun h => ?_⟩
    · have h := of_decide_eq_true h
      show _ = timesF _
      simp only [timesF, ← hm, ← hn]
      rw [if_pos h]
    have h7 := of_decide_eq_false h
    have e1 : timesF [x0, x1, x2, x3, x4, x5, y0, y1, y2, y3, y4, y5] = lim6 (v6 x0 x1 x2 x3 x4 x5 * v6 y0 y1 y2 y3 y4 y5) ++ [if top ≤ v6 x0 x1 x2 x3 x4 x5 * v6 y0 y1 y2 y3 y4 y5 then 1 else 0] := by
      simp only [timesF, ← hm, ← hn]
      rw [if_neg h7]
    rw [e1]
    refine ⟨⟨⟨⟨by show (0 : Int) ≤ 0; omega, by show (0 : Int) ≤ 1; omega⟩, ⟨by show (0 : Int) ≤ 0; omega, by show (0 : Int) ≤ 6; omega⟩, zero6⟩, ?_⟩, ?_⟩
    · show 0 ≤ m ∧ _
      exact ⟨Lx.2.1, 0, Int.le_refl _, by rw [low_zero]; simp [v6], by simp, fun h => (h rfl).elim⟩
    rintro o i p0 p1 p2 p3 p4 p5 ⟨ho, hi, hp0, hp1, hp2, hp3, hp4, hp5, _⟩ ⟨him, e, he, hP, hoe, hem⟩
    have ho : 0 ≤ o ∧ o ≤ 1 := ho
    have hi : 0 ≤ i ∧ i ≤ 6 := hi
    refine ⟨fun h => ?_, fun h => ?_⟩
    · have h := of_decide_eq_true h
      have he0 : e = 0 := Decidable.byContradiction fun q => by have := hem q; omega
      subst he0
      rw [Int.zero_mul, Int.add_zero] at hP
      have hxi := lb_bd hx0 hx1 hx2 hx3 hx4 hx5 i
      refine ⟨⟨⟨⟨by show (0 : Int) ≤ 0; omega, by show (0 : Int) ≤ 4294967295; omega⟩, ⟨by show (0 : Int) ≤ 0; omega, by show (0 : Int) ≤ 6; omega⟩, hp0, hp1, hp2, hp3, hp4, hp5, trivial⟩, ?_⟩, ?_⟩
      · show 0 ≤ n ∧ _
        exact ⟨Ly.2.1, by rw [low_zero]; simp, fun _ _ _ => rfl⟩
      rintro c j q0 q1 q2 q3 q4 q5 ⟨hc, hj, hq0, hq1, hq2, hq3, hq4, hq5, _⟩ ⟨hjn, hQ, hrest⟩
      have hj : 0 ≤ j ∧ j ≤ 6 := hj
      have g := cells_of q0 q1 q2 q3 q4 q5
      refine ⟨fun h1 => ?_, fun h1 => ⟨fun h2 => ?_, fun h2 => ?_⟩⟩
      · have h1 := of_decide_eq_true h1
        refine ⟨⟨decide_eq_true (by omega), decide_eq_true (by omega), decide_eq_true (by omega)⟩, fun _ xi hxe yj hye qt hqe s hs => ⟨decide_eq_true (by omega), fun _ w0 hw0 w1 hw1 w2 hw2 w3 hw3 w4 hw4 w5 hw5 k hk => ?_⟩⟩
        rw [sel_lb (by omega) (by omega)] at hxe hye hqe
        simp only [sel_lb (a := x0) (b := x1) (c := x2) (d := x3) (e := x4) (f := x5) (k := i) (by omega) (by omega), sel_lb (a := y0) (b := y1) (c := y2) (d := y3) (e := y4) (f := y5) (k := j) (by omega) (by omega), sel_lb (a := q0) (b := q1) (c := q2) (d := q3) (e := q4) (f := q5) (k := i + j) (by omega) (by omega), ← hxe, ← hye, ← hqe] at hs
        rw [← hxe] at hQ hxi
        have hyj : L32 yj := hye ▸ lb_bd hy0 hy1 hy2 hy3 hy4 hy5 j
        have hqt : L32 qt := hqe ▸ lb_bd hq0 hq1 hq2 hq3 hq4 hq5 (i + j)
        have hb := mul_bd hxi hyj
        have gw := g.put hw0 hw1 hw2 hw3 hw4 hw5
        rw [wrap_u32] at gw
        have hv := v6_put (by omega) (by omega) g gw
        rw [← hqe] at hv
        have R := ring1 (pw_add hi.1 hj.1) hQ hs (q := k) (r := s % 4294967296) (by omega) hv
        rw [← pw_succ (by omega), hye, ← low_succ (by omega) (by omega), show i + j + 1 = i + (j + 1) by omega] at R
        have hsb : L32 (s % 4294967296) := by omega
        have hc : 0 ≤ c ∧ c ≤ 4294967295 := hc
        refine ⟨⟨⟨by show 0 ≤ k; omega, by show k ≤ 4294967295; omega⟩, ⟨by show 0 ≤ j + 1; omega, by show j + 1 ≤ 6; omega⟩, gw.has fun t _ _ => ?_⟩, ⟨by omega, by rw [← hxe]; exact R, fun t ht ht5 => ?_⟩, by show (6 - (j + 1)).toNat < (6 - j).toNat; omega⟩
        · split
          · exact hsb
          · exact lb_bd hq0 hq1 hq2 hq3 hq4 hq5 t
        · rw [gw.lb (by omega) ht5, if_neg (by omega)]
          exact hrest t (by omega) ht5
      · have h1 := of_decide_eq_false h1
        have hjn' : j = n := by omega
        subst hjn'
        rw [Ly.1] at hQ
        refine ⟨decide_eq_true (by have := of_decide_eq_true h2; omega), fun _ w0 hw0 w1 hw1 w2 hw2 w3 hw3 w4 hw4 w5 hw5 => ?_⟩
        have h2 := of_decide_eq_true h2
        have gw := g.put hw0 hw1 hw2 hw3 hw4 hw5
        have hv := v6_put (by omega) (by omega) g gw
        have hsmall : v6 p0 p1 p2 p3 p4 p5 < pw (i + j) := by
          rw [hP, pw_add hi.1 hj.1]
          have l1 := low_lt hx0 hx1 hx2 hx3 hx4 hx5 hi.1 hi.2
          have l2 := low_lt hy0 hy1 hy2 hy3 hy4 hy5 hj.1 hj.2
          rw [Ly.1] at l2
          have a1 : low x0 x1 x2 x3 x4 x5 i * v6 y0 y1 y2 y3 y4 y5 ≤ (pw i - 1) * (pw j - 1) := Int.mul_le_mul (by omega) (by omega) l2.1 (by omega)
          have a2 : (pw i - 1) * (pw j - 1) = pw i * pw j - pw i - pw j + 1 := by grind
          have := pw_pos i
          have := pw_pos j
          omega
        have hz := lb_small hp0 hp1 hp2 hp3 hp4 hp5 (by omega) (by omega) hsmall
        rw [← hrest (i + j) (by omega) (by omega)] at hz
        rw [hz, Int.sub_zero, Int.mul_comm, hQ, hP] at hv
        have hv' : v6 w0 w1 w2 w3 w4 w5 = low x0 x1 x2 x3 x4 x5 (i + 1) * v6 y0 y1 y2 y3 y4 y5 := by
          rw [hv, low_succ hi.1 (by omega), Int.add_mul]
        refine ⟨⟨?_, ⟨by show 0 ≤ i + 1; omega, by show i + 1 ≤ 6; omega⟩, gw.has fun t _ _ => ?_⟩, ?_, by show (6 - (i + 1)).toNat < (6 - i).toNat; omega⟩
        · exact has1 (by split <;> omega)
        · split
          · exact hc
          · exact lb_bd hq0 hq1 hq2 hq3 hq4 hq5 t
        · refine ⟨by omega, 0, Int.le_refl _, by rw [Int.zero_mul, Int.add_zero]; exact hv', ?_, fun q => (q rfl).elim⟩
          have : o ≠ 1 := fun q => hoe.1 q rfl
          simp [this]
      · have h1 := of_decide_eq_false h1
        have h2 := of_decide_eq_false h2
        have hjn' : j = n := by omega
        subst hjn'
        rw [Ly.1] at hQ
        have h6 : i + j = 6 := by omega
        have htop : pw (i + j) = top := by rw [h6]; rfl
        rw [htop, hP] at hQ
        intro k hk
        have hc : 0 ≤ c ∧ c ≤ 4294967295 := hc
        have hk' : k = 1 ↔ c ≠ 0 := by
          have : o ≠ 1 := fun q => hoe.1 q rfl
          rw [hk]
          by_cases hc0 : c = 0 <;> simp [hc0, this]
        refine ⟨⟨?_, ⟨by show 0 ≤ i + 1; omega, by show i + 1 ≤ 6; omega⟩, hq0, hq1, hq2, hq3, hq4, hq5, trivial⟩, ⟨by omega, c, hc.1, ?_, ?_, fun _ => by omega⟩, by show (6 - (i + 1)).toNat < (6 - i).toNat; omega⟩
        · exact has1 (by split <;> omega)
        · rw [hQ, low_succ hi.1 (by omega), Int.add_mul]
        · rw [← hk']
          by_cases q : k = 1 <;> simp [q]
    · have h := of_decide_eq_false h
      have him' : i = m := by omega
      subst him'
      rw [Lx.1] at hP
      have hl := lim6_of e hP hp0 hp1 hp2 hp3 hp4 hp5
      have hb := v6_bd hp0 hp1 hp2 hp3 hp4 hp5
      show [p0, p1, p2, p3, p4, p5, o] = _
      rw [← hl, ← hP]
      have : o = if top ≤ v6 p0 p1 p2 p3 p4 p5 + e * top then 1 else 0 := by
        by_cases he0 : e = 0
        · rw [if_neg (by subst he0; unfold top at *; omega)]
          have : o ≠ 1 := fun q => hoe.1 q he0
          omega
        · rw [if_pos (by unfold top at *; omega)]
          exact hoe.2 he0
      rw [← this]; rfl
theorem times_has {a b c d e f a' b' c' d' e' f' : Int} : allHas (h6 ++ [⟨0, 1⟩]) (timesF [a, b, c, d, e, f, a', b', c', d', e', f']) := by
  unfold timesF
  simp only
  split
  · exact allHas_append (a := h6) (xs := [0, 0, 0, 0, 0, 0]) zero6 ⟨has1 ⟨by omega, by omega⟩, trivial⟩
  · exact allHas_append (lim6_has _) ⟨has1 (by split <;> omega), trivial⟩

/-- What many limbs in both tell of the product. -/
theorem used_top {a b c d e f m : Int} (ha : L32 a) (hb : L32 b) (hc : L32 c) (hd : L32 d) (he : L32 e) (hf : L32 f) (hm : m = used6 a b c d e f) (h1 : 1 ≤ m) : pw (m - 1) ≤ v6 a b c d e f := by
  unfold used6 at hm
  (repeat' split at hm) <;> subst hm <;> (simp [pw, v6]; omega)
theorem used_big {a b c d e f a' b' c' d' e' f' : Int} (ha : L32 a) (hb : L32 b) (hc : L32 c) (hd : L32 d) (he : L32 e) (hf : L32 f) (ha' : L32 a') (hb' : L32 b') (hc' : L32 c') (hd' : L32 d') (he' : L32 e') (hf' : L32 f')
    (h : 7 < used6 a b c d e f + used6 a' b' c' d' e' f') : top ≤ v6 a b c d e f * v6 a' b' c' d' e' f' := by
  have l1 := low_all (rfl : used6 a b c d e f = _)
  have l2 := low_all (rfl : used6 a' b' c' d' e' f' = _)
  have u1 := used_top ha hb hc hd he hf rfl (by omega)
  have u2 := used_top ha' hb' hc' hd' he' hf' rfl (by omega)
  have e1 : pw (used6 a b c d e f - 1) * pw (used6 a' b' c' d' e' f' - 1) ≤ v6 a b c d e f * v6 a' b' c' d' e' f' := Int.mul_le_mul u1 u2 (by have := pw_pos (used6 a' b' c' d' e' f' - 1); omega) (by have := pw_pos (used6 a b c d e f - 1); omega)
  rw [← pw_add (by omega) (by omega)] at e1
  have e2 : top ≤ pw (used6 a b c d e f - 1 + (used6 a' b' c' d' e' f' - 1)) := by
    have : (2 : Nat) ^ 192 ≤ 2 ^ (32 * (used6 a b c d e f - 1 + (used6 a' b' c' d' e' f' - 1)).toNat) := Nat.pow_le_pow_right (by omega) (by omega)
    have h2 : ((2 ^ 192 : Nat) : Int) ≤ ((2 ^ (32 * (used6 a b c d e f - 1 + (used6 a' b' c' d' e' f' - 1)).toNat) : Nat) : Int) := by exact_mod_cast this
    have h3 : ((2 ^ 192 : Nat) : Int) = top := by decide
    rw [h3] at h2
    unfold pw
    exact_mod_cast h2
  omega

theorem cMulW' : CT Try.prog tb.fns (pres pr) 15 s15 :=
  k15 tb noI noM pr ⟨rfl, rfl, trivial⟩ ⟨fun _ _ => trivial, fun _ _ => trivial, trivial⟩ rfl ⟨cOk, cMul', trivial⟩ fun n a b c d e f n' a' b' c' d' e' f' hn ha hb hc hd he hf hn' ha' hb' hc' hd' he' hf' _ => by
    unfold p15
    have e0 : tb.fn 15 [n, a, b, c, d, e, f, n', a', b', c', d', e', f'] = if validF [n, a, b, c, d, e, f] = [1] ∧ validF [n', a', b', c', d', e', f'] = [1] then mulF [n, a, b, c, d, e, f, n', a', b', c', d', e', f'] else [0, 0, 0, 0, 0, 0, 0, 1] := rfl
    rw [e0]
    intro y hy
    have hy := ok_two (g := 41) rfl rfl hy
    refine ⟨fun h z hz => ?_, fun h => ?_⟩
    · have hz := ok_two (g := 41) rfl rfl hz
      refine ⟨fun h2 => ?_, fun h2 u0 u1 u2 u3 u4 u5 u6 u7 hu => ?_⟩
      · rw [if_neg (fun q => by have := hz.1.2 q.2; simp [this] at h2)]
      · rw [if_pos ⟨hy.1.1 (of_decide_eq_true h), hz.1.1 (by simpa using h2)⟩]
        exact out1 (g := 42) rfl rfl (F := mulF) rfl hu mulF_has
    · rw [if_neg (fun q => by have := hy.1.2 q.1; simp [this] at h)]
theorem cMulW : CT Try.prog tb.fns (pres pr) 17 s17 :=
  k17 tb noI noM pr ⟨rfl, rfl, rfl, trivial⟩ ⟨fun _ _ => trivial, fun _ _ => trivial, fun _ _ => trivial, trivial⟩ rfl ⟨cValid, cTimes, cWithin, trivial⟩ fun n a b c d e f n' a' b' c' d' e' f' hn ha hb hc hd he hf hn' ha' hb' hc' hd' he' hf' _ => by
    unfold p17
    have e0 : tb.fn 17 [n, a, b, c, d, e, f, n', a', b', c', d', e', f'] = if validF [n, a, b, c, d, e, f] = [1] ∧ validF [n', a', b', c', d', e', f'] = [1] then mulF [n, a, b, c, d, e, f, n', a', b', c', d', e', f'] else [0, 0, 0, 0, 0, 0, 0, 1] := rfl
    rw [e0]
    intro y hy
    have hy := valid_two (g := 44) rfl rfl hy
    refine ⟨fun h z hz => ?_, fun h => ?_⟩
    · have hz := valid_two (g := 44) rfl rfl hz
      refine ⟨fun h2 => ?_, fun h2 t0 t1 t2 t3 t4 t5 t6 ht u0 u1 u2 u3 u4 u5 u6 u7 hu => ?_⟩
      · rw [if_neg (fun q => by have := hz.1.2 q.2; simp [this] at h2)]
      · rw [if_pos ⟨hy.1.1 (of_decide_eq_true h), hz.1.1 (by simpa using h2)⟩]
        have ht := out1 (g := 45) rfl rfl (F := timesF) rfl ht times_has
        have hs : (if (!(decide (n = 1) == decide (n' = 1))) = true then (1 : Int) else 0) = if n = 1 ↔ n' = 1 then 0 else 1 := by
          by_cases q : n = 1 <;> by_cases q' : n' = 1 <;> simp [q, q']
        rw [hs] at hu
        have hh : allHas (h6 ++ [⟨0, 1⟩]) [t0, t1, t2, t3, t4, t5, t6] := ht ▸ times_has
        have ht6 : allHas h6 [t0, t1, t2, t3, t4, t5] := ⟨hh.1, hh.2.1, hh.2.2.1, hh.2.2.2.1, hh.2.2.2.2.1, hh.2.2.2.2.2.1, trivial⟩
        have hw : allHas (h7 ++ [(Kd.i .i64).iv]) (withinF [if n = 1 ↔ n' = 1 then 0 else 1, t0, t1, t2, t3, t4, t5, t6]) := by
          simp only [withinF]
          split
          · exact bad_has 3 ⟨by omega, by omega⟩
          · exact allHas_append (made_has ht6) ⟨has1 ⟨by decide, by decide⟩, trivial⟩
        have hu := out1 (g := 46) rfl rfl (F := withinF) rfl hu hw
        rw [hu]
        simp only [withinF, mulF]
        by_cases h7 : 7 < used6 a b c d e f + used6 a' b' c' d' e' f'
        · simp only [timesF] at ht
          rw [if_pos h7] at ht
          simp only [List.cons.injEq, and_true] at ht
          rw [if_pos ht.2.2.2.2.2.2, if_pos (used_big ha hb hc hd he hf ha' hb' hc' hd' he' hf' h7)]
        · simp only [timesF] at ht
          rw [if_neg h7] at ht
          obtain ⟨z0, z1, z2, z3, z4, z5, hz⟩ : ∃ x0 x1 x2 x3 x4 x5, lim6 (v6 a b c d e f * v6 a' b' c' d' e' f') = [x0, x1, x2, x3, x4, x5] := ⟨_, _, _, _, _, _, rfl⟩
          rw [hz] at ht ⊢
          simp only [List.cons_append, List.nil_append, List.cons.injEq, and_true] at ht
          obtain ⟨rfl, rfl, rfl, rfl, rfl, rfl, rfl⟩ := ht
          by_cases hb : top ≤ v6 a b c d e f * v6 a' b' c' d' e' f'
          · rw [if_pos hb, if_pos hb]; rfl
          · rw [if_neg hb, if_neg hb]; rfl
    · rw [if_neg (fun q => by have := hy.1.2 q.1; simp [this] at h)]

theorem cLawMul : CT Try.prog tb.fns (pres pr) 3 s3 :=
  k3 tb noI noM pr ⟨rfl, rfl, rfl, rfl, trivial⟩ ⟨fun _ _ => trivial, fun _ _ => trivial, fun _ _ => trivial, fun _ _ => trivial, trivial⟩ rfl ⟨cTo, cMulW', cMulW, cEq, trivial⟩ fun n a b c d e f n' a' b' c' d' e' f' hn ha hb hc hd he hf hn' ha' hb' hc' hd' he' hf' _ => by
    unfold p3
    intro t0 t1 t2 t3 t4 t5 t6 ht
    have ht := to_id (g := 16) rfl rfl hn ha hb hc hd he hf ht
    simp only [List.cons.injEq, and_true] at ht
    obtain ⟨rfl, rfl, rfl, rfl, rfl, rfl, rfl⟩ := ht
    intro t0 t1 t2 t3 t4 t5 t6 ht
    have ht := to_id (g := 16) rfl rfl hn' ha' hb' hc' hd' he' hf' ht
    simp only [List.cons.injEq, and_true] at ht
    obtain ⟨rfl, rfl, rfl, rfl, rfl, rfl, rfl⟩ := ht
    intro x0 x1 x2 x3 x4 x5 x6 x7 hx
    have hx := out1 (g := 15) rfl rfl (F := mulWF) rfl hx mulW_has
    intro t0 t1 t2 t3 t4 t5 t6 ht
    have ht := to_id (g := 16) rfl rfl hn ha hb hc hd he hf ht
    simp only [List.cons.injEq, and_true] at ht
    obtain ⟨rfl, rfl, rfl, rfl, rfl, rfl, rfl⟩ := ht
    intro t0 t1 t2 t3 t4 t5 t6 ht
    have ht := to_id (g := 16) rfl rfl hn' ha' hb' hc' hd' he' hf' ht
    simp only [List.cons.injEq, and_true] at ht
    obtain ⟨rfl, rfl, rfl, rfl, rfl, rfl, rfl⟩ := ht
    intro y0 y1 y2 y3 y4 y5 y6 y7 hy
    have hy := out1 (g := 17) rfl rfl (F := mulWF) rfl hy mulW_has
    rw [← hx] at hy
    simp only [List.cons.injEq, and_true] at hy
    obtain ⟨rfl, rfl, rfl, rfl, rfl, rfl, rfl, rfl⟩ := hy
    intro q hq
    have hq := out1 (g := 18) rfl rfl (F := eqWF) rfl hq (eqW_has _ _ _ _ _ _ _ _ _ _ _ _ _ _)
    simp only [eqWF, and_self, if_true, List.cons.injEq, and_true] at hq
    subst hq
    exact ⟨fun _ => ⟨fun h => (by simp at h), fun _ => rfl⟩, fun h => by simp at h⟩

end Go.Proofs.Ytmlmdicdblgcfaa.Sx

namespace Go.Proofs.Ytmlmdicdblgcfaa.Sx
open Go Go.RowKit

theorem of_neg {x v1 v2 v3 v4 : Int} (hx : -9223372036854775808 ≤ x ∧ x < 0) (h1 : v1 = x % 18446744073709551616) (h2 : v2 = (0 - v1) % 18446744073709551616) (h3 : v3 = v2 % 4294967296) (h4 : v4 = v2 / 4294967296) : v3 = -x % 4294967296 ∧ v4 = -x / 4294967296 ∧ L32 v3 ∧ L32 v4 := by
  have : v2 = -x := by omega
  omega
theorem of_pos {x v1 v2 v3 : Int} (hx : 0 ≤ x ∧ x ≤ 9223372036854775807) (h1 : v1 = x % 18446744073709551616) (h2 : v2 = v1 % 4294967296) (h3 : v3 = v1 / 4294967296) : v2 = x % 4294967296 ∧ v3 = x / 4294967296 ∧ L32 v2 ∧ L32 v3 := by
  have : v1 = x := by omega
  omega
theorem z32 : L32 0 := by omega
theorem cOf' : CT Try.prog tb.fns (pres pr) 67 s67 :=
  k67 tb noI noM pr ⟨rfl, trivial⟩ ⟨fun _ _ => trivial, trivial⟩ rfl ⟨cMade', trivial⟩ fun x hx _ => by
    unfold p67
    have e0 : tb.fn 67 [x] = ofF [x] := rfl
    rw [e0]
    simp only [wrap_u32, wrap_u64]
    intro v1 h1
    refine ⟨fun h v2 h2 v3 h3 v4 h4 u0 u1 u2 u3 u4 u5 u6 hu => ?_, fun h v2 h2 v3 h3 u0 u1 u2 u3 u4 u5 u6 hu => ?_⟩
    · have h := of_decide_eq_true h
      have N := of_neg ⟨hx.1, h⟩ h1 h2 h3 h4
      have hu := out1 (g := 70) rfl rfl (F := madeF) rfl hu (made_has (has6 N.2.2.1 N.2.2.2 z32 z32 z32 z32))
      rw [hu, N.1, N.2.1]
      simp only [ofF]; rw [if_pos h]
    · have h := of_decide_eq_false h
      have N := of_pos ⟨by omega, hx.2⟩ h1 h2 h3
      have hu := out1 (g := 70) rfl rfl (F := madeF) rfl hu (made_has (has6 N.2.2.1 N.2.2.2 z32 z32 z32 z32))
      rw [hu, N.1, N.2.1]
      simp only [ofF]; rw [if_neg h]
theorem cOf : CT Try.prog tb.fns (pres pr) 64 s64 :=
  k64 tb noI noM pr ⟨rfl, trivial⟩ ⟨fun _ _ => trivial, trivial⟩ rfl ⟨cMade, trivial⟩ fun x hx _ => by
    unfold p64
    have e0 : tb.fn 64 [x] = ofF [x] := rfl
    rw [e0]
    simp only [wrap_u32, wrap_u64]
    intro v1 h1
    refine ⟨fun h v2 h2 u0 u1 u2 u3 u4 u5 u6 hu => ?_, fun h u0 u1 u2 u3 u4 u5 u6 hu => ?_⟩
    · have h := of_decide_eq_true h
      have N := of_neg (v3 := v2 % 4294967296) (v4 := v2 / 4294967296) ⟨hx.1, h⟩ h1 h2 rfl rfl
      have hu := out1 (g := 58) rfl rfl (F := madeF) rfl hu (made_has (has6 N.2.2.1 N.2.2.2 z32 z32 z32 z32))
      rw [hu, N.1, N.2.1]
      simp only [ofF]; rw [if_pos h]
    · have h := of_decide_eq_false h
      have N := of_pos (v2 := v1 % 4294967296) (v3 := v1 / 4294967296) ⟨by omega, hx.2⟩ h1 rfl rfl
      have hu := out1 (g := 58) rfl rfl (F := madeF) rfl hu (made_has (has6 N.2.2.1 N.2.2.2 z32 z32 z32 z32))
      rw [hu, N.1, N.2.1]
      simp only [ofF]; rw [if_neg h]

/-! ### Powers -/
def powI : Nat → List Int → List Int → Prop := fun _ pre ys => match pre, ys with
  | n :: a :: b :: c :: d :: e :: f :: k :: _, [i, s, q0, q1, q2, q3, q4, q5] => i ≤ k ∧ validF [s, q0, q1, q2, q3, q4, q5] = [1] ∧ powN [n, a, b, c, d, e, f] (k - i).toNat [s, q0, q1, q2, q3, q4, q5] = powN [n, a, b, c, d, e, f] k.toNat [0, 1, 0, 0, 0, 0, 0]
  | _, _ => False
def powM : Nat → List Int → List Int → Nat := fun _ pre ys => match pre, ys with
  | _ :: _ :: _ :: _ :: _ :: _ :: _ :: k :: _, i :: _ => (k - i).toNat
  | _, _ => 0
theorem made_valid {n a b c d e f : Int} : ∀ {m x0 x1 x2 x3 x4 x5 : Int}, [m, x0, x1, x2, x3, x4, x5] = madeF [n, a, b, c, d, e, f] → validF [m, x0, x1, x2, x3, x4, x5] = [1] := by
  intro m x0 x1 x2 x3 x4 x5 h
  simp only [madeF, List.cons.injEq, and_true] at h
  obtain ⟨hm, rfl, rfl, rfl, rfl, rfl, rfl⟩ := h
  simp only [validF, List.cons.injEq, and_true]
  rw [if_neg]
  rintro ⟨h1, h2⟩
  rw [hm] at h1
  split at h1
  · rename_i h3; exact h3.2 h2
  · omega
/-- A product of two integers, with its code. -/
theorem mul_cases {n a b c d e f n' a' b' c' d' e' f' m x0 x1 x2 x3 x4 x5 o : Int} (h : [m, x0, x1, x2, x3, x4, x5, o] = mulF [n, a, b, c, d, e, f, n', a', b', c', d', e', f']) :
    (o = 0 ∧ validF [m, x0, x1, x2, x3, x4, x5] = [1]) ∨ (o = 3 ∧ mulF [n, a, b, c, d, e, f, n', a', b', c', d', e', f'] = [0, 0, 0, 0, 0, 0, 0, 3]) := by
  simp only [mulF] at h ⊢
  split at h
  · rename_i ht
    simp only [List.cons.injEq, and_true] at h
    exact .inr ⟨h.2.2.2.2.2.2.2, by rw [if_pos ht]⟩
  · obtain ⟨z0, z1, z2, z3, z4, z5, hz⟩ : ∃ x0 x1 x2 x3 x4 x5, lim6 (v6 a b c d e f * v6 a' b' c' d' e' f') = [x0, x1, x2, x3, x4, x5] := ⟨_, _, _, _, _, _, rfl⟩
    rw [hz] at h
    have h' : [m, x0, x1, x2, x3, x4, x5, o] = madeF [if n = 1 ↔ n' = 1 then 0 else 1, z0, z1, z2, z3, z4, z5] ++ [0] := h
    have h2 : [m, x0, x1, x2, x3, x4, x5] = madeF [if n = 1 ↔ n' = 1 then 0 else 1, z0, z1, z2, z3, z4, z5] := by
      simp only [madeF, List.cons_append, List.nil_append, List.cons.injEq, and_true] at h' ⊢
      exact ⟨h'.1, h'.2.1, h'.2.2.1, h'.2.2.2.1, h'.2.2.2.2.1, h'.2.2.2.2.2.1, h'.2.2.2.2.2.2.1⟩
    refine .inl ⟨?_, made_valid h2⟩
    simp only [madeF, List.cons_append, List.nil_append, List.cons.injEq, and_true] at h'
    exact h'.2.2.2.2.2.2.2
/-- A step. -/
theorem pow_step {a : List Int} {n b c d e f g k m x0 x1 x2 x3 x4 x5 o : Int} {i : Int} (hi : i < k) (h : [m, x0, x1, x2, x3, x4, x5, o] = mulF ([n, b, c, d, e, f, g] ++ a)) :
    powN a (k - i).toNat [n, b, c, d, e, f, g] = if o = 0 then powN a (k - (i + 1)).toNat [m, x0, x1, x2, x3, x4, x5] else [0, 0, 0, 0, 0, 0, 0, o] := by
  rw [show (k - i).toNat = (k - (i + 1)).toNat + 1 by omega]
  simp only [powN, ← h]
  rfl
theorem powN_has (a : List Int) (ha : ∃ n b c d e f g, a = [n, b, c, d, e, f, g]) : ∀ (k : Nat) (p : List Int), allHas h7 p → allHas (h7 ++ [(Kd.i .i64).iv]) (powN a k p)
  | 0, p, hp => allHas_append hp ⟨has1 ⟨by decide, by decide⟩, trivial⟩
  | k + 1, p, hp => by
    obtain ⟨n, b, c, d, e, f, g, rfl⟩ := ha
    obtain ⟨m, x0, x1, x2, x3, x4, x5, rfl⟩ : ∃ m x0 x1 x2 x3 x4 x5, p = [m, x0, x1, x2, x3, x4, x5] := by
      match p, hp with | [m, x0, x1, x2, x3, x4, x5], _ => exact ⟨m, x0, x1, x2, x3, x4, x5, rfl⟩
    have hm : allHas (h7 ++ [(Kd.i .i64).iv]) (mulF [m, x0, x1, x2, x3, x4, x5, n, b, c, d, e, f, g]) := mulF_has
    obtain ⟨r0, r1, r2, r3, r4, r5, r6, r7, hr⟩ := list8 hm
    have e : mulF ([m, x0, x1, x2, x3, x4, x5] ++ [n, b, c, d, e, f, g]) = [r0, r1, r2, r3, r4, r5, r6, r7] := hr
    rw [hr] at hm
    simp only [powN, e]
    split
    · exact powN_has _ ⟨_, _, _, _, _, _, _, rfl⟩ k _ ⟨hm.1, hm.2.1, hm.2.2.1, hm.2.2.2.1, hm.2.2.2.2.1, hm.2.2.2.2.2.1, hm.2.2.2.2.2.2.1, trivial⟩
    · have c := mul_cases (hr.symm)
      rcases c with c | c
      · rename_i q; exact (q c.1).elim
      · show allHas _ [0, 0, 0, 0, 0, 0, 0, r7]
        rw [c.1]
        exact bad_has 3 ⟨by omega, by omega⟩
theorem powW_has {n a b c d e f k : Int} : allHas (h7 ++ [(Kd.i .i64).iv]) (powWF [n, a, b, c, d, e, f, k]) := by
  unfold powWF
  simp only
  split
  · split
    · exact powN_has _ ⟨_, _, _, _, _, _, _, rfl⟩ _ _ ⟨has1 ⟨by omega, by omega⟩, has1 ⟨by omega, by omega⟩, has1 ⟨by omega, by omega⟩, has1 ⟨by omega, by omega⟩, has1 ⟨by omega, by omega⟩, has1 ⟨by omega, by omega⟩, has1 ⟨by omega, by omega⟩, trivial⟩
    · exact bad_has 2 ⟨by omega, by omega⟩
  · exact bad_has 1 ⟨by omega, by omega⟩
theorem of_one : ofF [1] = [0, 1, 0, 0, 0, 0, 0] := by decide
theorem one_has : allHas h7 (ofF [1]) := by
  rw [of_one]
  exact ⟨has1 ⟨by omega, by omega⟩, has1 ⟨by omega, by omega⟩, has1 ⟨by omega, by omega⟩, has1 ⟨by omega, by omega⟩, has1 ⟨by omega, by omega⟩, has1 ⟨by omega, by omega⟩, has1 ⟨by omega, by omega⟩, trivial⟩
theorem bool_id {x : Int} (h : 0 ≤ x ∧ x ≤ 1) : (if decide (x = 1) = true then (1 : Int) else 0) = x := by
  by_cases q : x = 1
  · simp [q]
  · rw [if_neg (by simpa using q)]; omega
theorem start_has {k : Int} (h0 : 0 ≤ k) : allHas [⟨0, 191⟩, ⟨0, 1⟩, ⟨0, 4294967295⟩, ⟨0, 4294967295⟩, ⟨0, 4294967295⟩, ⟨0, 4294967295⟩, ⟨0, 4294967295⟩, ⟨0, 4294967295⟩] [0, 0, 1, 0, 0, 0, 0, 0] :=
  ⟨has1 ⟨by omega, by omega⟩, has1 ⟨by omega, by omega⟩, has1 ⟨by omega, by omega⟩, has1 ⟨by omega, by omega⟩, has1 ⟨by omega, by omega⟩, has1 ⟨by omega, by omega⟩, has1 ⟨by omega, by omega⟩, has1 ⟨by omega, by omega⟩, trivial⟩

theorem cPow' : CT Try.prog tb.fns (pres pr) 29 s29 :=
  k29 tb powI powM pr ⟨rfl, rfl, rfl, rfl, trivial⟩ ⟨fun _ _ => trivial, fun _ _ => trivial, fun _ _ => trivial, fun _ _ => trivial, trivial⟩ rfl ⟨cOk, cShift, cOf', cMul', trivial⟩ fun n a b c d e f k hn ha hb hc hd he hf hk _ => by
    unfold p29
    have e0 : tb.fn 29 [n, a, b, c, d, e, f, k] = powWF [n, a, b, c, d, e, f, k] := rfl
    rw [e0]
    intro y hy
    have hy := ok_two (g := 41) rfl rfl hy
    refine ⟨fun h => ?_, fun h z hz => ?_⟩
    · have : ¬ validF [n, a, b, c, d, e, f] = [1] := fun q => by have := hy.1.2 q; simp [this] at h
      simp only [powWF]; rw [if_neg this]
    have hv : validF [n, a, b, c, d, e, f] = [1] := hy.1.1 (by simpa using h)
    have hz := out1 (g := 48) rfl rfl (F := shiftF) rfl hz (shift_has _)
    simp only [shiftF, List.cons.injEq, and_true] at hz
    refine ⟨fun h => ?_, fun h w0 w1 w2 w3 w4 w5 w6 hw => ?_⟩
    · have : ¬ (0 ≤ k ∧ k ≤ 191) := fun hh => by rw [if_pos hh] at hz; subst hz; simp at h
      simp only [powWF]; rw [if_pos hv, if_neg this]
    have hk' : 0 ≤ k ∧ k ≤ 191 := Decidable.byContradiction fun hh => by rw [if_neg hh] at hz; subst hz; simp at h
    have e1 : powWF [n, a, b, c, d, e, f, k] = powN [n, a, b, c, d, e, f] k.toNat [0, 1, 0, 0, 0, 0, 0] := by simp only [powWF]; rw [if_pos hv, if_pos hk']
    rw [e1]
    have hw := out1 (g := 67) rfl rfl (F := ofF) rfl hw one_has
    rw [of_one] at hw
    simp only [List.cons.injEq, and_true] at hw
    obtain ⟨rfl, rfl, rfl, rfl, rfl, rfl, rfl⟩ := hw
    refine ⟨⟨start_has hk'.1, hk'.1, by decide, by rw [Int.sub_zero]; rfl⟩, ?_⟩
    rintro i s q0 q1 q2 q3 q4 q5 ⟨hi, hs, hq0, hq1, hq2, hq3, hq4, hq5, _⟩ ⟨hik, hval, hpow⟩
    have hi : 0 ≤ i ∧ i ≤ 191 := hi
    refine ⟨fun h1 m0 m1 m2 m3 m4 m5 m6 o hm => ?_, fun h1 => ?_⟩
    · have h1 := of_decide_eq_true h1
      have hmh : allHas (h7 ++ [(Kd.i .i64).iv]) (mulF [s, q0, q1, q2, q3, q4, q5, n, a, b, c, d, e, f]) := mulF_has
      have hm := out1 (g := 42) rfl rfl (F := mulF) rfl hm hmh
      have st := pow_step (a := [n, a, b, c, d, e, f]) h1 hm
      rw [hpow] at st
      have cs := mul_cases hm
      rw [← hm] at hmh
      refine ⟨fun h2 => ?_, fun h2 => ?_⟩
      · rw [st, if_neg (by simpa using h2)]
      · have h2 : o = 0 := by simpa using h2
        rw [if_pos h2] at st
        have hv2 : validF [m0, m1, m2, m3, m4, m5, m6] = [1] := by
          rcases cs with cs | cs
          · exact cs.2
          · have := cs.1; omega
        have hm0 : 0 ≤ m0 ∧ m0 ≤ 1 := hmh.1
        rw [bool_id hm0]
        exact ⟨⟨⟨by show 0 ≤ i + 1; omega, by show i + 1 ≤ 191; omega⟩, hmh.1, hmh.2.1, hmh.2.2.1, hmh.2.2.2.1, hmh.2.2.2.2.1, hmh.2.2.2.2.2.1, hmh.2.2.2.2.2.2.1, trivial⟩, ⟨by omega, hv2, st.symm⟩, by show (k - (i + 1)).toNat < (k - i).toNat; omega⟩
    · have h1 := of_decide_eq_false h1
      rw [← hpow, show (k - i).toNat = 0 by omega]
      rfl

theorem cPow : CT Try.prog tb.fns (pres pr) 30 s30 :=
  k30 tb powI powM pr ⟨rfl, rfl, rfl, trivial⟩ ⟨fun _ _ => trivial, fun _ _ => trivial, fun _ _ => trivial, trivial⟩ rfl ⟨cValid, cOf, cMulW, trivial⟩ fun n a b c d e f k hn ha hb hc hd he hf hk _ => by
    unfold p30
    have e0 : tb.fn 30 [n, a, b, c, d, e, f, k] = powWF [n, a, b, c, d, e, f, k] := rfl
    rw [e0]
    intro y hy
    have hy := valid_two (g := 44) rfl rfl hy
    refine ⟨fun h => ?_, fun h => ?_⟩
    · have : ¬ validF [n, a, b, c, d, e, f] = [1] := fun q => by have := hy.1.2 q; simp [this] at h
      simp only [powWF]; rw [if_neg this]
    have hv : validF [n, a, b, c, d, e, f] = [1] := hy.1.1 (by simpa using h)
    have bad : ¬ (0 ≤ k ∧ k ≤ 191) → [0, 0, 0, 0, 0, 0, 0, 2] = powWF [n, a, b, c, d, e, f, k] := fun q => by simp only [powWF]; rw [if_pos hv, if_neg q]
    refine ⟨fun h1 => ⟨fun h2 => bad (by have := of_decide_eq_true h2; omega), fun h2 w0 w1 w2 w3 w4 w5 w6 hw => ?_⟩, fun h1 => bad (by have := of_decide_eq_false h1; omega)⟩
    have hk' : 0 ≤ k ∧ k ≤ 191 := ⟨of_decide_eq_true h1, by have := of_decide_eq_false h2; omega⟩
    have e1 : powWF [n, a, b, c, d, e, f, k] = powN [n, a, b, c, d, e, f] k.toNat [0, 1, 0, 0, 0, 0, 0] := by simp only [powWF]; rw [if_pos hv, if_pos hk']
    rw [e1]
    have hw := out1 (g := 64) rfl rfl (F := ofF) rfl hw one_has
    rw [of_one] at hw
    simp only [List.cons.injEq, and_true] at hw
    obtain ⟨rfl, rfl, rfl, rfl, rfl, rfl, rfl⟩ := hw
    refine ⟨⟨start_has hk'.1, hk'.1, by decide, by rw [Int.sub_zero]; rfl⟩, ?_⟩
    rintro i s q0 q1 q2 q3 q4 q5 ⟨hi, hs, hq0, hq1, hq2, hq3, hq4, hq5, _⟩ ⟨hik, hval, hpow⟩
    have hi : 0 ≤ i ∧ i ≤ 191 := hi
    refine ⟨fun h1 m0 m1 m2 m3 m4 m5 m6 o hm => ?_, fun h1 => ?_⟩
    · have h1 := of_decide_eq_true h1
      have hmh : allHas (h7 ++ [(Kd.i .i64).iv]) (mulF [s, q0, q1, q2, q3, q4, q5, n, a, b, c, d, e, f]) := mulF_has
      have hm := out1 (g := 17) rfl rfl (F := mulWF) rfl hm mulW_has
      have e2 : mulWF [s, q0, q1, q2, q3, q4, q5, n, a, b, c, d, e, f] = mulF [s, q0, q1, q2, q3, q4, q5, n, a, b, c, d, e, f] := by
        unfold mulWF
        rw [if_pos ⟨hval, hv⟩]
      rw [e2] at hm
      have st := pow_step (a := [n, a, b, c, d, e, f]) h1 hm
      rw [hpow] at st
      have cs := mul_cases hm
      rw [← hm] at hmh
      refine ⟨fun h2 => ?_, fun h2 => ?_⟩
      · rw [st, if_neg (by simpa using h2)]
      · have h2 : o = 0 := by simpa using h2
        rw [if_pos h2] at st
        have hv2 : validF [m0, m1, m2, m3, m4, m5, m6] = [1] := by
          rcases cs with cs | cs
          · exact cs.2
          · have := cs.1; omega
        have hm0 : 0 ≤ m0 ∧ m0 ≤ 1 := hmh.1
        rw [bool_id hm0]
        exact ⟨⟨⟨by show 0 ≤ i + 1; omega, by show i + 1 ≤ 191; omega⟩, hmh.1, hmh.2.1, hmh.2.2.1, hmh.2.2.2.1, hmh.2.2.2.2.1, hmh.2.2.2.2.2.1, hmh.2.2.2.2.2.2.1, trivial⟩, ⟨by omega, hv2, st.symm⟩, by show (k - (i + 1)).toNat < (k - i).toNat; omega⟩
    · have h1 := of_decide_eq_false h1
      rw [← hpow, show (k - i).toNat = 0 by omega]
      rfl

theorem cLawPow : CT Try.prog tb.fns (pres pr) 9 s9 :=
  k9 tb noI noM pr ⟨rfl, rfl, rfl, rfl, trivial⟩ ⟨fun _ _ => trivial, fun _ _ => trivial, fun _ _ => trivial, fun _ _ => trivial, trivial⟩ rfl ⟨cTo, cPow', cPow, cEq, trivial⟩ fun n a b c d e f k hn ha hb hc hd he hf hk _ => by
    unfold p9
    intro t0 t1 t2 t3 t4 t5 t6 ht
    have ht := to_id (g := 16) rfl rfl hn ha hb hc hd he hf ht
    simp only [List.cons.injEq, and_true] at ht
    obtain ⟨rfl, rfl, rfl, rfl, rfl, rfl, rfl⟩ := ht
    intro x0 x1 x2 x3 x4 x5 x6 x7 hx
    have hx := out1 (g := 29) rfl rfl (F := powWF) rfl hx powW_has
    intro t0 t1 t2 t3 t4 t5 t6 ht
    have ht := to_id (g := 16) rfl rfl hn ha hb hc hd he hf ht
    simp only [List.cons.injEq, and_true] at ht
    obtain ⟨rfl, rfl, rfl, rfl, rfl, rfl, rfl⟩ := ht
    intro y0 y1 y2 y3 y4 y5 y6 y7 hy
    have hy := out1 (g := 30) rfl rfl (F := powWF) rfl hy powW_has
    rw [← hx] at hy
    simp only [List.cons.injEq, and_true] at hy
    obtain ⟨rfl, rfl, rfl, rfl, rfl, rfl, rfl, rfl⟩ := hy
    intro q hq
    have hq := out1 (g := 18) rfl rfl (F := eqWF) rfl hq (eqW_has _ _ _ _ _ _ _ _ _ _ _ _ _ _)
    simp only [eqWF, and_self, if_true, List.cons.injEq, and_true] at hq
    subst hq
    exact ⟨fun _ => ⟨fun h => (by simp at h), fun _ => rfl⟩, fun h => by simp at h⟩

end Go.Proofs.Ytmlmdicdblgcfaa.Sx

namespace Go.Proofs.Ytmlmdicdblgcfaa.Sx
open Go

theorem or_two {x y : Int} (hx : 0 ≤ x) (h2 : x % 2 = 0) (hx4 : x ≤ 4294967294) (hy : 0 ≤ y ∧ y ≤ 1) : bitsInt .or .u32 x y = x + y := by
  exact (or_add (P := 2) (p := 1) rfl hx h2 hy.1 (by omega) (by omega)).1
/-- Twice a size, and a bit. -/
theorem shl1 {a b c d e f x a' b' c' d' e' f' t : Int} (ha : L32 a) (hb : L32 b) (hc : L32 c) (hd : L32 d) (he : L32 e) (hf : L32 f) (hx : 0 ≤ x ∧ x ≤ 1)
    (ht : t = f / 2147483648) (h5 : f' = bitsInt .or .u32 (f * 2 % 4294967296) (e / 2147483648)) (h4 : e' = bitsInt .or .u32 (e * 2 % 4294967296) (d / 2147483648)) (h3 : d' = bitsInt .or .u32 (d * 2 % 4294967296) (c / 2147483648))
    (h2 : c' = bitsInt .or .u32 (c * 2 % 4294967296) (b / 2147483648)) (h1 : b' = bitsInt .or .u32 (b * 2 % 4294967296) (a / 2147483648)) (h0 : a' = bitsInt .or .u32 (a * 2 % 4294967296) x) :
    v6 a' b' c' d' e' f' + t * top = 2 * v6 a b c d e f + x ∧ L32 a' ∧ L32 b' ∧ L32 c' ∧ L32 d' ∧ L32 e' ∧ L32 f' ∧ 0 ≤ t ∧ t ≤ 1 := by
  have or1 : ∀ y z : Int, L32 y → 0 ≤ z ∧ z ≤ 1 → bitsInt .or .u32 (y * 2 % 4294967296) z = y * 2 % 4294967296 + z := fun y z hy hz => or_two (by omega) (by omega) (by omega) hz
  rw [or1 _ _ hf (by omega)] at h5
  rw [or1 _ _ he (by omega)] at h4
  rw [or1 _ _ hd (by omega)] at h3
  rw [or1 _ _ hc (by omega)] at h2
  rw [or1 _ _ hb (by omega)] at h1
  rw [or1 _ _ ha hx] at h0
  subst h0 h1 h2 h3 h4 h5 ht
  refine ⟨?_, by omega, by omega, by omega, by omega, by omega, by omega, by omega, by omega⟩
  unfold v6 top
  omega
/-- One step of a division bit by bit: the whole is X, the number of bits to come is i. -/
theorem div_step {X Y P Qv r T q' r' : Int} (hP : 0 < P) (hY : 0 < Y) (_hX : 0 ≤ X) (hq : Qv = X / (2 * P) / Y * (2 * P)) (hr : r = X / (2 * P) % Y) (hT : T = 2 * r + X / P % 2)
    (h : (Y ≤ T ∧ q' = Qv + P ∧ r' = T - Y) ∨ (T < Y ∧ q' = Qv ∧ r' = T)) : q' = X / P / Y * P ∧ r' = X / P % Y := by
  have e0 : X / (2 * P) = X / P / 2 := by rw [Int.mul_comm, Int.ediv_ediv_of_nonneg (by omega)]
  rw [e0] at hq hr
  generalize X / P = Z at *
  have e1 := Int.mul_ediv_add_emod (Z / 2) Y
  have e2 := Int.emod_nonneg (Z / 2) (b := Y) (by omega)
  have e3 := Int.emod_lt_of_pos (Z / 2) hY
  have e4 : Z = 2 * (Z / 2) + Z % 2 := by omega
  have uniq : ∀ w s : Int, Z = Y * w + s → 0 ≤ s → s < Y → Z / Y = w ∧ Z % Y = s := fun w s h1 h2 h3 => by
    rw [h1]
    refine ⟨?_, ?_⟩
    · rw [Int.add_comm, Int.add_mul_ediv_left _ _ (by omega), Int.ediv_eq_zero_of_lt h2 h3]; omega
    · rw [Int.add_comm, Int.add_mul_emod_self_left]; exact Int.emod_eq_of_lt h2 h3
  rcases h with ⟨h1, h2, h3⟩ | ⟨h1, h2, h3⟩
  · have U := uniq (2 * (Z / 2 / Y) + 1) (T - Y) (by rw [Int.mul_add, Int.mul_one, Int.mul_left_comm]; omega) (by omega) (by omega)
    rw [U.1, U.2, h2, h3, hq]
    refine ⟨?_, rfl⟩
    grind
  · have U := uniq (2 * (Z / 2 / Y)) T (by rw [Int.mul_left_comm]; omega) (by omega) (by omega)
    rw [U.1, U.2, h2, h3, hq]
    refine ⟨?_, rfl⟩
    grind
end Go.Proofs.Ytmlmdicdblgcfaa.Sx

namespace Go.Proofs.Ytmlmdicdblgcfaa.Sx
open Go Go.RowKit

/-! ### A greater table -/
theorem CT.move {P : Program} {T T' : Tab} {pre pre' : Nat → List Int → Prop} {g : Nat} {s : Sig} (h : CT P T.fns (pres pre) g s) (hs : T'.sig g = T.sig g) (hf : T'.fn g = T.fn g) (hp : ∀ xs, pre' g xs → pre g xs) : CT P T'.fns (pres pre') g s := by
  have e : ∀ xs ls, T'.fns g xs ls = T.fns g xs ls := fun xs ls => by simp only [Tab.fns, hs, hf]
  intro w xs args hx ha hq
  rw [e]
  exact h w xs args hx ha (hp xs hq)
theorem outT {T : Tab} {g : Nat} {s : Sig} (h : T.sig g = some s) {n : Nat} (hn : (resKds s).length = n) {F : List Int → List Int} (hF : T.fn g = F) {xs ys : List Int} (hy : ys = T.out g n xs) (hr : allHas ((resKds s).map Kd.iv) (F xs)) : ys = F xs := by
  subst hF
  rw [hy, T.out_eq h hn hr]
def sigU (l : List (Nat × Sig)) (d : Nat → Option Sig) (g : Nat) : Option Sig := match sigOf l g with
  | some s => some s
  | none => d g
def lookU (l : List (Nat × (List Int → List Int))) (d : Nat → List Int → List Int) : Nat → List Int → List Int := match l with
  | [] => d
  | (h, f) :: r => fun g => bif Nat.beq h g then f else lookU r d g
def lookQ (l : List (Nat × (List Int → Prop))) (d : Nat → List Int → Prop) : Nat → List Int → Prop := match l with
  | [] => d
  | (h, f) :: r => fun g => bif Nat.beq h g then f else lookQ r d g

def divMagF : List Int → List Int
  | [a, b, c, d, e, f, a', b', c', d', e', f'] => lim6 (v6 a b c d e f / v6 a' b' c' d' e' f') ++ lim6 (v6 a b c d e f % v6 a' b' c' d' e' f')
  | _ => []
def shortF : List Int → List Int
  | [a, b, c, d, e, f, y] => lim6 (v6 a b c d e f / y) ++ [v6 a b c d e f % y]
  | _ => []
def addF : List Int → List Int
  | [n, a, b, c, d, e, f, n', a', b', c', d', e', f'] =>
    if n = 1 ↔ n' = 1 then (if top ≤ v6 a b c d e f + v6 a' b' c' d' e' f' then [0, 0, 0, 0, 0, 0, 0, 3] else mk7 n (lim6 (v6 a b c d e f + v6 a' b' c' d' e' f')) ++ [0])
    else if v6 a' b' c' d' e' f' ≤ v6 a b c d e f then mk7 n (lim6 (v6 a b c d e f - v6 a' b' c' d' e' f')) ++ [0] else mk7 n' (lim6 (v6 a' b' c' d' e' f' - v6 a b c d e f)) ++ [0]
  | _ => []
def addWF (xs : List Int) : List Int := if validF (xs.take 7) = [1] ∧ validF (xs.drop 7) = [1] then addF xs else [0, 0, 0, 0, 0, 0, 0, 1]
/-- The quotient rounded down, and the rest, with their signs. -/
def divF : List Int → List Int
  | [n, a, b, c, d, e, f, n', a', b', c', d', e', f'] =>
    let X := v6 a b c d e f
    let Y := v6 a' b' c' d' e' f'
    let s : Int := if n = 1 ↔ n' = 1 then 0 else 1
    if ¬ (n = 1 ↔ n' = 1) ∧ X % Y ≠ 0 then mk7 s (lim6 (X / Y + 1)) ++ mk7 n' (lim6 (Y - X % Y)) else mk7 s (lim6 (X / Y)) ++ mk7 n' (lim6 (X % Y))
  | _ => []
def divWF (xs : List Int) : List Int := if validF (xs.take 7) = [1] ∧ validF (xs.drop 7) = [1] then (if zeroF (xs.drop 8) = [1] then [0, 0, 0, 0, 0, 0, 0, 0, 0, 0, 0, 0, 0, 0, 4] else divF xs ++ [0]) else [0, 0, 0, 0, 0, 0, 0, 0, 0, 0, 0, 0, 0, 0, 1]
def signF : List Int → List Int
  | [n, a, b, c, d, e, f] => [if n = 1 then -1 else if a = 0 ∧ b = 0 ∧ c = 0 ∧ d = 0 ∧ e = 0 ∧ f = 0 then 0 else 1]
  | _ => []

def tblV4 : List (Nat × (List Int → List Int)) := [(69, divMagF), (72, shortF), (74, addF), (63, addWF), (60, divF), (23, divWF), (59, signF)]
def nzF : List Int → Prop
  | [_, _, _, _, _, _, a', b', c', d', e', f'] => v6 a' b' c' d' e' f' ≠ 0
  | _ => False
def nzW : List Int → Prop
  | [_, _, _, _, _, _, _, _, a', b', c', d', e', f'] => v6 a' b' c' d' e' f' ≠ 0
  | _ => False
def nzS : List Int → Prop
  | [_, _, _, _, _, _, y] => y ≠ 0
  | _ => False
def preV4 : List (Nat × (List Int → Prop)) := [(69, fun xs => allHas iv69 xs ∧ nzF xs), (72, fun xs => allHas iv72 xs ∧ nzS xs), (60, fun xs => allHas iv60 xs ∧ nzW xs)]
def tb4 : Tab := ⟨sigU sigsV4 tb.sig, lookU tblV4 tb.fn⟩
abbrev pr4 : Nat → List Int → Prop := lookQ preV4 pr

/-! ### Bits -/
theorem bits_lt {a b c d e f : Int} (ha : L32 a) (hb : L32 b) (hc : L32 c) (hd : L32 d) (he : L32 e) (hf : L32 f) : v6 a b c d e f < 2 ^ (bits6 a b c d e f).toNat := by
  have one : ∀ (x lo : Int) (k : Nat), L32 x → 0 ≤ lo → lo < 2 ^ k → lo + 2 ^ k * x < 2 ^ ((k : Int) + bl x).toNat := by
    intro x lo k hx h0 hlo
    have hb := bl_bd hx.1 hx.2
    have := (bl_spec hx.1 hx.2 (bl x).toNat).2 (by omega)
    rw [show ((k : Int) + bl x).toNat = k + (bl x).toNat by omega, Int.pow_add]
    have h1 : x + 1 ≤ 2 ^ (bl x).toNat := by omega
    have h2 := Int.mul_le_mul_of_nonneg_left h1 (by have := pow_pos' k; omega : (0 : Int) ≤ 2 ^ k)
    rw [Int.mul_add, Int.mul_one] at h2
    omega
  unfold bits6
  unfold v6
  split
  · have := one f (a + 4294967296 * b + 18446744073709551616 * c + 79228162514264337593543950336 * d + 340282366920938463463374607431768211456 * e) 160 hf (by omega) (by omega)
    exact this
  split
  · have h : f = 0 := by omega
    have := one e (a + 4294967296 * b + 18446744073709551616 * c + 79228162514264337593543950336 * d) 128 he (by omega) (by omega)
    subst h; rw [Int.mul_zero, Int.add_zero]; exact this
  split
  · have h : f = 0 := by omega
    have h' : e = 0 := by omega
    have := one d (a + 4294967296 * b + 18446744073709551616 * c) 96 hd (by omega) (by omega)
    subst h h'; rw [Int.mul_zero, Int.mul_zero, Int.add_zero, Int.add_zero]; exact this
  split
  · have h : f = 0 ∧ e = 0 ∧ d = 0 := by omega
    have := one c (a + 4294967296 * b) 64 hc (by omega) (by omega)
    obtain ⟨rfl, rfl, rfl⟩ := h; rw [Int.mul_zero, Int.mul_zero, Int.mul_zero, Int.add_zero, Int.add_zero, Int.add_zero]; exact this
  split
  · have h : f = 0 ∧ e = 0 ∧ d = 0 ∧ c = 0 := by omega
    have := one b a 32 hb (by omega) (by omega)
    obtain ⟨rfl, rfl, rfl, rfl⟩ := h; rw [Int.mul_zero, Int.mul_zero, Int.mul_zero, Int.mul_zero, Int.add_zero, Int.add_zero, Int.add_zero, Int.add_zero]; exact this
  · have h : f = 0 ∧ e = 0 ∧ d = 0 ∧ c = 0 ∧ b = 0 := by omega
    have := one a 0 0 ha (by omega) (by omega)
    obtain ⟨rfl, rfl, rfl, rfl, rfl⟩ := h
    simpa using this
theorem lb_ext {a b c d e f : Int} (ha : L32 a) (hb : L32 b) (hc : L32 c) (hd : L32 d) (he : L32 e) (hf : L32 f) {s : Int} (h0 : 0 ≤ s) (h5 : s ≤ 5) : v6 a b c d e f / pw s % 4294967296 = lb a b c d e f s := by
  rcases six h0 h5 with rfl | rfl | rfl | rfl | rfl | rfl <;> (simp [pw, v6, lb]; omega)
theorem and_one {y : Int} (h : L32 y) : bitsInt .and .u32 y 1 = y % 2 := by
  have e1 := ofInt_toNat (n := 32) h.1 (by omega)
  have ey : (BitVec.ofInt 32 y).toNat = y.toNat := by omega
  have e2 : (BitVec.ofInt 32 1).toNat = 1 := by decide
  show IntKind.wrap .u32 ((BitVec.ofInt 32 y &&& BitVec.ofInt 32 1).toNat : Int) = _
  rw [BitVec.toNat_and, ey, e2, Nat.and_one_is_mod]
  rw [wrap_id ⟨by show (0 : Int) ≤ _; omega, by show _ ≤ (4294967295 : Int); omega⟩]
  omega
/-- Powers by limbs and bits. -/
theorem pow_idx {i : Int} (h : 0 ≤ i) : (2 : Int) ^ i.toNat = pw (i / 32) * 2 ^ (i % 32).toNat := by
  unfold pw
  rw [← Int.pow_add, show 32 * (i / 32).toNat + (i % 32).toNat = i.toNat by omega]
theorem pow_half {p : Int} (h0 : 0 ≤ p) (h : p ≤ 31) : (2 : Int) ^ p.toNat * (2 * 2 ^ (31 - p).toNat) = 4294967296 := by
  rw [show (2 : Int) * 2 ^ (31 - p).toNat = 2 ^ (32 - p).toNat by rw [show (32 - p).toNat = (31 - p).toNat + 1 by omega, Int.pow_succ]; omega]
  exact pow_toNat p h0 (by omega)
theorem bit_of {a b c d e f : Int} (ha : L32 a) (hb : L32 b) (hc : L32 c) (hd : L32 d) (he : L32 e) (hf : L32 f) {i : Int} (h0 : 0 ≤ i) (h : i ≤ 191) : bitsInt .and .u32 (lb a b c d e f (i / 32) / 2 ^ (i % 32).toNat) 1 = v6 a b c d e f / 2 ^ i.toNat % 2 := by
  have hl := lb_bd ha hb hc hd he hf (i / 32)
  have hp := pow_pos' (i % 32).toNat
  have hE := lb_ext ha hb hc hd he hf (s := i / 32) (by omega) (by omega)
  have hq : 0 ≤ lb a b c d e f (i / 32) / 2 ^ (i % 32).toNat := Int.ediv_nonneg hl.1 (by omega)
  have hq2 : lb a b c d e f (i / 32) / 2 ^ (i % 32).toNat ≤ lb a b c d e f (i / 32) := Int.ediv_le_self _ hl.1
  rw [and_one ⟨hq, by have := hl.2; omega⟩, pow_idx h0, ← Int.ediv_ediv_of_nonneg (by have := pw_pos (i / 32); omega)]
  have hh := pow_half (p := i % 32) (by omega) (by omega)
  generalize v6 a b c d e f / pw (i / 32) = Z at *
  rw [← hE]
  have e1 := Int.mul_ediv_add_emod Z 4294967296
  have e2 : Z / 2 ^ (i % 32).toNat = Z % 4294967296 / 2 ^ (i % 32).toNat + 2 * (2 ^ (31 - i % 32).toNat * (Z / 4294967296)) := by
    have : Z = Z % 4294967296 + 2 * (2 ^ (31 - i % 32).toNat * (Z / 4294967296)) * 2 ^ (i % 32).toNat := by
      have : 2 * (2 ^ (31 - i % 32).toNat * (Z / 4294967296)) * 2 ^ (i % 32).toNat = 4294967296 * (Z / 4294967296) := by
        rw [← hh]; grind
      omega
    have e : Z / 2 ^ (i % 32).toNat = (Z % 4294967296 + 2 * (2 ^ (31 - i % 32).toNat * (Z / 4294967296)) * 2 ^ (i % 32).toNat) / 2 ^ (i % 32).toNat := by rw [← this]
    rw [e, Int.add_mul_ediv_right _ _ (by omega)]
  rw [e2]
  omega
/-- A bit that is put where there is none yet. -/
theorem bit_put {a b c d e f : Int} (ha : L32 a) (hb : L32 b) (hc : L32 c) (hd : L32 d) (he : L32 e) (hf : L32 f) {i w : Int} (h0 : 0 ≤ i) (h : i ≤ 191) (hv : v6 a b c d e f = w * (2 * 2 ^ i.toNat)) :
    bitsInt .or .u32 (lb a b c d e f (i / 32)) (1 * 2 ^ (i % 32).toNat) = lb a b c d e f (i / 32) + 2 ^ (i % 32).toNat ∧ lb a b c d e f (i / 32) + 2 ^ (i % 32).toNat ≤ 4294967295 := by
  have hl := lb_bd ha hb hc hd he hf (i / 32)
  have hp := pow_pos' (i % 32).toNat
  have hE := lb_ext ha hb hc hd he hf (s := i / 32) (by omega) (by omega)
  have hh := pow_half (p := i % 32) (by omega) (by omega)
  have hps := pw_pos (i / 32)
  have e1 : v6 a b c d e f / pw (i / 32) = w * (2 * 2 ^ (i % 32).toNat) := by
    rw [hv, pow_idx h0, show w * (2 * (pw (i / 32) * 2 ^ (i % 32).toNat)) = w * (2 * 2 ^ (i % 32).toNat) * pw (i / 32) by grind]
    exact Int.mul_ediv_cancel _ (by omega)
  rw [e1] at hE
  have hd : (2 * 2 ^ (i % 32).toNat : Int) ∣ 4294967296 := ⟨2 ^ (31 - i % 32).toNat, by rw [← hh]; grind⟩
  have e2 : lb a b c d e f (i / 32) % (2 * 2 ^ (i % 32).toNat) = 0 := by
    rw [← hE, Int.emod_emod_of_dvd _ hd]
    exact Int.mul_emod_left _ _
  obtain ⟨q, hq⟩ := Int.dvd_of_emod_eq_zero e2
  obtain ⟨z, hz⟩ := hd
  have hbound : lb a b c d e f (i / 32) + 2 * 2 ^ (i % 32).toNat ≤ 4294967296 := by
    rw [hq, hz]
    have : q + 1 ≤ z := by
      have : q < z := by
        refine Int.lt_of_mul_lt_mul_left (a := 2 * 2 ^ (i % 32).toNat) ?_ (by omega)
        rw [← hq, ← hz]; have := hl.2; omega
      omega
    have := Int.mul_le_mul_of_nonneg_left this (by omega : (0 : Int) ≤ 2 * 2 ^ (i % 32).toNat)
    rw [Int.mul_add, Int.mul_one] at this
    exact this
  have e3 : (2 : Int) * 2 ^ (i % 32).toNat = 2 ^ ((i % 32).toNat + 1) := by rw [Int.pow_succ]; omega
  have := or_add (x := lb a b c d e f (i / 32)) (y := 2 ^ (i % 32).toNat) (P := 2 * 2 ^ (i % 32).toNat) e3 hl.1 e2 (by omega) (by omega) (by omega)
  exact ⟨by rw [Int.one_mul]; exact this.1, by omega⟩
theorem lim6_add {x k : Int} : lim6 (x + k * top) = lim6 x := by
  unfold lim6 top
  simp only [List.cons.injEq, and_true]
  refine ⟨?_, ?_, ?_, ?_, ?_, ?_⟩ <;> omega
end Go.Proofs.Ytmlmdicdblgcfaa.Sx

namespace Go.Proofs.Ytmlmdicdblgcfaa.Sx
open Go Go.RowKit

def dmI : Nat → List Int → List Int → Prop := fun _ pre ys => match pre, ys with
  | x0 :: x1 :: x2 :: x3 :: x4 :: x5 :: y0 :: y1 :: y2 :: y3 :: y4 :: y5 :: _, [i, q0, q1, q2, q3, q4, q5, r0, r1, r2, r3, r4, r5] =>
    v6 q0 q1 q2 q3 q4 q5 = v6 x0 x1 x2 x3 x4 x5 / 2 ^ (i + 1).toNat / v6 y0 y1 y2 y3 y4 y5 * 2 ^ (i + 1).toNat ∧ v6 r0 r1 r2 r3 r4 r5 = v6 x0 x1 x2 x3 x4 x5 / 2 ^ (i + 1).toNat % v6 y0 y1 y2 y3 y4 y5
  | _, _ => False
def dmM : Nat → List Int → List Int → Nat := fun _ _ ys => match ys with
  | i :: _ => (i + 1).toNat
  | _ => 0
theorem out6' {x a b c d e f : Int} (h : [a, b, c, d, e, f] = lim6 x) : L32 a ∧ L32 b ∧ L32 c ∧ L32 d ∧ L32 e ∧ L32 f := by
  have := lim6_has x
  rw [← h] at this
  exact ⟨this.1, this.2.1, this.2.2.1, this.2.2.2.1, this.2.2.2.2.1, this.2.2.2.2.2.1⟩

theorem cDivMag : CT Try.prog tb4.fns (pres pr4) 69 s69 :=
  k69 tb4 dmI dmM pr4 ⟨rfl, rfl, rfl, trivial⟩ ⟨fun _ _ => trivial, fun _ _ => trivial, fun _ _ => trivial, trivial⟩ rfl ⟨cBits'.move rfl rfl (fun _ h => h), cCmp'.move rfl rfl (fun _ h => h), cMinus'.move rfl rfl (fun _ h => h), trivial⟩ (fun _ h => h.1) fun x0 x1 x2 x3 x4 x5 y0 y1 y2 y3 y4 y5 hx0 hx1 hx2 hx3 hx4 hx5 hy0 hy1 hy2 hy3 hy4 hy5 hnz => by
    unfold p69
    have e0 : tb4.fn 69 [x0, x1, x2, x3, x4, x5, y0, y1, y2, y3, y4, y5] = lim6 (v6 x0 x1 x2 x3 x4 x5 / v6 y0 y1 y2 y3 y4 y5) ++ lim6 (v6 x0 x1 x2 x3 x4 x5 % v6 y0 y1 y2 y3 y4 y5) := rfl
    rw [e0]
    have hnz : v6 y0 y1 y2 y3 y4 y5 ≠ 0 := hnz.2
    have hX := v6_bd hx0 hx1 hx2 hx3 hx4 hx5
    have hY := v6_bd hy0 hy1 hy2 hy3 hy4 hy5
    have hbit : ∀ i : Int, 0 ≤ i → i ≤ 191 → bitsInt .and .u32 (lb x0 x1 x2 x3 x4 x5 (i / 32) / 2 ^ (i % 32).toNat) 1 = v6 x0 x1 x2 x3 x4 x5 / 2 ^ i.toNat % 2 := fun i h0 h1 => bit_of hx0 hx1 hx2 hx3 hx4 hx5 h0 h1
    have hlt := bits_lt hx0 hx1 hx2 hx3 hx4 hx5
    have hbd := bits6_bd hx0 hx1 hx2 hx3 hx4 hx5
    intro n hn
    have hn := outT (T := tb4) (g := 94) rfl rfl (F := bitsF) rfl hn (bits_has hx0 hx1 hx2 hx3 hx4 hx5)
    simp only [bitsF, List.cons.injEq, and_true] at hn
    refine ⟨⟨⟨⟨by show -1 ≤ n - 1; omega, by show n - 1 ≤ 191; omega⟩, allHas_append (a := h6) (xs := [0, 0, 0, 0, 0, 0]) zero6 zero6⟩, ?_⟩, ?_⟩
    · show v6 0 0 0 0 0 0 = v6 x0 x1 x2 x3 x4 x5 / 2 ^ (n - 1 + 1).toNat / v6 y0 y1 y2 y3 y4 y5 * 2 ^ (n - 1 + 1).toNat ∧ v6 0 0 0 0 0 0 = v6 x0 x1 x2 x3 x4 x5 / 2 ^ (n - 1 + 1).toNat % v6 y0 y1 y2 y3 y4 y5
      rw [show n - 1 + 1 = bits6 x0 x1 x2 x3 x4 x5 by omega, Int.ediv_eq_zero_of_lt hX.1 hlt]
      simp [v6]
    rintro i q0 q1 q2 q3 q4 q5 r0 r1 r2 r3 r4 r5 ⟨hi, hq0, hq1, hq2, hq3, hq4, hq5, hr0, hr1, hr2, hr3, hr4, hr5, _⟩ ⟨hQ, hR⟩
    have hi : -1 ≤ i ∧ i ≤ 191 := hi
    refine ⟨fun h => ?_, fun h => ?_⟩
    · have h := of_decide_eq_true h
      intro t ht s5 hs5 s4 hs4 s3 hs3 s2 hs2 s1 hs1 x hx s0 hs0
      rw [sel_lb (by omega) (by omega)] at hx hs0
      rw [wrap_u32] at hs0 hs1 hs2 hs3 hs4 hs5
      rw [hbit i h hi.2] at hs0
      have hP := pow_pos' i.toNat
      have hP2 : (2 : Int) ^ (i + 1).toNat = 2 * 2 ^ i.toNat := by rw [show (i + 1).toNat = i.toNat + 1 by omega, Int.pow_succ]; omega
      rw [hP2] at hQ hR
      have S := shl1 hr0 hr1 hr2 hr3 hr4 hr5 (by omega) ht hs5 hs4 hs3 hs2 hs1 hs0
      obtain ⟨hS, S0, S1, S2, S3, S4, S5, t0, t1⟩ := S
      have hSb := v6_bd S0 S1 S2 S3 S4 S5
      have hR1 := Int.emod_nonneg (v6 x0 x1 x2 x3 x4 x5 / (2 * 2 ^ i.toNat)) hnz
      have hR2 := Int.emod_lt_of_pos (v6 x0 x1 x2 x3 x4 x5 / (2 * 2 ^ i.toNat)) (b := v6 y0 y1 y2 y3 y4 y5) (by omega)
      have g := cells_of q0 q1 q2 q3 q4 q5
      have B := bit_put hq0 hq1 hq2 hq3 hq4 hq5 h hi.2 hQ
      -- a subtraction
      have sub : ∀ d0 d1 d2 d3 d4 d5 : Int, [d0, d1, d2, d3, d4, d5] = tb4.out 90 6 [s0, s1, s2, s3, s4, s5, y0, y1, y2, y3, y4, y5] → v6 y0 y1 y2 y3 y4 y5 ≤ v6 s0 s1 s2 s3 s4 s5 + t * top → ∀ z, z = lb q0 q1 q2 q3 q4 q5 (i / 32) →
          ∀ w0 w1 w2 w3 w4 w5 : Int, Cells w0 w1 w2 w3 w4 w5 (fun j => if j = i / 32 then bitsInt .or .u32 z (1 * 2 ^ (i % 32).toNat) else lb q0 q1 q2 q3 q4 q5 j) →
          allHas (⟨-1, 191⟩ :: (h6 ++ h6)) [i - 1, w0, w1, w2, w3, w4, w5, d0, d1, d2, d3, d4, d5] ∧ (v6 w0 w1 w2 w3 w4 w5 = v6 x0 x1 x2 x3 x4 x5 / 2 ^ (i - 1 + 1).toNat / v6 y0 y1 y2 y3 y4 y5 * 2 ^ (i - 1 + 1).toNat ∧ v6 d0 d1 d2 d3 d4 d5 = v6 x0 x1 x2 x3 x4 x5 / 2 ^ (i - 1 + 1).toNat % v6 y0 y1 y2 y3 y4 y5) := by
        intro d0 d1 d2 d3 d4 d5 hd hle z hz w0 w1 w2 w3 w4 w5 gw
        have hd := outT (T := tb4) (g := 90) rfl rfl (F := minusF) rfl hd (lim6_has _)
        simp only [minusF] at hd
        rw [← lim6_add (k := t)] at hd
        have D := out6 (by omega) (by unfold top at *; omega) hd
        rw [hz, B.1] at gw
        have hv := v6_put (i := i / 32) (by omega) (by omega) g gw
        have hv2 : v6 w0 w1 w2 w3 w4 w5 = v6 q0 q1 q2 q3 q4 q5 + 2 ^ i.toNat := by rw [hv, pow_idx h]; grind
        have st := div_step (X := v6 x0 x1 x2 x3 x4 x5) (P := 2 ^ i.toNat) hP (by omega) hX.1 hQ hR rfl (.inl ⟨by rw [← hS]; exact hle, rfl, rfl⟩)
        rw [show i - 1 + 1 = i by omega]
        refine ⟨⟨⟨by show -1 ≤ i - 1; omega, by show i - 1 ≤ 191; omega⟩, allHas_append (a := h6) (xs := [w0, w1, w2, w3, w4, w5]) (gw.has fun j _ _ => ?_) (has6 D.1 D.2.1 D.2.2.1 D.2.2.2.1 D.2.2.2.2.1 D.2.2.2.2.2.1)⟩, by rw [hv2]; exact st.1, ?_⟩
        · split
          · exact ⟨by have := (lb_bd hq0 hq1 hq2 hq3 hq4 hq5 (i / 32)).1; have := pow_pos' (i % 32).toNat; omega, B.2⟩
          · exact lb_bd hq0 hq1 hq2 hq3 hq4 hq5 j
        · rw [D.2.2.2.2.2.2, ← st.2, ← hS]; omega
      refine ⟨fun h1 o ho => ?_, fun h1 d0 d1 d2 d3 d4 d5 hd z hz w0 hw0 w1 hw1 w2 hw2 w3 hw3 w4 hw4 w5 hw5 => ?_⟩
      · have h1 : t ≠ 1 := by simpa using h1
        have t00 : t = 0 := by omega
        subst t00
        have ho := outT (T := tb4) (g := 93) rfl rfl (F := cmpF) rfl ho (cmp_has _ _)
        simp only [cmpF, List.cons.injEq, and_true] at ho
        unfold cmpI at ho
        refine ⟨fun h2 d0 d1 d2 d3 d4 d5 hd z hz w0 hw0 w1 hw1 w2 hw2 w3 hw3 w4 hw4 w5 hw5 => ?_, fun h2 => ?_⟩
        · have h2 := of_decide_eq_true h2
          rw [sel_lb (by omega) (by omega)] at hz
          have K := sub d0 d1 d2 d3 d4 d5 hd (by (repeat' split at ho) <;> omega) z hz _ _ _ _ _ _ (g.put hw0 hw1 hw2 hw3 hw4 hw5)
          exact ⟨K.1, K.2, by show (i - 1 + 1).toNat < (i + 1).toNat; omega⟩
        · have h2 := of_decide_eq_false h2
          have hT : v6 s0 s1 s2 s3 s4 s5 < v6 y0 y1 y2 y3 y4 y5 := by (repeat' split at ho) <;> omega
          have st := div_step (X := v6 x0 x1 x2 x3 x4 x5) (P := 2 ^ i.toNat) hP (by omega) hX.1 hQ hR rfl (.inr ⟨by omega, rfl, rfl⟩)
          refine ⟨⟨⟨by show -1 ≤ i - 1; omega, by show i - 1 ≤ 191; omega⟩, allHas_append (a := h6) (xs := [q0, q1, q2, q3, q4, q5]) (has6 hq0 hq1 hq2 hq3 hq4 hq5) (has6 S0 S1 S2 S3 S4 S5)⟩, ⟨?_, ?_⟩, by show (i - 1 + 1).toNat < (i + 1).toNat; omega⟩
          · rw [show i - 1 + 1 = i by omega]; exact st.1
          · rw [show i - 1 + 1 = i by omega, ← st.2, ← hS]; omega
      · have h1 : t = 1 := by simpa using h1
        rw [sel_lb (by omega) (by omega)] at hz
        have K := sub d0 d1 d2 d3 d4 d5 hd (by rw [h1]; unfold top at *; omega) z hz _ _ _ _ _ _ (g.put hw0 hw1 hw2 hw3 hw4 hw5)
        exact ⟨K.1, K.2, by show (i - 1 + 1).toNat < (i + 1).toNat; omega⟩
    · have h := of_decide_eq_false h
      have hi1 : i = -1 := by omega
      subst hi1
      have e1 : (2 : Int) ^ (-1 + 1 : Int).toNat = 1 := by decide
      rw [e1, Int.ediv_one, Int.mul_one] at hQ
      rw [e1, Int.ediv_one] at hR
      show [q0, q1, q2, q3, q4, q5, r0, r1, r2, r3, r4, r5] = _
      rw [← hQ, ← hR, lim6_v6 hq0 hq1 hq2 hq3 hq4 hq5, lim6_v6 hr0 hr1 hr2 hr3 hr4 hr5]
      rfl
end Go.Proofs.Ytmlmdicdblgcfaa.Sx

namespace Go.Proofs.Ytmlmdicdblgcfaa.Sx

/-- A guess is not less than the limb. -/
theorem knuth_le {q U V U3 V2 P lo lv : Int} (hP : 0 < P) (hU : U = U3 * P + lo) (hlo : lo < P) (hV : V = V2 * P + lv) (hlv : 0 ≤ lv) (hq0 : 0 ≤ q) (hq : q * V ≤ U) (hV2 : 0 < V2) : q ≤ U3 / V2 := by
  refine (Int.le_ediv_iff_mul_le hV2).2 ?_
  have h1 : 0 ≤ q * lv := Int.mul_nonneg hq0 hlv
  have h2 : q * V = q * V2 * P + q * lv := by rw [hV, Int.mul_add, Int.mul_assoc]
  have h3 : q * V2 * P < (U3 + 1) * P := by rw [Int.add_mul, Int.one_mul]; omega
  have := Int.lt_of_mul_lt_mul_right h3 (Int.le_of_lt hP)
  omega
/-- And it is at most one more. -/
theorem knuth_ge {g U V U3 V2 P lo lv : Int} (hP : 0 < P) (hU : U = U3 * P + lo) (hlo : 0 ≤ lo) (hV : V = V2 * P + lv) (hlv : lv < P) (h1 : 1 ≤ g) (hg : g * V2 ≤ U3) (hB : g ≤ 4294967295) (hV2 : 4294967294 ≤ V2) : (g - 1) * V ≤ U := by
  have a1 : (g - 1) * V ≤ (g - 1) * ((V2 + 1) * P) := Int.mul_le_mul_of_nonneg_left (by rw [hV, Int.add_mul, Int.one_mul]; omega) (by omega)
  have a2 : (g - 1) * (V2 + 1) = g * V2 - V2 + g - 1 := by grind
  have a3 : (g - 1) * (V2 + 1) ≤ U3 := by omega
  have a4 : (g - 1) * (V2 + 1) * P ≤ U3 * P := Int.mul_le_mul_of_nonneg_right a3 (Int.le_of_lt hP)
  rw [← Int.mul_assoc] at a1
  omega
/-- What the loop of the guess keeps. -/
def GInv (upper first u3 v2 digit rest : Int) : Prop := digit * first + rest = upper ∧ 0 ≤ digit ∧ 0 ≤ rest ∧ (u3 / v2 ≤ digit ∨ 4294967295 ≤ digit)
def guessV (u3 v2 : Int) : Int := if u3 / v2 ≤ 4294967295 then u3 / v2 else 4294967295

/-- It stops: the digit is the guess. -/
theorem guess_stop {upper first second u0 digit rest : Int} (hf : 2147483648 ≤ first) (hs : 0 ≤ second) (h : GInv upper first (upper * 4294967296 + u0) (first * 4294967296 + second) digit rest)
    (h1 : digit ≤ 4294967295) (h2 : digit * second ≤ rest * 4294967296 + u0) : digit = guessV (upper * 4294967296 + u0) (first * 4294967296 + second) := by
  obtain ⟨e, hd, hr, hge⟩ := h
  have hle : digit ≤ (upper * 4294967296 + u0) / (first * 4294967296 + second) := by
    refine (Int.le_ediv_iff_mul_le (by omega)).2 ?_
    have : digit * (first * 4294967296 + second) = digit * first * 4294967296 + digit * second := by rw [Int.mul_add, Int.mul_assoc]
    rw [this]
    have : digit * first = upper - rest := by omega
    rw [this]
    omega
  unfold guessV
  split <;> omega
/-- It goes on: one less. -/
theorem guess_less {upper first second u0 digit rest : Int} (hf : 2147483648 ≤ first) (hs : 0 ≤ second) (h : GInv upper first (upper * 4294967296 + u0) (first * 4294967296 + second) digit rest)
    (h1 : 4294967295 < digit ∨ rest * 4294967296 + u0 < digit * second) (hu : 0 ≤ u0) : 1 ≤ digit ∧ GInv upper first (upper * 4294967296 + u0) (first * 4294967296 + second) (digit - 1) (rest + first) := by
  obtain ⟨e, hd, hr, hge⟩ := h
  have hd1 : 1 ≤ digit := by
    rcases h1 with h1 | h1
    · omega
    · rcases Int.lt_or_le 0 digit with h | h
      · omega
      · have : digit = 0 := by omega
        rw [this, Int.zero_mul] at h1
        omega
  refine ⟨hd1, by rw [← e, Int.sub_mul, Int.one_mul]; omega, by omega, by omega, ?_⟩
  rcases h1 with h1 | h1
  · right; omega
  · left
    have : (upper * 4294967296 + u0) / (first * 4294967296 + second) < digit := by
      refine (Int.ediv_lt_iff_lt_mul (by omega)).2 ?_
      have : digit * (first * 4294967296 + second) = digit * first * 4294967296 + digit * second := by rw [Int.mul_add, Int.mul_assoc]
      rw [this]
      have : digit * first = upper - rest := by omega
      rw [this]
      omega
    omega
/-- It stops for the greater rest. -/
theorem guess_rest {upper first second u0 digit rest : Int} (hf : 2147483648 ≤ first) (hs : 0 ≤ second) (hs1 : second ≤ 4294967295) (hu : 0 ≤ u0) (hup : upper ≤ first * 4294967296 + 4294967295)
    (h : GInv upper first (upper * 4294967296 + u0) (first * 4294967296 + second) digit rest) (h1 : 4294967295 < rest) : digit = guessV (upper * 4294967296 + u0) (first * 4294967296 + second) := by
  have h' := h
  obtain ⟨e, hd, hr, hge⟩ := h
  have hd1 : digit ≤ 4294967295 := by
    rcases Int.lt_or_le 4294967295 digit with c | c
    · have : 4294967296 * first ≤ digit * first := Int.mul_le_mul_of_nonneg_right (by omega) (by omega)
      omega
    · exact c
  refine guess_stop hf hs h' hd1 ?_
  have : digit * second ≤ 4294967295 * 4294967295 := Int.mul_le_mul hd1 hs1 hs (by omega)
  omega
theorem guess_first {upper first u0 second : Int} (hf : 2147483648 ≤ first) (hs : 0 ≤ second) (hu : 0 ≤ upper) (hu0 : u0 ≤ 4294967295) : GInv upper first (upper * 4294967296 + u0) (first * 4294967296 + second) (upper / first) (upper % first) := by
  refine ⟨by rw [Int.mul_comm]; exact Int.mul_ediv_add_emod upper first, Int.ediv_nonneg hu (by omega), Int.emod_nonneg _ (by omega), .inl ?_⟩
  have h1 := Int.mul_ediv_add_emod upper first
  have h2 := Int.emod_lt_of_pos upper (b := first) (by omega)
  have hq : 0 ≤ upper / first := Int.ediv_nonneg hu (by omega)
  have : (upper * 4294967296 + u0) / (first * 4294967296 + second) < upper / first + 1 := by
    refine (Int.ediv_lt_iff_lt_mul (by omega)).2 ?_
    have a : (upper / first + 1) * (first * 4294967296 + second) = (first * (upper / first) + first) * 4294967296 + (upper / first + 1) * second := by grind
    have b : 0 ≤ (upper / first + 1) * second := Int.mul_nonneg (by omega) hs
    rw [a]
    omega
  omega
/-- The guess is the limb, or one more. -/
theorem guess_near {U V U3 V2 P lo lv : Int} (hP : 0 < P) (hU : U = U3 * P + lo) (hlo : 0 ≤ lo) (hlo' : lo < P) (hV : V = V2 * P + lv) (hlv : 0 ≤ lv) (hlv' : lv < P) (hU3 : 0 ≤ U3) (hV2 : 4294967294 ≤ V2) (hUV : U < V * 4294967296) :
    guessV U3 V2 = U / V ∨ guessV U3 V2 = U / V + 1 := by
  have hVp : 0 < V := by have := Int.mul_pos (show 0 < V2 by omega) hP; omega
  have hU0 : 0 ≤ U := by have := Int.mul_nonneg hU3 (Int.le_of_lt hP); omega
  have hq0 : 0 ≤ U / V := Int.ediv_nonneg hU0 (Int.le_of_lt hVp)
  have hqV : U / V * V ≤ U := Int.ediv_mul_le U (by omega)
  have hqB : U / V < 4294967296 := (Int.ediv_lt_iff_lt_mul hVp).2 (by rw [Int.mul_comm]; exact hUV)
  have hle := knuth_le hP hU hlo' hV hlv hq0 hqV (by omega)
  have hg0 : 0 ≤ U3 / V2 := Int.ediv_nonneg hU3 (by omega)
  have hgV : U3 / V2 * V2 ≤ U3 := Int.ediv_mul_le U3 (by omega)
  have hg : guessV U3 V2 ≤ U3 / V2 ∧ guessV U3 V2 ≤ 4294967295 ∧ 0 ≤ guessV U3 V2 ∧ U / V ≤ guessV U3 V2 := by unfold guessV; split <;> omega
  rcases Int.lt_or_le (guessV U3 V2) 1 with c | c
  · left; omega
  · have := knuth_ge hP hU hlo hV hlv' c (Int.le_trans (Int.mul_le_mul_of_nonneg_right hg.1 (by omega)) hgV) hg.2.1 hV2
    have := (Int.le_ediv_iff_mul_le hVp).2 this
    omega
end Go.Proofs.Ytmlmdicdblgcfaa.Sx

namespace Go.Proofs.Ytmlmdicdblgcfaa.Sx
open Go Go.RowKit

/-- The limb at a place of a row. -/
def lb7 (a b c d e f g k : Int) : Int := if k = 0 then a else if k = 1 then b else if k = 2 then c else if k = 3 then d else if k = 4 then e else if k = 5 then f else if k = 6 then g else 0
theorem lb7_bd {a b c d e f g : Int} (ha : L32 a) (hb : L32 b) (hc : L32 c) (hd : L32 d) (he : L32 e) (hf : L32 f) (hg : L32 g) (k : Int) : L32 (lb7 a b c d e f g k) := by
  unfold lb7; (repeat' split) <;> first | assumption | omega
theorem sel_lb7 {a b c d e f g k : Int} (h0 : 0 ≤ k) (h6 : k ≤ 6) : (if decide (k = 0) = true then a else if decide (k = 1) = true then b else if decide (k = 2) = true then c else if decide (k = 3) = true then d else if decide (k = 4) = true then e else if decide (k = 5) = true then f else g) = lb7 a b c d e f g k := by
  simp only [decide_eq_true_eq]
  unfold lb7
  (repeat' split) <;> first | rfl | omega
theorem or64 {a b : Int} (ha : 0 ≤ a ∧ a ≤ 4294967295) (hb : 0 ≤ b ∧ b ≤ 4294967295) : bitsInt .or .u64 (b * 4294967296) a = b * 4294967296 + a := by
  obtain ⟨x, rfl⟩ := Int.eq_ofNat_of_zero_le ha.1
  obtain ⟨y, rfl⟩ := Int.eq_ofNat_of_zero_le hb.1
  have e : y * 4294967296 + x = (y * 4294967296) ||| x := by
    have := Nat.shiftLeft_add_eq_or_of_lt (b := x) (i := 32) (by omega) y
    rwa [Nat.shiftLeft_eq, show (2 : Nat) ^ 32 = 4294967296 from rfl] at this
  have e1 : ((y : Int) * 4294967296) = ((y * 4294967296 : Nat) : Int) := by omega
  have h4 : y * 4294967296 % 2 ^ 64 = y * 4294967296 := Nat.mod_eq_of_lt (by omega)
  have h5 : x % 2 ^ 64 = x := Nat.mod_eq_of_lt (by omega)
  have key : (BitVec.ofInt 64 ((y : Int) * 4294967296) ||| BitVec.ofInt 64 (x : Int)).toNat = y * 4294967296 + x := by
    rw [e1, BitVec.ofInt_natCast, BitVec.ofInt_natCast, BitVec.toNat_or, BitVec.toNat_ofNat, BitVec.toNat_ofNat, h4, h5, e]
  show IntKind.wrap .u64 ((BitVec.ofInt 64 ((y : Int) * 4294967296) ||| BitVec.ofInt 64 (x : Int)).toNat) = _
  rw [key, wrap_u64]
  omega
def guessF : List Int → List Int
  | [r0, r1, r2, r3, r4, r5, r6, d0, d1, d2, d3, d4, d5, t, n] => [guessV ((lb7 r0 r1 r2 r3 r4 r5 r6 (t + n) * 4294967296 + lb7 r0 r1 r2 r3 r4 r5 r6 (t + n - 1)) * 4294967296 + lb7 r0 r1 r2 r3 r4 r5 r6 (t + n - 2)) (lb d0 d1 d2 d3 d4 d5 (n - 1) * 4294967296 + lb d0 d1 d2 d3 d4 d5 (n - 2))]
  | _ => []
def guessP : List Int → Prop
  | [r0, r1, r2, r3, r4, r5, r6, d0, d1, d2, d3, d4, d5, t, n] => 2 ≤ n ∧ t + n ≤ 6 ∧ 2147483648 ≤ lb d0 d1 d2 d3 d4 d5 (n - 1) ∧ lb7 r0 r1 r2 r3 r4 r5 r6 (t + n) ≤ lb d0 d1 d2 d3 d4 d5 (n - 1)
  | _ => False
/-- Seven limbs. -/
def v7 (a b c d e f g : Int) : Int := v6 a b c d e f + top * g
def lim7 (x : Int) : List Int := lim6 x ++ [x / top % 4294967296]
def upRowF : List Int → List Int
  | [a, b, c, d, e, f, by_] => lim7 (v6 a b c d e f * 2 ^ by_.toNat)
  | _ => []
def tblV5 : List (Nat × (List Int → List Int)) := [(101, guessF), (100, upRowF)]
def preV5 : List (Nat × (List Int → Prop)) := [(101, fun xs => allHas iv101 xs ∧ guessP xs), (100, fun xs => allHas iv100 xs)]
def tb5 : Tab := ⟨tb4.sig, lookU tblV5 tb4.fn⟩
abbrev pr5 : Nat → List Int → Prop := lookQ preV5 pr4

def gI : Nat → List Int → List Int → Prop := fun _ pre ys => match pre, ys with
  | r0 :: r1 :: r2 :: r3 :: r4 :: r5 :: r6 :: d0 :: d1 :: d2 :: d3 :: d4 :: d5 :: t :: n :: _ :: _ :: f :: s :: _ :: _ :: U :: _, [g, q] => GInv U f (U * 4294967296 + lb7 r0 r1 r2 r3 r4 r5 r6 (t + n - 2)) (f * 4294967296 + s) g q ∧ q ≤ 4294967295
  | _, _ => False
def gM : Nat → List Int → List Int → Nat := fun _ _ ys => match ys with
  | g :: _ => g.toNat
  | _ => 0

theorem cGuess : CT Try.prog tb5.fns (pres pr5) 101 s101 :=
  k101 tb5 gI gM pr5 trivial trivial rfl trivial (fun _ h => h.1) fun r0 r1 r2 r3 r4 r5 r6 d0 d1 d2 d3 d4 d5 t n hr0 hr1 hr2 hr3 hr4 hr5 hr6 hd0 hd1 hd2 hd3 hd4 hd5 ht hn hp => by
    unfold p101
    obtain ⟨p1, p2, p3, p4⟩ : 2 ≤ n ∧ t + n ≤ 6 ∧ 2147483648 ≤ lb d0 d1 d2 d3 d4 d5 (n - 1) ∧ lb7 r0 r1 r2 r3 r4 r5 r6 (t + n) ≤ lb d0 d1 d2 d3 d4 d5 (n - 1) := hp.2
    rw [show tb5.fn 101 [r0, r1, r2, r3, r4, r5, r6, d0, d1, d2, d3, d4, d5, t, n] = [guessV ((lb7 r0 r1 r2 r3 r4 r5 r6 (t + n) * 4294967296 + lb7 r0 r1 r2 r3 r4 r5 r6 (t + n - 1)) * 4294967296 + lb7 r0 r1 r2 r3 r4 r5 r6 (t + n - 2)) (lb d0 d1 d2 d3 d4 d5 (n - 1) * 4294967296 + lb d0 d1 d2 d3 d4 d5 (n - 2))] from rfl]
    have s1 := sel_lb (a := d0) (b := d1) (c := d2) (d := d3) (e := d4) (f := d5) (k := n - 1) (by omega) (by omega)
    have s2 := sel_lb (a := d0) (b := d1) (c := d2) (d := d3) (e := d4) (f := d5) (k := n - 2) (by omega) (by omega)
    have q2 := sel_lb7 (a := r0) (b := r1) (c := r2) (d := r3) (e := r4) (f := r5) (g := r6) (k := t + n) (by omega) (by omega)
    have q1 := sel_lb7 (a := r0) (b := r1) (c := r2) (d := r3) (e := r4) (f := r5) (g := r6) (k := t + n - 1) (by omega) (by omega)
    have q0 := sel_lb7 (a := r0) (b := r1) (c := r2) (d := r3) (e := r4) (f := r5) (g := r6) (k := t + n - 2) (by omega) (by omega)
    simp only [s1, s2, q2, q1, q0]
    clear s1 s2 q2 q1 q0
    have hF := lb_bd hd0 hd1 hd2 hd3 hd4 hd5 (n - 1)
    have hS := lb_bd hd0 hd1 hd2 hd3 hd4 hd5 (n - 2)
    have hu2 := lb7_bd hr0 hr1 hr2 hr3 hr4 hr5 hr6 (t + n)
    have hu1 := lb7_bd hr0 hr1 hr2 hr3 hr4 hr5 hr6 (t + n - 1)
    have hu0 := lb7_bd hr0 hr1 hr2 hr3 hr4 hr5 hr6 (t + n - 2)
    generalize lb d0 d1 d2 d3 d4 d5 (n - 1) = F at *
    generalize lb d0 d1 d2 d3 d4 d5 (n - 2) = S at *
    generalize lb7 r0 r1 r2 r3 r4 r5 r6 (t + n) = u2 at *
    generalize lb7 r0 r1 r2 r3 r4 r5 r6 (t + n - 1) = u1 at *
    generalize hz : lb7 r0 r1 r2 r3 r4 r5 r6 (t + n - 2) = z at *
    have gIe : ∀ a1 a2 f s a3 a4 U l g q, gI 2 (r0 :: r1 :: r2 :: r3 :: r4 :: r5 :: r6 :: d0 :: d1 :: d2 :: d3 :: d4 :: d5 :: t :: n :: a1 :: a2 :: f :: s :: a3 :: a4 :: U :: l) [g, q] = (GInv U f (U * 4294967296 + z) (f * 4294967296 + s) g q ∧ q ≤ 4294967295) := fun a1 a2 f s a3 a4 U l g q => by rw [← hz]; rfl
    have gMe : ∀ pre g q, gM 2 pre [g, q] = g.toNat := fun _ _ _ => rfl
    simp only [gIe, gMe, decide_eq_true_eq, decide_eq_false_iff_not, Bool.not_eq_true']
    refine ⟨by omega, fun _ v15 hv15 v16 hv16 f hf s hs => ⟨by omega, fun _ v19 hv19 v20 hv20 U hU => ?_⟩⟩
    rw [or64 hu1 hu2] at hU
    rw [← hU, ← hf, ← hs]
    rw [← hf] at p3 p4 hF
    rw [← hs] at hS
    refine ⟨by omega, fun _ g hg q hq => ?_⟩
    have hU0 : 0 ≤ U := by omega
    have hU1 : U ≤ f * 4294967296 + 4294967295 := by omega
    rw [Int.tmod_eq_emod_of_nonneg hU0] at hq
    have G0 := guess_first (upper := U) (first := f) (u0 := z) (second := s) p3 hS.1 hU0 hu0.2
    rw [← hg, ← hq] at G0
    have hq1 : q ≤ 4294967295 := by have := Int.emod_lt_of_pos U (b := f) (by omega); omega
    have hg1 : g ≤ 18446744073709551615 := by have := Int.ediv_le_self f hU0; omega
    have orq : ∀ q : Int, 0 ≤ q → q ≤ 4294967295 → bitsInt .or .u64 (IntKind.wrap .u64 (q * 4294967296)) z = q * 4294967296 + z := fun q h0 h1 => by
      rw [wrap_u64, Int.emod_eq_of_lt (by omega) (by omega), or64 hu0 ⟨h0, h1⟩]
    have less : ∀ g q : Int, g ≤ 18446744073709551615 → GInv U f (U * 4294967296 + z) (f * 4294967296 + s) g q → q ≤ 4294967295 → (4294967295 < g ∨ q * 4294967296 + z < g * s) → IntKind.wrap .u64 (g - 1) = g - 1 ∧ IntKind.wrap .u64 (q + f) = q + f ∧ 1 ≤ g ∧ GInv U f (U * 4294967296 + z) (f * 4294967296 + s) (g - 1) (q + f) := fun g q h1 h2 h3 h4 => by
      have k := guess_less p3 hS.1 h2 h4 hu0.1
      have := h2.2.2.1
      exact ⟨by rw [wrap_u64, Int.emod_eq_of_lt (by omega) (by omega)], by rw [wrap_u64, Int.emod_eq_of_lt (by omega) (by omega)], k.1, k.2⟩
    have fin : ∀ g q : Int, GInv U f (U * 4294967296 + z) (f * 4294967296 + s) g q → ¬ q ≤ 4294967295 → [IntKind.wrap .u32 g] = [guessV (U * 4294967296 + z) (f * 4294967296 + s)] := fun g q h1 h2 => by
      have k := guess_rest p3 hS.1 hS.2 hu0.1 hU1 h1 (by omega)
      have k2 : guessV (U * 4294967296 + z) (f * 4294967296 + s) ≤ 4294967295 := by unfold guessV; split <;> omega
      have := h1.2.1
      rw [wrap_u32, Int.emod_eq_of_lt (by omega) (by omega), k]
    have stop : ∀ g q : Int, GInv U f (U * 4294967296 + z) (f * 4294967296 + s) g q → g ≤ 4294967295 → ¬ q * 4294967296 + z < g * s → [g] = [guessV (U * 4294967296 + z) (f * 4294967296 + s)] := fun g q h1 h2 h3 => by
      rw [guess_stop p3 hS.1 h1 h2 (by omega)]
    have has2 : ∀ g q : Int, 1 ≤ g → g ≤ 18446744073709551615 → 0 ≤ q → q ≤ 4294967295 → allHas [⟨0, 18446744073709551615⟩, ⟨0, 18446744073709551615⟩] [g - 1, q] := fun g q h1 h2 h3 h4 =>
      ⟨⟨by show 0 ≤ g - 1; omega, by show g - 1 ≤ 18446744073709551615; omega⟩, ⟨by show 0 ≤ q; omega, by show q ≤ 18446744073709551615; omega⟩, trivial⟩
    -- one more round
    have round : ∀ g q : Int, allHas [⟨0, 18446744073709551615⟩, ⟨0, 18446744073709551615⟩] [g, q] → GInv U f (U * 4294967296 + z) (f * 4294967296 + s) g q ∧ q ≤ 4294967295 →
        ((g ≤ 4294967295 → ((0 ≤ t + n - 2 ∧ t + n - 2 < 7) ∧ ((0 ≤ t + n - 2 ∧ t + n - 2 < 7) → ∀ v29 : Int, v29 = z →
          ((bitsInt .or .u64 (IntKind.wrap .u64 (q * 4294967296)) v29 < g * s → ∀ v30 : Int, v30 = IntKind.wrap .u64 (g - 1) → ∀ v31 : Int, v31 = IntKind.wrap .u64 (q + f) →
            ((v31 ≤ 4294967295 → (allHas [⟨0, 18446744073709551615⟩, ⟨0, 18446744073709551615⟩] [v30, v31] ∧ (GInv U f (U * 4294967296 + z) (f * 4294967296 + s) v30 v31 ∧ v31 ≤ 4294967295) ∧ v30.toNat < g.toNat)) ∧
             (¬ v31 ≤ 4294967295 → ∀ v32 : Int, v32 = IntKind.wrap .u32 v30 → [v32] = [guessV (U * 4294967296 + z) (f * 4294967296 + s)]))) ∧
           (¬ bitsInt .or .u64 (IntKind.wrap .u64 (q * 4294967296)) v29 < g * s → [g] = [guessV (U * 4294967296 + z) (f * 4294967296 + s)]))))) ∧
        (¬ g ≤ 4294967295 → ∀ v29 : Int, v29 = IntKind.wrap .u64 (q + f) →
          ((v29 ≤ 4294967295 → (allHas [⟨0, 18446744073709551615⟩, ⟨0, 18446744073709551615⟩] [g - 1, v29] ∧ (GInv U f (U * 4294967296 + z) (f * 4294967296 + s) (g - 1) v29 ∧ v29 ≤ 4294967295) ∧ (g - 1).toNat < g.toNat)) ∧
           (¬ v29 ≤ 4294967295 → ∀ v30 : Int, v30 = IntKind.wrap .u32 (g - 1) → [v30] = [guessV (U * 4294967296 + z) (f * 4294967296 + s)])))) := by
      intro g q hh hI
      have b1 : g ≤ 18446744073709551615 := hh.1.2
      have b2 := hI.1.2.2.1
      refine ⟨fun c => ⟨by omega, fun _ v hv => ⟨fun c2 a ha b hb => ?_, fun c2 => ?_⟩⟩, fun c b hb => ?_⟩
      · subst hv
        rw [orq q b2 hI.2] at c2
        obtain ⟨l1, l2, l3, l4⟩ := less g q b1 hI.1 hI.2 (.inr c2)
        rw [l1] at ha
        rw [l2] at hb
        subst ha hb
        exact ⟨fun c3 => ⟨has2 g _ l3 b1 l4.2.2.1 c3, ⟨l4, c3⟩, by omega⟩, fun c3 w hw => by rw [hw]; exact fin _ _ l4 c3⟩
      · subst hv
        rw [orq q b2 hI.2] at c2
        exact stop g q hI.1 c c2
      · obtain ⟨l1, l2, l3, l4⟩ := less g q b1 hI.1 hI.2 (.inl (by omega))
        rw [l2] at hb
        subst hb
        exact ⟨fun c3 => ⟨has2 g _ l3 b1 l4.2.2.1 c3, ⟨l4, c3⟩, by omega⟩, fun c3 w hw => by rw [hw]; exact fin _ _ l4 c3⟩
    refine ⟨fun c => ⟨by omega, fun _ v hv => ⟨fun c2 a ha b hb => ?_, fun c2 => ?_⟩⟩, fun c b hb => ?_⟩
    · subst hv
      rw [orq q G0.2.2.1 hq1] at c2
      obtain ⟨l1, l2, l3, l4⟩ := less g q hg1 G0 hq1 (.inr c2)
      rw [l1] at ha
      rw [l2] at hb
      subst ha hb
      exact ⟨fun c3 => ⟨⟨has2 g _ l3 hg1 l4.2.2.1 c3, ⟨l4, c3⟩⟩, round⟩, fun c3 w hw => by rw [hw]; exact fin _ _ l4 c3⟩
    · subst hv
      rw [orq q G0.2.2.1 hq1] at c2
      exact stop g q G0 c c2
    · obtain ⟨l1, l2, l3, l4⟩ := less g q hg1 G0 hq1 (.inl (by omega))
      rw [l2] at hb
      subst hb
      exact ⟨fun c3 => ⟨⟨has2 g _ l3 hg1 l4.2.2.1 c3, ⟨l4, c3⟩⟩, round⟩, fun c3 w hw => by rw [hw]; exact fin _ _ l4 c3⟩
end Go.Proofs.Ytmlmdicdblgcfaa.Sx

namespace Go.Proofs.Ytmlmdicdblgcfaa.Sx
open Go Go.RowKit

theorem short_step {y r u w q s : Int} (hy : 0 < y) (hyL : y ≤ 4294967295) (hr : 0 ≤ r ∧ r < y) (hu : L32 u) (hw : w = bitsInt .or .u64 (IntKind.wrap .u64 (r * 4294967296)) u) (hq : q = IntKind.wrap .u32 (w / y)) (hs : s = Int.tmod w y) :
    r * 4294967296 + u = y * q + s ∧ L32 q ∧ 0 ≤ s ∧ s < y := by
  rw [wrap_u64, Int.emod_eq_of_lt (by omega) (by omega), or64 hu (by omega)] at hw
  have hu1 := hu.1
  have hw0 : 0 ≤ w := by omega
  rw [Int.tmod_eq_emod_of_nonneg hw0] at hs
  have h1 := Int.mul_ediv_add_emod w y
  have h2 := Int.emod_nonneg w (b := y) (by omega)
  have h3 := Int.emod_lt_of_pos w hy
  have h4 : w / y < 4294967296 := (Int.ediv_lt_iff_lt_mul hy).2 (by have := hu.2; omega)
  have h5 : 0 ≤ w / y := Int.ediv_nonneg hw0 (by omega)
  rw [wrap_u32, Int.emod_eq_of_lt h5 h4] at hq
  rw [hq, hs]
  exact ⟨by omega, ⟨h5, by omega⟩, h2, h3⟩

theorem cShort : CT Try.prog tb5.fns (pres pr5) 72 s72 :=
  k72 tb5 noI noM pr5 trivial trivial rfl trivial (fun _ h => h.1) fun x0 x1 x2 x3 x4 x5 y h0 h1 h2 h3 h4 h5 hy hp => by
    unfold p72
    have hy0 : y ≠ 0 := hp.2
    rw [show tb5.fn 72 [x0, x1, x2, x3, x4, x5, y] = lim6 (v6 x0 x1 x2 x3 x4 x5 / y) ++ [v6 x0 x1 x2 x3 x4 x5 % y] from rfl]
    have hd : (!decide (y = 0)) = true := by simpa using hy0
    simp only [hd, true_and, true_implies]
    intro w5 hw5 q5 hq5 r5 hr5 w4 hw4 q4 hq4 r4 hr4 w3 hw3 q3 hq3 r3 hr3 w2 hw2 q2 hq2 r2 hr2 w1 hw1 q1 hq1 r1 hr1 w0 hw0 q0 hq0 r0 hr0 r hr
    have hyp : 0 < y := by omega
    have S5 := short_step (r := 0) hyp hy.2 (by omega) h5 (by rw [hw5]; rfl) hq5 hr5
    have S4 := short_step hyp hy.2 S5.2.2 h4 hw4 hq4 hr4
    have S3 := short_step hyp hy.2 S4.2.2 h3 hw3 hq3 hr3
    have S2 := short_step hyp hy.2 S3.2.2 h2 hw2 hq2 hr2
    have S1 := short_step hyp hy.2 S2.2.2 h1 hw1 hq1 hr1
    have S0 := short_step hyp hy.2 S1.2.2 h0 hw0 hq0 hr0
    have E : v6 x0 x1 x2 x3 x4 x5 = y * v6 q0 q1 q2 q3 q4 q5 + r0 := by
      have e : y * v6 q0 q1 q2 q3 q4 q5 = v6 (y * q0) (y * q1) (y * q2) (y * q3) (y * q4) (y * q5) := by unfold v6; grind
      rw [e]
      unfold v6
      omega
    have Q := (Int.ediv_emod_unique hyp).2 ⟨show r0 + y * v6 q0 q1 q2 q3 q4 q5 = v6 x0 x1 x2 x3 x4 x5 by omega, S0.2.2.1, S0.2.2.2⟩
    rw [Q.1, Q.2, lim6_v6 S0.2.1 S1.2.1 S2.2.1 S3.2.1 S4.2.1 S5.2.1, hr, wrap_u32, Int.emod_eq_of_lt (by omega) (by omega)]
    rfl
end Go.Proofs.Ytmlmdicdblgcfaa.Sx

namespace Go.Proofs.Ytmlmdicdblgcfaa.Sx
open Go Go.RowKit

theorem lim7_of {x a b c d e f g : Int} (h : v7 a b c d e f g = x) (ha : L32 a) (hb : L32 b) (hc : L32 c) (hd : L32 d) (he : L32 e) (hf : L32 f) (hg : L32 g) : [a, b, c, d, e, f, g] = lim7 x := by
  have h6 : [a, b, c, d, e, f] = lim6 x := lim6_of g (by unfold v7 at h; rw [← h, Int.mul_comm]) ha hb hc hd he hf
  have hv := v6_bd ha hb hc hd he hf
  have h7 : g = x / top % 4294967296 := by
    rw [← h]
    unfold v7
    rw [Int.add_mul_ediv_left _ _ (by decide : (top : Int) ≠ 0), Int.ediv_eq_zero_of_lt hv.1 hv.2]
    omega
  unfold lim7
  rw [← h6, ← h7]
  rfl

theorem row_cell {x y w P Q : Int} {p : Nat} (hp : P = 2 ^ p) (h32 : p ≤ 31) (hPQ : P * Q = 4294967296) (hx : L32 x) (hy : L32 y) (hw : w = bitsInt .or .u32 (IntKind.wrap .u32 (x * P)) (y / Q)) : w = x * P % 4294967296 + y * P / 4294967296 ∧ L32 w := by
  have hP : 0 < P := by rw [hp]; exact pow_pos' _
  have e : y / Q = y * P / 4294967296 := by rw [← hPQ, Int.mul_comm y P, Int.mul_ediv_mul_of_pos _ _ hP]
  rw [wrap_u32, e, (up_or hp hx hy h32).1] at hw
  have hQ : P * 2 ^ (32 - p) = 4294967296 := by rw [hp, ← Int.pow_add, show p + (32 - p) = 32 by omega]; rfl
  have hl := up_low hy hP (pow_pos' (32 - p)) hQ
  have h1 := Int.emod_nonneg (x * P) (b := 4294967296) (by omega)
  have h2 := up_sum (x := x) hP hQ hl.2
  exact ⟨hw, by rw [hw]; exact ⟨by omega, h2⟩⟩

theorem cUpRow : CT Try.prog tb5.fns (pres pr5) 100 s100 :=
  k100 tb5 noI noM pr5 trivial trivial rfl trivial (fun _ h => h) fun x0 x1 x2 x3 x4 x5 k h0 h1 h2 h3 h4 h5 hk hp => by
    unfold p100
    have hk : 0 ≤ k ∧ k ≤ 31 := hk
    rw [show tb5.fn 100 [x0, x1, x2, x3, x4, x5, k] = lim7 (v6 x0 x1 x2 x3 x4 x5 * 2 ^ k.toNat) from rfl]
    intro c6 hc6 c5 hc5 c4 hc4 c3 hc3 c2 hc2 c1 hc1 c0 hc0
    have hPQ : (2 : Int) ^ k.toNat * 2 ^ (32 - k).toNat = 4294967296 := by rw [← Int.pow_add, show k.toNat + (32 - k).toNat = 32 by omega]; rfl
    have h31 : k.toNat ≤ 31 := by omega
    have z : (0 : Int) * 2 ^ k.toNat = IntKind.wrap .u32 (0 * 2 ^ k.toNat) := by rw [Int.zero_mul]; rfl
    rw [z] at hc6
    have C6 := row_cell rfl h31 hPQ (by omega : L32 0) h5 hc6
    have C5 := row_cell rfl h31 hPQ h5 h4 hc5
    have C4 := row_cell rfl h31 hPQ h4 h3 hc4
    have C3 := row_cell rfl h31 hPQ h3 h2 hc3
    have C2 := row_cell rfl h31 hPQ h2 h1 hc2
    have C1 := row_cell rfl h31 hPQ h1 h0 hc1
    have C0 : c0 = x0 * 2 ^ k.toNat % 4294967296 := by rw [hc0, wrap_u32]
    refine lim7_of ?_ (by omega) C1.2 C2.2 C3.2 C4.2 C5.2 C6.2
    rw [v6_mul]
    have := C6.1; have := C5.1; have := C4.1; have := C3.1; have := C2.1; have := C1.1
    generalize x0 * 2 ^ k.toNat = y0 at *
    generalize x1 * 2 ^ k.toNat = y1 at *
    generalize x2 * 2 ^ k.toNat = y2 at *
    generalize x3 * 2 ^ k.toNat = y3 at *
    generalize x4 * 2 ^ k.toNat = y4 at *
    generalize x5 * 2 ^ k.toNat = y5 at *
    unfold v7 v6 top
    omega
end Go.Proofs.Ytmlmdicdblgcfaa.Sx

namespace Go.Proofs.Ytmlmdicdblgcfaa.Sx
open Go Go.RowKit

def Cells7 (a b c d e f g : Int) (U : Int → Int) : Prop := a = U 0 ∧ b = U 1 ∧ c = U 2 ∧ d = U 3 ∧ e = U 4 ∧ f = U 5 ∧ g = U 6
theorem seven {i : Int} (h0 : 0 ≤ i) (h6 : i ≤ 6) : i = 0 ∨ i = 1 ∨ i = 2 ∨ i = 3 ∨ i = 4 ∨ i = 5 ∨ i = 6 := by omega
theorem put7 {a b c d e f g a' b' c' d' e' f' g' i X : Int} (h0 : 0 ≤ i) (h6 : i ≤ 6) (ha : a' = if decide (i = 0) = true then X else a) (hb : b' = if decide (i = 1) = true then X else b) (hc : c' = if decide (i = 2) = true then X else c)
    (hd : d' = if decide (i = 3) = true then X else d) (he : e' = if decide (i = 4) = true then X else e) (hf : f' = if decide (i = 5) = true then X else f) (hg : g' = if decide (i = 6) = true then X else g) :
    v7 a' b' c' d' e' f' g' = v7 a b c d e f g + pw i * (X - lb7 a b c d e f g i) ∧ ∀ j, i < j → lb7 a' b' c' d' e' f' g' j = lb7 a b c d e f g j := by
  subst ha hb hc hd he hf hg
  rcases seven h0 h6 with rfl | rfl | rfl | rfl | rfl | rfl | rfl
  · refine ⟨?_, fun j hj => ?_⟩
    · simp [lb7, pw, v7, v6, top]; try omega
    · have n : ¬ j = 0 := by omega
      simp [lb7, n]
  · refine ⟨?_, fun j hj => ?_⟩
    · simp [lb7, pw, v7, v6, top]; try omega
    · have n : ¬ j = 1 := by omega
      simp [lb7, n]
  · refine ⟨?_, fun j hj => ?_⟩
    · simp [lb7, pw, v7, v6, top]; try omega
    · have n : ¬ j = 2 := by omega
      simp [lb7, n]
  · refine ⟨?_, fun j hj => ?_⟩
    · simp [lb7, pw, v7, v6, top]; try omega
    · have n : ¬ j = 3 := by omega
      simp [lb7, n]
  · refine ⟨?_, fun j hj => ?_⟩
    · simp [lb7, pw, v7, v6, top]; try omega
    · have n : ¬ j = 4 := by omega
      simp [lb7, n]
  · refine ⟨?_, fun j hj => ?_⟩
    · simp [lb7, pw, v7, v6, top]; try omega
    · have n : ¬ j = 5 := by omega
      simp [lb7, n]
  · refine ⟨?_, fun j hj => ?_⟩
    · simp [lb7, pw, v7, v6, top]; try omega
    · have n : ¬ j = 6 := by omega
      simp [lb7, n]
theorem has7 {a b c d e f g a' b' c' d' e' f' g' i X : Int} (k0 : L32 a) (k1 : L32 b) (k2 : L32 c) (k3 : L32 d) (k4 : L32 e) (k5 : L32 f) (k6 : L32 g) (hX : L32 X) (ha : a' = if decide (i = 0) = true then X else a) (hb : b' = if decide (i = 1) = true then X else b) (hc : c' = if decide (i = 2) = true then X else c)
    (hd : d' = if decide (i = 3) = true then X else d) (he : e' = if decide (i = 4) = true then X else e) (hf : f' = if decide (i = 5) = true then X else f) (hg : g' = if decide (i = 6) = true then X else g) : L32 a' ∧ L32 b' ∧ L32 c' ∧ L32 d' ∧ L32 e' ∧ L32 f' ∧ L32 g' := by
  have one : ∀ (i j v w : Int), L32 w → (v = if decide (i = j) = true then X else w) → L32 v := fun i j v w h e => by rw [e]; split <;> assumption
  exact ⟨one _ _ _ _ k0 ha, one _ _ _ _ k1 hb, one _ _ _ _ k2 hc, one _ _ _ _ k3 hd, one _ _ _ _ k4 he, one _ _ _ _ k5 hf, one _ _ _ _ k6 hg⟩
theorem v7_lt {a b c d e f g j : Int} (k0 : L32 a) (k1 : L32 b) (k2 : L32 c) (k3 : L32 d) (k4 : L32 e) (k5 : L32 f) (k6 : L32 g) (h0 : 1 ≤ j) (h7 : j ≤ 7) (h : ∀ i, j ≤ i → lb7 a b c d e f g i = 0) : v7 a b c d e f g < pw j := by
  have cs : j = 1 ∨ j = 2 ∨ j = 3 ∨ j = 4 ∨ j = 5 ∨ j = 6 ∨ j = 7 := by omega
  rcases cs with rfl | rfl | rfl | rfl | rfl | rfl | rfl
  · have f1 := h 1 (by omega); have f2 := h 2 (by omega); have f3 := h 3 (by omega); have f4 := h 4 (by omega); have f5 := h 5 (by omega); have f6 := h 6 (by omega); simp [lb7] at f1 f2 f3 f4 f5 f6; simp [pw, v7, v6, top]; omega
  · have f2 := h 2 (by omega); have f3 := h 3 (by omega); have f4 := h 4 (by omega); have f5 := h 5 (by omega); have f6 := h 6 (by omega); simp [lb7] at f2 f3 f4 f5 f6; simp [pw, v7, v6, top]; omega
  · have f3 := h 3 (by omega); have f4 := h 4 (by omega); have f5 := h 5 (by omega); have f6 := h 6 (by omega); simp [lb7] at f3 f4 f5 f6; simp [pw, v7, v6, top]; omega
  · have f4 := h 4 (by omega); have f5 := h 5 (by omega); have f6 := h 6 (by omega); simp [lb7] at f4 f5 f6; simp [pw, v7, v6, top]; omega
  · have f5 := h 5 (by omega); have f6 := h 6 (by omega); simp [lb7] at f5 f6; simp [pw, v7, v6, top]; omega
  · have f6 := h 6 (by omega); simp [lb7] at f6; simp [pw, v7, v6, top]; omega
  · simp [pw, v7, v6, top]; omega
theorem v7_pos {a b c d e f g : Int} (k0 : L32 a) (k1 : L32 b) (k2 : L32 c) (k3 : L32 d) (k4 : L32 e) (k5 : L32 f) (k6 : L32 g) : 0 ≤ v7 a b c d e f g := by unfold v7 v6 top; omega
theorem lb7_small {a b c d e f g t j : Int} (k0 : L32 a) (k1 : L32 b) (k2 : L32 c) (k3 : L32 d) (k4 : L32 e) (k5 : L32 f) (k6 : L32 g) (h0 : 0 ≤ t) (h : v7 a b c d e f g < pw t) (hj : t ≤ j) : lb7 a b c d e f g j = 0 := by
  by_cases c6 : j ≤ 6
  · have : v7 a b c d e f g < pw j := by
      have e : pw j = pw t * pw (j - t) := by rw [← pw_add h0 (by omega), show t + (j - t) = j by omega]
      have := Int.mul_le_mul_of_nonneg_left (show 1 ≤ pw (j - t) by have := pw_pos (j - t); omega) (Int.le_of_lt (pw_pos t))
      omega
    rcases seven (by omega) c6 with rfl | rfl | rfl | rfl | rfl | rfl | rfl <;> (simp [pw, v7, v6, top] at this; simp [lb7]; omega)
  · unfold lb7; (repeat' split) <;> first | rfl | omega
theorem take_cell {x p b v : Int} (hx : L32 x) (hp : L32 p) (hb : 0 ≤ b ∧ b ≤ 1) (hv : v = IntKind.wrap .u64 (IntKind.wrap .u64 (x - p) - b)) :
    IntKind.wrap .u32 v = x - p - b + 4294967296 * (v / 9223372036854775808) ∧ L32 (IntKind.wrap .u32 v) ∧ 0 ≤ v / 9223372036854775808 ∧ v / 9223372036854775808 ≤ 1 := by
  rw [wrap_u64, wrap_u64] at hv
  rw [wrap_u32]
  refine ⟨?_, ?_, ?_, ?_⟩ <;> omega

def takeF : List Int → List Int
  | [r0, r1, r2, r3, r4, r5, r6, d0, d1, d2, d3, d4, d5, g, t, n] => lim7 ((v7 r0 r1 r2 r3 r4 r5 r6 - pw t * (g * low d0 d1 d2 d3 d4 d5 n)) % pw (t + n + 1)) ++ [if v7 r0 r1 r2 r3 r4 r5 r6 < pw t * (g * low d0 d1 d2 d3 d4 d5 n) then 1 else 0]
  | _ => []
def takeP : List Int → Prop
  | [r0, r1, r2, r3, r4, r5, r6, d0, d1, d2, d3, d4, d5, g, t, n] => t + n ≤ 6 ∧ v7 r0 r1 r2 r3 r4 r5 r6 < pw (t + n + 1)
  | _ => False
def giveF : List Int → List Int
  | [r0, r1, r2, r3, r4, r5, r6, d0, d1, d2, d3, d4, d5, t, n] => lim7 ((v7 r0 r1 r2 r3 r4 r5 r6 + pw t * low d0 d1 d2 d3 d4 d5 n) % pw (t + n + 1))
  | _ => []
def giveP : List Int → Prop
  | [r0, r1, r2, r3, r4, r5, r6, d0, d1, d2, d3, d4, d5, t, n] => t + n ≤ 6 ∧ v7 r0 r1 r2 r3 r4 r5 r6 < pw (t + n + 1)
  | _ => False
def lzF : List Int → List Int
  | [x] => [32 - bl x]
  | _ => []
def tblV6 : List (Nat × (List Int → List Int)) := [(102, takeF), (103, giveF), (99, lzF)]
def preV6 : List (Nat × (List Int → Prop)) := [(102, fun xs => allHas iv102 xs ∧ takeP xs), (103, fun xs => allHas iv103 xs ∧ giveP xs)]
def tb6 : Tab := ⟨tb5.sig, lookU tblV6 tb5.fn⟩
abbrev pr6 : Nat → List Int → Prop := lookQ preV6 pr5
def tI : Nat → List Int → List Int → Prop := fun _ pre ys => match pre, ys with
  | r0 :: r1 :: r2 :: r3 :: r4 :: r5 :: r6 :: d0 :: d1 :: d2 :: d3 :: d4 :: d5 :: g :: t :: n :: _, [c, b, k, w0, w1, w2, w3, w4, w5, w6] => k ≤ n ∧ v7 w0 w1 w2 w3 w4 w5 w6 = v7 r0 r1 r2 r3 r4 r5 r6 - pw t * (g * low d0 d1 d2 d3 d4 d5 k) + pw (t + k) * (c + b) ∧ ∀ j, t + k ≤ j → lb7 w0 w1 w2 w3 w4 w5 w6 j = lb7 r0 r1 r2 r3 r4 r5 r6 j
  | _, _ => False
def tM : Nat → List Int → List Int → Nat := fun _ _ ys => match ys with
  | _ :: _ :: k :: _ => (6 - k).toNat
  | _ => 0
theorem take_ring {v r T g L P c b y x p dk c' b' Lk V : Int} (h : v = r - T * (g * L) + P * (c + b)) (hP : P = T * Lk) (hV : V = v + P * (y - x)) (hy : y = x - p - b + 4294967296 * b') (hc : g * dk + c = 4294967296 * c' + p) :
    V = r - T * (g * (L + Lk * dk)) + 4294967296 * P * (c' + b') := by
  have e : p = g * dk + c - 4294967296 * c' := by omega
  subst hV h hP hy e
  grind
theorem take_ring2 {v r Z P c b y x b' V : Int} (h : v = r - Z + P * (c + b)) (hV : V = v + P * (y - x)) (hy : y = x - c - b + 4294967296 * b') : V = r - Z + 4294967296 * P * b' := by
  subst hV h hy
  grind

theorem cTake : CT Try.prog tb6.fns (pres pr6) 102 s102 :=
  k102 tb6 tI tM pr6 trivial trivial rfl trivial (fun _ h => h.1) fun r0 r1 r2 r3 r4 r5 r6 d0 d1 d2 d3 d4 d5 g t n hr0 hr1 hr2 hr3 hr4 hr5 hr6 hd0 hd1 hd2 hd3 hd4 hd5 hg ht hn hp => by
    unfold p102
    obtain ⟨p1, p2⟩ : t + n ≤ 6 ∧ v7 r0 r1 r2 r3 r4 r5 r6 < pw (t + n + 1) := hp.2
    rw [show tb6.fn 102 [r0, r1, r2, r3, r4, r5, r6, d0, d1, d2, d3, d4, d5, g, t, n] = lim7 ((v7 r0 r1 r2 r3 r4 r5 r6 - pw t * (g * low d0 d1 d2 d3 d4 d5 n)) % pw (t + n + 1)) ++ [if v7 r0 r1 r2 r3 r4 r5 r6 < pw t * (g * low d0 d1 d2 d3 d4 d5 n) then 1 else 0] from rfl]
    have hup : ∀ j, t + n + 1 ≤ j → lb7 r0 r1 r2 r3 r4 r5 r6 j = 0 := fun j hj => lb7_small hr0 hr1 hr2 hr3 hr4 hr5 hr6 (by omega) p2 hj
    refine ⟨⟨⟨⟨by show (0 : Int) ≤ 0; omega, by show (0 : Int) ≤ 4294967295; omega⟩, ⟨by show (0 : Int) ≤ 0; omega, by show (0 : Int) ≤ 1; omega⟩, ⟨by show (0 : Int) ≤ 0; omega, by show (0 : Int) ≤ 6; omega⟩, hr0, hr1, hr2, hr3, hr4, hr5, hr6, trivial⟩, ⟨hn.1, ?_, fun _ _ => rfl⟩⟩, ?_⟩
    · rw [low_zero]; omega
    rintro c b k w0 w1 w2 w3 w4 w5 w6 ⟨hc, hb, hk, hw0, hw1, hw2, hw3, hw4, hw5, hw6, _⟩ ⟨hkn, hv, hj⟩
    have hc : 0 ≤ c ∧ c ≤ 4294967295 := hc
    have hb : 0 ≤ b ∧ b ≤ 1 := hb
    have hk : 0 ≤ k ∧ k ≤ 6 := hk
    have hx := lb7_bd hw0 hw1 hw2 hw3 hw4 hw5 hw6 (t + k)
    refine ⟨fun hlt => ?_, fun hlt => ?_⟩
    · have hlt := of_decide_eq_true hlt
      refine ⟨decide_eq_true (by omega), fun _ dk hdk p hp c' hc' => ⟨decide_eq_true (by omega), fun _ x hx' v hv' => ⟨decide_eq_true (by omega), fun _ w0' e0 w1' e1 w2' e2 w3' e3 w4' e4 w5' e5 w6' e6 b' hb' => ?_⟩⟩⟩
      rw [sel_lb (by omega) (by omega)] at hdk
      rw [sel_lb7 (by omega) (by omega)] at hx'
      rw [← hx'] at hx
      have hd := lb_bd hd0 hd1 hd2 hd3 hd4 hd5 k
      rw [← hdk] at hd
      have hgd : 0 ≤ g * dk ∧ g * dk ≤ 4294967295 * 4294967295 := ⟨Int.mul_nonneg hg.1 hd.1, Int.mul_le_mul hg.2 hd.2 hd.1 (by omega)⟩
      have T := take_cell hx (by rw [wrap_u32]; omega : L32 (IntKind.wrap .u32 p)) hb hv'
      rw [← hb'] at T
      have Pt := put7 (by omega) (by omega) e0 e1 e2 e3 e4 e5 e6
      rw [← hx'] at Pt
      obtain ⟨o0, o1, o2, o3, o4, o5, o6⟩ := has7 hw0 hw1 hw2 hw3 hw4 hw5 hw6 T.2.1 e0 e1 e2 e3 e4 e5 e6
      refine ⟨⟨⟨by show 0 ≤ c'; omega, by show c' ≤ 4294967295; omega⟩, T.2.2, ⟨by show 0 ≤ k + 1; omega, by show k + 1 ≤ 6; omega⟩, o0, o1, o2, o3, o4, o5, o6, trivial⟩, ⟨by omega, ?_, fun j hj' => ?_⟩, by show (6 - (k + 1)).toNat < (6 - k).toNat; omega⟩
      · rw [low_succ hk.1 (by omega), ← hdk, show t + (k + 1) = t + k + 1 by omega, pw_succ (by omega)]
        exact take_ring hv (pw_add ht.1 hk.1) Pt.1 T.1 (by rw [wrap_u32]; omega)
      · rw [Pt.2 j (by omega)]
        exact hj j (by omega)
    · have hlt := of_decide_eq_false hlt
      have hkn : k = n := by omega
      subst hkn
      refine ⟨decide_eq_true (by omega), fun _ x hx' v hv' => ⟨decide_eq_true (by omega), fun _ w0' e0 w1' e1 w2' e2 w3' e3 w4' e4 w5' e5 w6' e6 b' hb' => ?_⟩⟩
      rw [sel_lb7 (by omega) (by omega)] at hx'
      rw [← hx'] at hx
      have T := take_cell hx hc hb hv'
      have Pt := put7 (by omega) (by omega) e0 e1 e2 e3 e4 e5 e6
      rw [← hx'] at Pt
      obtain ⟨o0, o1, o2, o3, o4, o5, o6⟩ := has7 hw0 hw1 hw2 hw3 hw4 hw5 hw6 T.2.1 e0 e1 e2 e3 e4 e5 e6
      have E := take_ring2 hv Pt.1 T.1
      rw [← pw_succ (by omega)] at E
      have hlt7 := v7_lt o0 o1 o2 o3 o4 o5 o6 (j := t + k + 1) (by omega) (by omega) (fun j hj' => by rw [Pt.2 j (by omega), hj j (by omega), hup j hj'])
      have hpos := v7_pos o0 o1 o2 o3 o4 o5 o6
      generalize v / 9223372036854775808 = q at *
      have hM := pw_pos (t + k + 1)
      have hq : q = 0 ∨ q = 1 := by omega
      rcases hq with rfl | rfl
      · rw [Int.mul_zero, Int.add_zero] at E
        rw [← E, Int.emod_eq_of_lt hpos hlt7, ← lim7_of rfl o0 o1 o2 o3 o4 o5 o6, if_neg (by omega), hb']
        rfl
      · rw [Int.mul_one] at E
        have e : (v7 r0 r1 r2 r3 r4 r5 r6 - pw t * (g * low d0 d1 d2 d3 d4 d5 k)) % pw (t + k + 1) = v7 w0' w1' w2' w3' w4' w5' w6' := by
          rw [← Int.add_emod_right, ← E, Int.emod_eq_of_lt hpos hlt7]
        rw [e, ← lim7_of rfl o0 o1 o2 o3 o4 o5 o6, if_pos (by omega), hb']
        rfl
end Go.Proofs.Ytmlmdicdblgcfaa.Sx

namespace Go.Proofs.Ytmlmdicdblgcfaa.Sx
open Go Go.RowKit

def bI : Nat → List Int → List Int → Prop := fun _ pre ys => match pre, ys with
  | r0 :: r1 :: r2 :: r3 :: r4 :: r5 :: r6 :: d0 :: d1 :: d2 :: d3 :: d4 :: d5 :: t :: n :: _, [c, k, w0, w1, w2, w3, w4, w5, w6] => k ≤ n ∧ v7 w0 w1 w2 w3 w4 w5 w6 = v7 r0 r1 r2 r3 r4 r5 r6 + pw t * low d0 d1 d2 d3 d4 d5 k - pw (t + k) * c ∧ ∀ j, t + k ≤ j → lb7 w0 w1 w2 w3 w4 w5 w6 j = lb7 r0 r1 r2 r3 r4 r5 r6 j
  | _, _ => False
def bM : Nat → List Int → List Int → Nat := fun _ _ ys => match ys with
  | _ :: k :: _ => (6 - k).toNat
  | _ => 0
theorem give_ring {v r T L P c y x dk c' Lk V : Int} (h : v = r + T * L - P * c) (hP : P = T * Lk) (hV : V = v + P * (y - x)) (hy : y = x + dk + c - 4294967296 * c') : V = r + T * (L + Lk * dk) - 4294967296 * P * c' := by
  subst hV h hP hy
  grind
theorem give_ring2 {v r Z P c y x q V : Int} (h : v = r + Z - P * c) (hV : V = v + P * (y - x)) (hy : y = x + c - 4294967296 * q) : r + Z = V + 4294967296 * P * q := by
  subst hV h hy
  grind

theorem cGive : CT Try.prog tb6.fns (pres pr6) 103 s103 :=
  k103 tb6 bI bM pr6 trivial trivial rfl trivial (fun _ h => h.1) fun r0 r1 r2 r3 r4 r5 r6 d0 d1 d2 d3 d4 d5 t n hr0 hr1 hr2 hr3 hr4 hr5 hr6 hd0 hd1 hd2 hd3 hd4 hd5 ht hn hp => by
    unfold p103
    obtain ⟨p1, p2⟩ : t + n ≤ 6 ∧ v7 r0 r1 r2 r3 r4 r5 r6 < pw (t + n + 1) := hp.2
    rw [show tb6.fn 103 [r0, r1, r2, r3, r4, r5, r6, d0, d1, d2, d3, d4, d5, t, n] = lim7 ((v7 r0 r1 r2 r3 r4 r5 r6 + pw t * low d0 d1 d2 d3 d4 d5 n) % pw (t + n + 1)) from rfl]
    have hup : ∀ j, t + n + 1 ≤ j → lb7 r0 r1 r2 r3 r4 r5 r6 j = 0 := fun j hj => lb7_small hr0 hr1 hr2 hr3 hr4 hr5 hr6 (by omega) p2 hj
    refine ⟨⟨⟨⟨by show (0 : Int) ≤ 0; omega, by show (0 : Int) ≤ 1; omega⟩, ⟨by show (0 : Int) ≤ 0; omega, by show (0 : Int) ≤ 6; omega⟩, hr0, hr1, hr2, hr3, hr4, hr5, hr6, trivial⟩, ⟨hn.1, ?_, fun _ _ => rfl⟩⟩, ?_⟩
    · rw [low_zero]; omega
    rintro c k w0 w1 w2 w3 w4 w5 w6 ⟨hc, hk, hw0, hw1, hw2, hw3, hw4, hw5, hw6, _⟩ ⟨hkn, hv, hj⟩
    have hc : 0 ≤ c ∧ c ≤ 1 := hc
    have hk : 0 ≤ k ∧ k ≤ 6 := hk
    have hx := lb7_bd hw0 hw1 hw2 hw3 hw4 hw5 hw6 (t + k)
    refine ⟨fun hlt => ?_, fun hlt => ?_⟩
    · have hlt := of_decide_eq_true hlt
      refine ⟨⟨decide_eq_true (by omega), decide_eq_true (by omega)⟩, fun _ x hx' dk hdk s hs => ⟨decide_eq_true (by omega), fun _ w0' e0 w1' e1 w2' e2 w3' e3 w4' e4 w5' e5 w6' e6 c' hc' => ?_⟩⟩
      rw [← hdk, ← hx'] at hs
      rw [sel_lb (by omega) (by omega)] at hdk
      rw [sel_lb7 (by omega) (by omega)] at hx'
      rw [← hx'] at hx
      have hd := lb_bd hd0 hd1 hd2 hd3 hd4 hd5 k
      rw [← hdk] at hd
      have hL : L32 (IntKind.wrap .u32 s) := by rw [wrap_u32]; omega
      have Pt := put7 (by omega) (by omega) e0 e1 e2 e3 e4 e5 e6
      rw [← hx'] at Pt
      obtain ⟨o0, o1, o2, o3, o4, o5, o6⟩ := has7 hw0 hw1 hw2 hw3 hw4 hw5 hw6 hL e0 e1 e2 e3 e4 e5 e6
      refine ⟨⟨⟨by show 0 ≤ c'; omega, by show c' ≤ 1; omega⟩, ⟨by show 0 ≤ k + 1; omega, by show k + 1 ≤ 6; omega⟩, o0, o1, o2, o3, o4, o5, o6, trivial⟩, ⟨by omega, ?_, fun j hj' => ?_⟩, by show (6 - (k + 1)).toNat < (6 - k).toNat; omega⟩
      · rw [low_succ hk.1 (by omega), ← hdk, show t + (k + 1) = t + k + 1 by omega, pw_succ (by omega)]
        exact give_ring hv (pw_add ht.1 hk.1) Pt.1 (by rw [wrap_u32]; omega)
      · rw [Pt.2 j (by omega)]
        exact hj j (by omega)
    · have hlt := of_decide_eq_false hlt
      have hkn : k = n := by omega
      subst hkn
      refine ⟨decide_eq_true (by omega), fun _ x hx' => ⟨decide_eq_true (by omega), fun _ w0' e0 w1' e1 w2' e2 w3' e3 w4' e4 w5' e5 w6' e6 => ?_⟩⟩
      rw [sel_lb7 (by omega) (by omega)] at hx'
      rw [← hx'] at hx
      have hL : L32 (IntKind.wrap .u32 (x + c)) := by rw [wrap_u32]; omega
      have Pt := put7 (by omega) (by omega) e0 e1 e2 e3 e4 e5 e6
      rw [← hx'] at Pt
      obtain ⟨o0, o1, o2, o3, o4, o5, o6⟩ := has7 hw0 hw1 hw2 hw3 hw4 hw5 hw6 hL e0 e1 e2 e3 e4 e5 e6
      have E := give_ring2 (q := (x + c) / 4294967296) hv Pt.1 (by rw [wrap_u32]; omega)
      rw [← pw_succ (by omega)] at E
      have hlt7 := v7_lt o0 o1 o2 o3 o4 o5 o6 (j := t + k + 1) (by omega) (by omega) (fun j hj' => by rw [Pt.2 j (by omega), hj j (by omega), hup j hj'])
      have hpos := v7_pos o0 o1 o2 o3 o4 o5 o6
      rw [E, Int.add_mul_emod_self_left, Int.emod_eq_of_lt hpos hlt7]
      exact lim7_of rfl o0 o1 o2 o3 o4 o5 o6
end Go.Proofs.Ytmlmdicdblgcfaa.Sx

namespace Go.Proofs.Ytmlmdicdblgcfaa.Sx
open Go Go.RowKit

/-- The guess at a column: the limb of the quotient, or one more. -/
theorem col_guess {R D T P G U3 V2 : Int} (hT : 0 < T) (hP : 0 < P) (hD : 0 < D) (hR : 0 ≤ R) (hU3 : U3 = R / T / P) (hV2 : V2 = D / P) (hb : 4294967294 ≤ V2) (hlt : R < D * (4294967296 * T)) (hG : G = guessV U3 V2) : G = R / T / D ∨ G = R / T / D + 1 := by
  have hRT : 0 ≤ R / T := Int.ediv_nonneg hR (Int.le_of_lt hT)
  have e1 := Int.mul_ediv_add_emod (R / T) P
  have e2 := Int.mul_ediv_add_emod D P
  rw [hG]
  refine guess_near (P := P) (lo := R / T % P) (lv := D % P) hP (by rw [hU3, Int.mul_comm]; exact e1.symm) (Int.emod_nonneg _ (by omega)) (Int.emod_lt_of_pos _ hP) (by rw [hV2, Int.mul_comm]; exact e2.symm) (Int.emod_nonneg _ (by omega)) (Int.emod_lt_of_pos _ hP) (by rw [hU3]; exact Int.ediv_nonneg hRT (Int.le_of_lt hP)) hb ?_
  refine (Int.ediv_lt_iff_lt_mul hT).2 ?_
  rw [Int.mul_assoc]; exact hlt
/-- What is left of the row behind a column. -/
theorem col_rest {R D T G : Int} (hT : 0 < T) (hD : 0 < D) :
    (G = R / T / D → ¬ R < T * (G * D) ∧ R - T * (G * D) = R % (T * D)) ∧ (G = R / T / D + 1 → R < T * (G * D) ∧ R - T * (G * D) + T * D = R % (T * D)) := by
  have hTD := Int.mul_pos hT hD
  have e := Int.mul_ediv_add_emod R (T * D)
  have m0 := Int.emod_nonneg R (b := T * D) (by omega)
  have m1 := Int.emod_lt_of_pos R hTD
  rw [Int.ediv_ediv_of_nonneg (Int.le_of_lt hT)]
  refine ⟨fun h => ?_, fun h => ?_⟩
  · have : T * (G * D) = T * D * (R / (T * D)) := by rw [h]; grind
    omega
  · have : T * (G * D) = T * D * (R / (T * D)) + T * D := by rw [h]; grind
    omega
/-- Three limbs of a row, where no greater ones are. -/
theorem win3 {a b c d e f g j : Int} (k0 : L32 a) (k1 : L32 b) (k2 : L32 c) (k3 : L32 d) (k4 : L32 e) (k5 : L32 f) (k6 : L32 g) (h0 : 0 ≤ j) (h4 : j ≤ 4) (h : v7 a b c d e f g < pw (j + 3)) :
    (lb7 a b c d e f g (j + 2) * 4294967296 + lb7 a b c d e f g (j + 1)) * 4294967296 + lb7 a b c d e f g j = v7 a b c d e f g / pw j := by
  have cs : j = 0 ∨ j = 1 ∨ j = 2 ∨ j = 3 ∨ j = 4 := by omega
  rcases cs with rfl | rfl | rfl | rfl | rfl <;> (simp [pw, v7, v6, top] at h; simp [lb7, pw, v7, v6, top]; omega)
/-- Two limbs of a size, where no greater ones are. -/
theorem win2 {a b c d e f j : Int} (k0 : L32 a) (k1 : L32 b) (k2 : L32 c) (k3 : L32 d) (k4 : L32 e) (k5 : L32 f) (h0 : 0 ≤ j) (h4 : j ≤ 4) (h : v6 a b c d e f < pw (j + 2)) :
    lb a b c d e f (j + 1) * 4294967296 + lb a b c d e f j = v6 a b c d e f / pw j := by
  have cs : j = 0 ∨ j = 1 ∨ j = 2 ∨ j = 3 ∨ j = 4 := by omega
  rcases cs with rfl | rfl | rfl | rfl | rfl <;> (simp [pw, v6] at h; simp [lb, pw, v6]; omega)
/-- The quotient and the rest grow by a column. -/
theorem col_inv {X Q R D T Q' R' q : Int} (h : X = Q * D + R) (hq : Q' = Q + T * q) (hr : R' = R - T * (q * D)) : X = Q' * D + R' := by
  subst hq hr h
  grind
end Go.Proofs.Ytmlmdicdblgcfaa.Sx

namespace Go.Proofs.Ytmlmdicdblgcfaa.Sx
open Go Go.RowKit

theorem cLz : CT Try.prog tb6.fns (pres pr6) 99 s99 :=
  k99 tb6 noI noM pr6 ⟨rfl, trivial⟩ ⟨fun _ _ => trivial, trivial⟩ rfl ⟨cLen.move rfl rfl (fun _ h => h), trivial⟩ fun x hx _ => by
    unfold p99
    intro v hv w hw
    have hv := outT (T := tb6) (g := 88) rfl rfl (F := lenF) rfl hv (len_has hx)
    simp only [lenF, List.cons.injEq, and_true] at hv
    rw [hw, hv]
    rfl

/-- A divisor, shifted so that its first bit is set. -/
theorem norm_div {a b c d e f n x k : Int} (ha : L32 a) (hb : L32 b) (hc : L32 c) (hd : L32 d) (he : L32 e) (hf : L32 f) (hn : n = used6 a b c d e f) (h1 : 1 ≤ n) (hx : x = lb a b c d e f (n - 1)) (hx0 : 1 ≤ x) (hk : k = 32 - bl x) :
    0 ≤ k ∧ k ≤ 31 ∧ v6 a b c d e f * 2 ^ k.toNat < pw n ∧ 2147483648 * pw (n - 1) ≤ v6 a b c d e f * 2 ^ k.toNat := by
  have A := low_all hn
  have hxL := lb_bd ha hb hc hd he hf (n - 1)
  rw [← hx] at hxL
  have hl := low_lt ha hb hc hd he hf (i := n - 1) (by omega) (by omega)
  have hs := low_succ (a := a) (b := b) (c := c) (d := d) (e := e) (f := f) (i := n - 1) (by omega) (by omega)
  rw [show n - 1 + 1 = n by omega, A.1, ← hx] at hs
  have hB := bl_bd hxL.1 hxL.2
  have u1 := (bl_spec hxL.1 hxL.2 (bl x).toNat).2 (by omega)
  have hb1 : 1 ≤ bl x := by
    rcases Int.lt_or_le (bl x) 1 with c | c
    · have e0 : (bl x).toNat = 0 := by omega
      rw [e0] at u1
      simp at u1
      omega
    · exact c
  have l1 : 2 ^ (bl x).toNat ≤ 2 * x := by
    rcases Int.lt_or_le x (2 ^ ((bl x).toNat - 1)) with c | c
    · have := (bl_spec hxL.1 hxL.2 ((bl x).toNat - 1)).1 c
      omega
    · have e : (2 : Int) ^ (bl x).toNat = 2 ^ ((bl x).toNat - 1) * 2 := by rw [← Int.pow_succ, show ((bl x).toNat - 1).succ = (bl x).toNat by omega]
      omega
  have hPQ : (2 : Int) ^ (bl x).toNat * 2 ^ k.toNat = 4294967296 := by rw [← Int.pow_add, show (bl x).toNat + k.toNat = 32 by omega]; rfl
  have hKp := pow_pos' k.toNat
  have hT := pw_pos (n - 1)
  have hpn : pw n = 4294967296 * pw (n - 1) := by rw [← pw_succ (by omega), show n - 1 + 1 = n by omega]
  have b1 : (x + 1) * 2 ^ k.toNat ≤ 4294967296 := by rw [← hPQ]; exact Int.mul_le_mul_of_nonneg_right (by omega) (Int.le_of_lt hKp)
  have b2 : 4294967296 ≤ 2 * x * 2 ^ k.toNat := by rw [← hPQ]; exact Int.mul_le_mul_of_nonneg_right l1 (Int.le_of_lt hKp)
  refine ⟨by omega, by omega, ?_, ?_⟩
  · have c1 : v6 a b c d e f * 2 ^ k.toNat < pw (n - 1) * (x + 1) * 2 ^ k.toNat := Int.mul_lt_mul_of_pos_right (by rw [Int.mul_add, Int.mul_one]; omega) hKp
    have c2 : pw (n - 1) * ((x + 1) * 2 ^ k.toNat) ≤ pw (n - 1) * 4294967296 := Int.mul_le_mul_of_nonneg_left b1 (Int.le_of_lt hT)
    rw [Int.mul_assoc] at c1
    omega
  · have c1 : pw (n - 1) * x * 2 ^ k.toNat ≤ v6 a b c d e f * 2 ^ k.toNat := Int.mul_le_mul_of_nonneg_right (by omega) (Int.le_of_lt hKp)
    have c2 : pw (n - 1) * 4294967296 ≤ pw (n - 1) * (2 * x * 2 ^ k.toNat) := Int.mul_le_mul_of_nonneg_left b2 (Int.le_of_lt hT)
    have c3 : pw (n - 1) * (2 * x * 2 ^ k.toNat) = 2 * (pw (n - 1) * x * 2 ^ k.toNat) := by grind
    omega
end Go.Proofs.Ytmlmdicdblgcfaa.Sx

namespace Go.Proofs.Ytmlmdicdblgcfaa.Sx
open Go Go.RowKit

theorem win1 {a b c d e f g j : Int} (k0 : L32 a) (k1 : L32 b) (k2 : L32 c) (k3 : L32 d) (k4 : L32 e) (k5 : L32 f) (k6 : L32 g) (h0 : 0 ≤ j) (h6 : j ≤ 6) (h : v7 a b c d e f g < pw (j + 1)) : lb7 a b c d e f g j = v7 a b c d e f g / pw j := by
  rcases seven h0 h6 with rfl | rfl | rfl | rfl | rfl | rfl | rfl <;> (simp [pw, v7, v6, top] at h; simp [lb7, pw, v7, v6, top]; omega)
theorem win1' {a b c d e f j : Int} (k0 : L32 a) (k1 : L32 b) (k2 : L32 c) (k3 : L32 d) (k4 : L32 e) (k5 : L32 f) (h0 : 0 ≤ j) (h5 : j ≤ 5) (h : v6 a b c d e f < pw (j + 1)) : lb a b c d e f j = v6 a b c d e f / pw j := by
  rcases six h0 h5 with rfl | rfl | rfl | rfl | rfl | rfl <;> (simp [pw, v6] at h; simp [lb, pw, v6]; omega)
theorem col_ok {r0 r1 r2 r3 r4 r5 r6 d0 d1 d2 d3 d4 d5 t n : Int} (hr0 : L32 r0) (hr1 : L32 r1) (hr2 : L32 r2) (hr3 : L32 r3) (hr4 : L32 r4) (hr5 : L32 r5) (hr6 : L32 r6) (hd0 : L32 d0) (hd1 : L32 d1) (hd2 : L32 d2) (hd3 : L32 d3) (hd4 : L32 d4) (hd5 : L32 d5) (hn : 2 ≤ n) (ht : 0 ≤ t) (htn : t + n ≤ 6) (hD1 : v6 d0 d1 d2 d3 d4 d5 < pw n) (hD2 : 2147483648 * pw (n - 1) ≤ v6 d0 d1 d2 d3 d4 d5) (hR : v7 r0 r1 r2 r3 r4 r5 r6 < v6 d0 d1 d2 d3 d4 d5 * (4294967296 * pw t)) :
    guessP [r0, r1, r2, r3, r4, r5, r6, d0, d1, d2, d3, d4, d5, t, n] ∧ v7 r0 r1 r2 r3 r4 r5 r6 < pw (t + n + 1) ∧ ∀ G, [G] = guessF [r0, r1, r2, r3, r4, r5, r6, d0, d1, d2, d3, d4, d5, t, n] → G = v7 r0 r1 r2 r3 r4 r5 r6 / pw t / v6 d0 d1 d2 d3 d4 d5 ∨ G = v7 r0 r1 r2 r3 r4 r5 r6 / pw t / v6 d0 d1 d2 d3 d4 d5 + 1 := by
  have hT := pw_pos t
  have hN1 := pw_pos (n - 1)
  have hN2 := pw_pos (n - 2)
  have hR0 := v7_pos hr0 hr1 hr2 hr3 hr4 hr5 hr6
  have hDp : 0 < v6 d0 d1 d2 d3 d4 d5 := by omega
  have hRn : v7 r0 r1 r2 r3 r4 r5 r6 < pw (t + n + 1) := by
    have e : pw (t + n + 1) = pw n * (4294967296 * pw t) := by rw [← pw_succ ht, ← pw_add (by omega) (by omega), show n + (t + 1) = t + n + 1 by omega]
    have := Int.mul_le_mul_of_nonneg_right (Int.le_of_lt hD1) (show 0 ≤ 4294967296 * pw t by omega)
    omega
  have a1 := win1' hd0 hd1 hd2 hd3 hd4 hd5 (j := n - 1) (by omega) (by omega) (by rw [show n - 1 + 1 = n by omega]; exact hD1)
  have a2 := win2 hd0 hd1 hd2 hd3 hd4 hd5 (j := n - 2) (by omega) (by omega) (by rw [show n - 2 + 2 = n by omega]; exact hD1)
  rw [show n - 2 + 1 = n - 1 by omega] at a2
  have b1 := win1 hr0 hr1 hr2 hr3 hr4 hr5 hr6 (j := t + n) (by omega) htn hRn
  have b3 := win3 hr0 hr1 hr2 hr3 hr4 hr5 hr6 (j := t + n - 2) (by omega) (by omega) (by rw [show t + n - 2 + 3 = t + n + 1 by omega]; exact hRn)
  rw [show t + n - 2 + 2 = t + n by omega, show t + n - 2 + 1 = t + n - 1 by omega] at b3
  have f1 : 2147483648 ≤ lb d0 d1 d2 d3 d4 d5 (n - 1) := by rw [a1]; exact (Int.le_ediv_iff_mul_le hN1).2 hD2
  have f2 : lb7 r0 r1 r2 r3 r4 r5 r6 (t + n) ≤ lb d0 d1 d2 d3 d4 d5 (n - 1) := by
    rw [a1, b1, show t + n = (t + 1) + (n - 1) by omega, pw_add (by omega) (by omega), ← Int.ediv_ediv_of_nonneg (Int.le_of_lt (pw_pos _))]
    refine Int.ediv_le_ediv hN1 (Int.le_of_lt ?_)
    rw [pw_succ ht]
    exact (Int.ediv_lt_iff_lt_mul (by omega)).2 hR
  refine ⟨⟨hn, htn, f1, f2⟩, hRn, fun G hG => ?_⟩
  simp only [guessF, List.cons.injEq, and_true] at hG
  have hS := lb_bd hd0 hd1 hd2 hd3 hd4 hd5 (n - 2)
  refine col_guess (P := pw (n - 2)) hT hN2 hDp hR0 ?_ a2 (by omega) hR hG
  rw [b3, show t + n - 2 = t + (n - 2) by omega, pw_add ht (by omega), Int.ediv_ediv_of_nonneg (Int.le_of_lt hT)]
end Go.Proofs.Ytmlmdicdblgcfaa.Sx

namespace Go.Proofs.Ytmlmdicdblgcfaa.Sx
open Go Go.RowKit

theorem out7 {x a b c d e f g : Int} (h0 : 0 ≤ x) (h1 : x < pw 7) (h : [a, b, c, d, e, f, g] = lim7 x) : v7 a b c d e f g = x ∧ L32 a ∧ L32 b ∧ L32 c ∧ L32 d ∧ L32 e ∧ L32 f ∧ L32 g := by
  simp only [lim7, lim6, List.cons_append, List.nil_append, List.cons.injEq, and_true] at h
  obtain ⟨rfl, rfl, rfl, rfl, rfl, rfl, rfl⟩ := h
  simp [pw] at h1
  refine ⟨?_, ?_, ?_, ?_, ?_, ?_, ?_, ?_⟩
  · unfold v7 v6 top; omega
  all_goals omega
theorem column {r0 r1 r2 r3 r4 r5 r6 d0 d1 d2 d3 d4 d5 w0 w1 w2 w3 w4 w5 w6 t n G b : Int} (hr0 : L32 r0) (hr1 : L32 r1) (hr2 : L32 r2) (hr3 : L32 r3) (hr4 : L32 r4) (hr5 : L32 r5) (hr6 : L32 r6) (hd0 : L32 d0) (hd1 : L32 d1) (hd2 : L32 d2) (hd3 : L32 d3) (hd4 : L32 d4) (hd5 : L32 d5) (hn : 2 ≤ n) (ht : 0 ≤ t) (htn : t + n ≤ 6) (hD1 : v6 d0 d1 d2 d3 d4 d5 < pw n) (hD2 : 2147483648 * pw (n - 1) ≤ v6 d0 d1 d2 d3 d4 d5) (hlow : low d0 d1 d2 d3 d4 d5 n = v6 d0 d1 d2 d3 d4 d5) (hR : v7 r0 r1 r2 r3 r4 r5 r6 < v6 d0 d1 d2 d3 d4 d5 * (4294967296 * pw t))
    (hG : [G] = guessF [r0, r1, r2, r3, r4, r5, r6, d0, d1, d2, d3, d4, d5, t, n]) (hw : [w0, w1, w2, w3, w4, w5, w6, b] = takeF [r0, r1, r2, r3, r4, r5, r6, d0, d1, d2, d3, d4, d5, G, t, n]) :
    (L32 w0 ∧ L32 w1 ∧ L32 w2 ∧ L32 w3 ∧ L32 w4 ∧ L32 w5 ∧ L32 w6) ∧ v7 w0 w1 w2 w3 w4 w5 w6 < pw (t + n + 1) ∧ (b ≠ 1 → v7 w0 w1 w2 w3 w4 w5 w6 = v7 r0 r1 r2 r3 r4 r5 r6 % (pw t * v6 d0 d1 d2 d3 d4 d5) ∧ G = v7 r0 r1 r2 r3 r4 r5 r6 / pw t / v6 d0 d1 d2 d3 d4 d5) ∧
    (b = 1 → G - 1 = v7 r0 r1 r2 r3 r4 r5 r6 / pw t / v6 d0 d1 d2 d3 d4 d5 ∧ ∀ u0 u1 u2 u3 u4 u5 u6 : Int, [u0, u1, u2, u3, u4, u5, u6] = giveF [w0, w1, w2, w3, w4, w5, w6, d0, d1, d2, d3, d4, d5, t, n] → (L32 u0 ∧ L32 u1 ∧ L32 u2 ∧ L32 u3 ∧ L32 u4 ∧ L32 u5 ∧ L32 u6) ∧ v7 u0 u1 u2 u3 u4 u5 u6 = v7 r0 r1 r2 r3 r4 r5 r6 % (pw t * v6 d0 d1 d2 d3 d4 d5)) := by
  obtain ⟨_, hRn, hGq⟩ := col_ok hr0 hr1 hr2 hr3 hr4 hr5 hr6 hd0 hd1 hd2 hd3 hd4 hd5 hn ht htn hD1 hD2 hR
  have hGq := hGq G hG
  have hT := pw_pos t
  have hN1 := pw_pos (n - 1)
  have hDp : 0 < v6 d0 d1 d2 d3 d4 d5 := by omega
  have hTD := Int.mul_pos hT hDp
  have hTDM : pw t * v6 d0 d1 d2 d3 d4 d5 < pw (t + n + 1) := by
    have e : pw (t + n + 1) = 4294967296 * (pw t * pw n) := by rw [pw_succ (by omega), pw_add ht (by omega)]
    have := Int.mul_lt_mul_of_pos_left hD1 hT
    have := Int.mul_pos hT (pw_pos n)
    omega
  have hM7 : pw (t + n + 1) ≤ pw 7 := by
    have e : pw 7 = pw (t + n + 1) * pw (6 - t - n) := by rw [← pw_add (by omega) (by omega), show t + n + 1 + (6 - t - n) = 7 by omega]
    have := Int.mul_le_mul_of_nonneg_left (show 1 ≤ pw (6 - t - n) by have := pw_pos (6 - t - n); omega) (Int.le_of_lt (pw_pos (t + n + 1)))
    omega
  have hM := pw_pos (t + n + 1)
  simp only [takeF] at hw
  rw [hlow] at hw
  have hx0 := Int.emod_nonneg (v7 r0 r1 r2 r3 r4 r5 r6 - pw t * (G * v6 d0 d1 d2 d3 d4 d5)) (b := pw (t + n + 1)) (by omega)
  have hx1 := Int.emod_lt_of_pos (v7 r0 r1 r2 r3 r4 r5 r6 - pw t * (G * v6 d0 d1 d2 d3 d4 d5)) hM
  have hw' : [w0, w1, w2, w3, w4, w5, w6] = lim7 ((v7 r0 r1 r2 r3 r4 r5 r6 - pw t * (G * v6 d0 d1 d2 d3 d4 d5)) % pw (t + n + 1)) ∧ b = if v7 r0 r1 r2 r3 r4 r5 r6 < pw t * (G * v6 d0 d1 d2 d3 d4 d5) then 1 else 0 := by
    simp only [lim7, lim6, List.cons_append, List.nil_append, List.cons.injEq, and_true] at hw ⊢
    exact ⟨⟨hw.1, hw.2.1, hw.2.2.1, hw.2.2.2.1, hw.2.2.2.2.1, hw.2.2.2.2.2.1, hw.2.2.2.2.2.2.1⟩, hw.2.2.2.2.2.2.2⟩
  obtain ⟨ev, hL⟩ := out7 hx0 (by omega) hw'.1
  have hb := hw'.2
  have m0 := Int.emod_nonneg (v7 r0 r1 r2 r3 r4 r5 r6) (b := pw t * v6 d0 d1 d2 d3 d4 d5) (by omega)
  have m1 := Int.emod_lt_of_pos (v7 r0 r1 r2 r3 r4 r5 r6) hTD
  have rest := col_rest (R := v7 r0 r1 r2 r3 r4 r5 r6) (G := G) hT hDp
  refine ⟨hL, by rw [ev]; exact hx1, fun h => ?_, fun h => ?_⟩
  · rcases hGq with q | q
    · have r := rest.1 q
      refine ⟨?_, q⟩
      rw [ev, r.2, Int.emod_eq_of_lt m0 (by omega)]
    · have r := rest.2 q
      rw [if_pos r.1] at hb
      exact absurd hb h
  · rcases hGq with q | q
    · have r := rest.1 q
      rw [if_neg r.1] at hb
      omega
    · have r := rest.2 q
      refine ⟨by omega, fun u0 u1 u2 u3 u4 u5 u6 hu => ?_⟩
      simp only [giveF] at hu
      rw [hlow, ev, Int.emod_add_emod, r.2, Int.emod_eq_of_lt m0 (by omega)] at hu
      have o := out7 m0 (by omega) hu
      exact ⟨o.2, o.1⟩
end Go.Proofs.Ytmlmdicdblgcfaa.Sx

namespace Go.Proofs.Ytmlmdicdblgcfaa.Sx
open Go Go.RowKit

theorem lb_mod {a b c d e f j : Int} (k0 : L32 a) (k1 : L32 b) (k2 : L32 c) (k3 : L32 d) (k4 : L32 e) (k5 : L32 f) (h0 : 0 ≤ j) (h5 : j ≤ 5) : lb a b c d e f j = v6 a b c d e f / pw j % 4294967296 := by
  rcases six h0 h5 with rfl | rfl | rfl | rfl | rfl | rfl <;> (simp [lb, pw, v6]; omega)
/-- A limb below the least that is set. -/
theorem lb_mult {a b c d e f j m : Int} (k0 : L32 a) (k1 : L32 b) (k2 : L32 c) (k3 : L32 d) (k4 : L32 e) (k5 : L32 f) (h0 : 0 ≤ j) (h5 : j ≤ 5) (h : v6 a b c d e f = pw (j + 1) * m) : lb a b c d e f j = 0 := by
  rw [lb_mod k0 k1 k2 k3 k4 k5 h0 h5, h, pw_succ h0]
  have e : 4294967296 * pw j * m = pw j * (4294967296 * m) := by grind
  have hp := pw_pos j
  rw [e, Int.mul_ediv_cancel_left _ (by omega)]
  omega
/-- The quotient and the rest, a column further. -/
theorem col_next {X D T Q R : Int} (hT : 0 < T) (hD : 0 < D) (hQ : Q = 4294967296 * T * (X / (4294967296 * T * D))) (hR : R = X % (4294967296 * T * D)) :
    Q + T * (R / T / D) = T * (X / (T * D)) ∧ R % (T * D) = X % (T * D) := by
  have hM := Int.mul_pos hT hD
  have e : 4294967296 * T * D = T * D * 4294967296 := by grind
  rw [e] at hQ hR
  have e1 := Int.mul_ediv_add_emod X (T * D * 4294967296)
  have e2 : X = R + T * D * (4294967296 * (X / (T * D * 4294967296))) := by rw [hR, ← Int.mul_assoc]; omega
  refine ⟨?_, ?_⟩
  · have e3 : X / (T * D) = R / (T * D) + 4294967296 * (X / (T * D * 4294967296)) := by
      conv => lhs; rw [e2]
      rw [Int.add_mul_ediv_left _ _ (by omega : T * D ≠ 0)]
    rw [hQ, Int.ediv_ediv_of_nonneg (Int.le_of_lt hT), e3]
    grind
  · conv => rhs; rw [e2]
    rw [Int.add_mul_emod_self_left]
/-- The first column: nothing goes over. -/
theorem col_zero {X D P n by_ : Int} (hX : X < pw 6) (hX0 : 0 ≤ X) (hP0 : 0 < P) (hP : P ≤ 2147483648) (hn : 1 ≤ n) (hn6 : n ≤ 6) (hD : 2147483648 * pw (n - 1) ≤ D) : X * P < D * (4294967296 * pw (6 - n)) := by
  have e : pw 6 = pw (n - 1) * (4294967296 * pw (6 - n)) := by rw [← pw_succ (by omega), ← pw_add (by omega) (by omega), show n - 1 + (6 - n + 1) = 6 by omega]
  have h1 : X * P ≤ X * 2147483648 := Int.mul_le_mul_of_nonneg_left hP hX0
  have hp := pw_pos (6 - n)
  have h2 : 2147483648 * pw (n - 1) * (4294967296 * pw (6 - n)) ≤ D * (4294967296 * pw (6 - n)) := Int.mul_le_mul_of_nonneg_right hD (by omega)
  have h3 : 2147483648 * pw (n - 1) * (4294967296 * pw (6 - n)) = 2147483648 * pw 6 := by rw [e, Int.mul_assoc]
  omega
/-- At the end: the shift goes out again. -/
theorem col_end {X Y P : Int} (hP : 0 < P) : X * P / (Y * P) = X / Y ∧ X * P % (Y * P) / P = X % Y := by
  refine ⟨Int.mul_ediv_mul_of_pos_left X Y hP, ?_⟩
  rw [Int.mul_comm X P, Int.mul_comm Y P, Int.mul_emod_mul_of_pos X Y hP, Int.mul_ediv_cancel_left _ (by omega)]
theorem low_of_lt {a b c d e f n : Int} (k0 : L32 a) (k1 : L32 b) (k2 : L32 c) (k3 : L32 d) (k4 : L32 e) (k5 : L32 f) (h0 : 1 ≤ n) (h6 : n ≤ 6) (h : v6 a b c d e f < pw n) : low a b c d e f n = v6 a b c d e f := by
  have cs : n = 1 ∨ n = 2 ∨ n = 3 ∨ n = 4 ∨ n = 5 ∨ n = 6 := by omega
  rcases cs with rfl | rfl | rfl | rfl | rfl | rfl <;> (simp [pw, v6] at h; simp [low, v6]; try omega)
end Go.Proofs.Ytmlmdicdblgcfaa.Sx
