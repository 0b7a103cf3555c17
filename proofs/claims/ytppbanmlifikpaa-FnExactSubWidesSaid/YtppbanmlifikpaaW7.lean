/-
  What sums and differences of sizes are, in the program and in its model.
-/
import Derived.Test.YtppbanmlifikpaaW4
import Derived.Test.YtppbanmlifikpaaW5
namespace Go.Proofs.Ytppbanmlifikpaa.Sx
open Go Go.RowKit Go.WideShapes Go.ChangeShapes

theorem asks_bind {Φ : Fns} {Pr : Pres} {post : List Int → Prop} {e : E} {t : VC} {l : List Int} (h : ∀ y, y = e.den Φ ⟨l, []⟩ → t.asks Φ Pr post ⟨l ++ [y], []⟩) : (VC.bind e t).asks Φ Pr post ⟨l, []⟩ := h

theorem ctPlus : CT Try.prog tab1.fns free 60 s60 := tab1.cta v60 Try.checked.mixed trivial rfl trivial Try.func60 fun xs hx => by
  obtain ⟨ys, zs, rfl, hy, hz⟩ := lenAdd 6 6 (allHas_length hx).symm
  obtain ⟨a, b, c, d, e, f, rfl⟩ := len6 hy
  obtain ⟨a', b', c', d', e', f', rfl⟩ := len6 hz
  clear hy hz
  clear hx
  show VC.asks tab1.fns free (fun ys => ys = plusF [a, b, c, d, e, f, a', b', c', d', e', f']) t60 ⟨[a, b, c, d, e, f, a', b', c', d', e', f'], []⟩
  unfold t60
  refine asks_bind fun v12 e12 => ?_
  change VC.asks _ _ _ _ ⟨[a, b, c, d, e, f, a', b', c', d', e', f', v12], []⟩
  replace e12 : v12 = a + a' := e12
  refine asks_bind fun v13 e13 => ?_
  change VC.asks _ _ _ _ ⟨[a, b, c, d, e, f, a', b', c', d', e', f', v12, v13], []⟩
  replace e13 : v13 = IntKind.wrap .u32 v12 := e13
  rw [wrapU32] at e13
  refine asks_bind fun v14 e14 => ?_
  change VC.asks _ _ _ _ ⟨[a, b, c, d, e, f, a', b', c', d', e', f', v12, v13, v14], []⟩
  replace e14 : v14 = v12 / 4294967296 := e14
  refine asks_bind fun v15 e15 => ?_
  change VC.asks _ _ _ _ ⟨[a, b, c, d, e, f, a', b', c', d', e', f', v12, v13, v14, v15], []⟩
  replace e15 : v15 = b + b' + v14 := e15
  refine asks_bind fun v16 e16 => ?_
  change VC.asks _ _ _ _ ⟨[a, b, c, d, e, f, a', b', c', d', e', f', v12, v13, v14, v15, v16], []⟩
  replace e16 : v16 = IntKind.wrap .u32 v15 := e16
  rw [wrapU32] at e16
  refine asks_bind fun v17 e17 => ?_
  change VC.asks _ _ _ _ ⟨[a, b, c, d, e, f, a', b', c', d', e', f', v12, v13, v14, v15, v16, v17], []⟩
  replace e17 : v17 = v15 / 4294967296 := e17
  refine asks_bind fun v18 e18 => ?_
  change VC.asks _ _ _ _ ⟨[a, b, c, d, e, f, a', b', c', d', e', f', v12, v13, v14, v15, v16, v17, v18], []⟩
  replace e18 : v18 = c + c' + v17 := e18
  refine asks_bind fun v19 e19 => ?_
  change VC.asks _ _ _ _ ⟨[a, b, c, d, e, f, a', b', c', d', e', f', v12, v13, v14, v15, v16, v17, v18, v19], []⟩
  replace e19 : v19 = IntKind.wrap .u32 v18 := e19
  rw [wrapU32] at e19
  refine asks_bind fun v20 e20 => ?_
  change VC.asks _ _ _ _ ⟨[a, b, c, d, e, f, a', b', c', d', e', f', v12, v13, v14, v15, v16, v17, v18, v19, v20], []⟩
  replace e20 : v20 = v18 / 4294967296 := e20
  refine asks_bind fun v21 e21 => ?_
  change VC.asks _ _ _ _ ⟨[a, b, c, d, e, f, a', b', c', d', e', f', v12, v13, v14, v15, v16, v17, v18, v19, v20, v21], []⟩
  replace e21 : v21 = d + d' + v20 := e21
  refine asks_bind fun v22 e22 => ?_
  change VC.asks _ _ _ _ ⟨[a, b, c, d, e, f, a', b', c', d', e', f', v12, v13, v14, v15, v16, v17, v18, v19, v20, v21, v22], []⟩
  replace e22 : v22 = IntKind.wrap .u32 v21 := e22
  rw [wrapU32] at e22
  refine asks_bind fun v23 e23 => ?_
  change VC.asks _ _ _ _ ⟨[a, b, c, d, e, f, a', b', c', d', e', f', v12, v13, v14, v15, v16, v17, v18, v19, v20, v21, v22, v23], []⟩
  replace e23 : v23 = v21 / 4294967296 := e23
  refine asks_bind fun v24 e24 => ?_
  change VC.asks _ _ _ _ ⟨[a, b, c, d, e, f, a', b', c', d', e', f', v12, v13, v14, v15, v16, v17, v18, v19, v20, v21, v22, v23, v24], []⟩
  replace e24 : v24 = e + e' + v23 := e24
  refine asks_bind fun v25 e25 => ?_
  change VC.asks _ _ _ _ ⟨[a, b, c, d, e, f, a', b', c', d', e', f', v12, v13, v14, v15, v16, v17, v18, v19, v20, v21, v22, v23, v24, v25], []⟩
  replace e25 : v25 = IntKind.wrap .u32 v24 := e25
  rw [wrapU32] at e25
  refine asks_bind fun v26 e26 => ?_
  change VC.asks _ _ _ _ ⟨[a, b, c, d, e, f, a', b', c', d', e', f', v12, v13, v14, v15, v16, v17, v18, v19, v20, v21, v22, v23, v24, v25, v26], []⟩
  replace e26 : v26 = v24 / 4294967296 := e26
  refine asks_bind fun v27 e27 => ?_
  change VC.asks _ _ _ _ ⟨[a, b, c, d, e, f, a', b', c', d', e', f', v12, v13, v14, v15, v16, v17, v18, v19, v20, v21, v22, v23, v24, v25, v26, v27], []⟩
  replace e27 : v27 = f + f' + v26 := e27
  refine asks_bind fun v28 e28 => ?_
  change VC.asks _ _ _ _ ⟨[a, b, c, d, e, f, a', b', c', d', e', f', v12, v13, v14, v15, v16, v17, v18, v19, v20, v21, v22, v23, v24, v25, v26, v27, v28], []⟩
  replace e28 : v28 = IntKind.wrap .u32 v27 := e28
  rw [wrapU32] at e28
  refine asks_bind fun v29 e29 => ?_
  change VC.asks _ _ _ _ ⟨[a, b, c, d, e, f, a', b', c', d', e', f', v12, v13, v14, v15, v16, v17, v18, v19, v20, v21, v22, v23, v24, v25, v26, v27, v28, v29], []⟩
  replace e29 : v29 = v27 / 4294967296 := e29
  show [v13, v16, v19, v22, v25, v28, if (!decide (v29 = 0)) = true then 1 else 0] = plusF [a, b, c, d, e, f, a', b', c', d', e', f']
  subst e12 e13 e14 e15 e16 e17 e18 e19 e20 e21 e22 e23 e24 e25 e26 e27 e28 e29
  simp only [plusF]
  refine congrArg (plus6 a b c d e f a' b' c' d' e' f' ++ [·]) ?_
  show (if (!decide (over6 a b c d e f a' b' c' d' e' f' = 0)) = true then 1 else 0 : Int) = _
  by_cases h : over6 a b c d e f a' b' c' d' e' f' = 0 <;> simp [h]

theorem ctPlus' : CT Try.prog tab1.fns free 94 s94 := tab1.cta v94 Try.checked.mixed trivial rfl trivial Try.func94 fun xs hx => by
  obtain ⟨ys, zs, rfl, hy, hz⟩ := lenAdd 6 6 (allHas_length hx).symm
  obtain ⟨a, b, c, d, e, f, rfl⟩ := len6 hy
  obtain ⟨a', b', c', d', e', f', rfl⟩ := len6 hz
  clear hy hz
  clear hx
  show VC.asks tab1.fns free (fun ys => ys = plusF' [a, b, c, d, e, f, a', b', c', d', e', f']) t94 ⟨[a, b, c, d, e, f, a', b', c', d', e', f'], []⟩
  unfold t94
  refine asks_bind fun v12 e12 => ?_
  change VC.asks _ _ _ _ ⟨[a, b, c, d, e, f, a', b', c', d', e', f', v12], []⟩
  replace e12 : v12 = a + a' := e12
  refine asks_bind fun v13 e13 => ?_
  change VC.asks _ _ _ _ ⟨[a, b, c, d, e, f, a', b', c', d', e', f', v12, v13], []⟩
  replace e13 : v13 = IntKind.wrap .u32 v12 := e13
  rw [wrapU32] at e13
  refine asks_bind fun v14 e14 => ?_
  change VC.asks _ _ _ _ ⟨[a, b, c, d, e, f, a', b', c', d', e', f', v12, v13, v14], []⟩
  replace e14 : v14 = v12 / 4294967296 := e14
  refine asks_bind fun v15 e15 => ?_
  change VC.asks _ _ _ _ ⟨[a, b, c, d, e, f, a', b', c', d', e', f', v12, v13, v14, v15], []⟩
  replace e15 : v15 = b + b' + v14 := e15
  refine asks_bind fun v16 e16 => ?_
  change VC.asks _ _ _ _ ⟨[a, b, c, d, e, f, a', b', c', d', e', f', v12, v13, v14, v15, v16], []⟩
  replace e16 : v16 = IntKind.wrap .u32 v15 := e16
  rw [wrapU32] at e16
  refine asks_bind fun v17 e17 => ?_
  change VC.asks _ _ _ _ ⟨[a, b, c, d, e, f, a', b', c', d', e', f', v12, v13, v14, v15, v16, v17], []⟩
  replace e17 : v17 = v15 / 4294967296 := e17
  refine asks_bind fun v18 e18 => ?_
  change VC.asks _ _ _ _ ⟨[a, b, c, d, e, f, a', b', c', d', e', f', v12, v13, v14, v15, v16, v17, v18], []⟩
  replace e18 : v18 = c + c' + v17 := e18
  refine asks_bind fun v19 e19 => ?_
  change VC.asks _ _ _ _ ⟨[a, b, c, d, e, f, a', b', c', d', e', f', v12, v13, v14, v15, v16, v17, v18, v19], []⟩
  replace e19 : v19 = IntKind.wrap .u32 v18 := e19
  rw [wrapU32] at e19
  refine asks_bind fun v20 e20 => ?_
  change VC.asks _ _ _ _ ⟨[a, b, c, d, e, f, a', b', c', d', e', f', v12, v13, v14, v15, v16, v17, v18, v19, v20], []⟩
  replace e20 : v20 = v18 / 4294967296 := e20
  refine asks_bind fun v21 e21 => ?_
  change VC.asks _ _ _ _ ⟨[a, b, c, d, e, f, a', b', c', d', e', f', v12, v13, v14, v15, v16, v17, v18, v19, v20, v21], []⟩
  replace e21 : v21 = d + d' + v20 := e21
  refine asks_bind fun v22 e22 => ?_
  change VC.asks _ _ _ _ ⟨[a, b, c, d, e, f, a', b', c', d', e', f', v12, v13, v14, v15, v16, v17, v18, v19, v20, v21, v22], []⟩
  replace e22 : v22 = IntKind.wrap .u32 v21 := e22
  rw [wrapU32] at e22
  refine asks_bind fun v23 e23 => ?_
  change VC.asks _ _ _ _ ⟨[a, b, c, d, e, f, a', b', c', d', e', f', v12, v13, v14, v15, v16, v17, v18, v19, v20, v21, v22, v23], []⟩
  replace e23 : v23 = v21 / 4294967296 := e23
  refine asks_bind fun v24 e24 => ?_
  change VC.asks _ _ _ _ ⟨[a, b, c, d, e, f, a', b', c', d', e', f', v12, v13, v14, v15, v16, v17, v18, v19, v20, v21, v22, v23, v24], []⟩
  replace e24 : v24 = e + e' + v23 := e24
  refine asks_bind fun v25 e25 => ?_
  change VC.asks _ _ _ _ ⟨[a, b, c, d, e, f, a', b', c', d', e', f', v12, v13, v14, v15, v16, v17, v18, v19, v20, v21, v22, v23, v24, v25], []⟩
  replace e25 : v25 = IntKind.wrap .u32 v24 := e25
  rw [wrapU32] at e25
  refine asks_bind fun v26 e26 => ?_
  change VC.asks _ _ _ _ ⟨[a, b, c, d, e, f, a', b', c', d', e', f', v12, v13, v14, v15, v16, v17, v18, v19, v20, v21, v22, v23, v24, v25, v26], []⟩
  replace e26 : v26 = v24 / 4294967296 := e26
  refine asks_bind fun v27 e27 => ?_
  change VC.asks _ _ _ _ ⟨[a, b, c, d, e, f, a', b', c', d', e', f', v12, v13, v14, v15, v16, v17, v18, v19, v20, v21, v22, v23, v24, v25, v26, v27], []⟩
  replace e27 : v27 = f + f' + v26 := e27
  refine asks_bind fun v28 e28 => ?_
  change VC.asks _ _ _ _ ⟨[a, b, c, d, e, f, a', b', c', d', e', f', v12, v13, v14, v15, v16, v17, v18, v19, v20, v21, v22, v23, v24, v25, v26, v27, v28], []⟩
  replace e28 : v28 = IntKind.wrap .u32 v27 := e28
  rw [wrapU32] at e28
  refine asks_bind fun v29 e29 => ?_
  change VC.asks _ _ _ _ ⟨[a, b, c, d, e, f, a', b', c', d', e', f', v12, v13, v14, v15, v16, v17, v18, v19, v20, v21, v22, v23, v24, v25, v26, v27, v28, v29], []⟩
  replace e29 : v29 = v27 / 4294967296 := e29
  show [v13, v16, v19, v22, v25, v28, if decide (v29 = 0) = true then 1 else 0] = plusF' [a, b, c, d, e, f, a', b', c', d', e', f']
  subst e12 e13 e14 e15 e16 e17 e18 e19 e20 e21 e22 e23 e24 e25 e26 e27 e28 e29
  simp only [plusF']
  refine congrArg (plus6 a b c d e f a' b' c' d' e' f' ++ [·]) ?_
  show (if decide (over6 a b c d e f a' b' c' d' e' f' = 0) = true then 1 else 0 : Int) = _
  by_cases h : over6 a b c d e f a' b' c' d' e' f' = 0 <;> simp [h]

theorem bor_range (x : Int) : 0 ≤ bor x ∧ bor x ≤ 1 := by unfold bor; split <;> decide
theorem low64 {D : Int} : D % 18446744073709551616 % 4294967296 = D % 4294967296 := by omega
theorem top64 {D : Int} (h1 : -4294967296 ≤ D) (h2 : D ≤ 4294967295) : D % 18446744073709551616 / 9223372036854775808 = bor D := by
  unfold bor
  split <;> omega
theorem sub64 {x B : Int} : (x % 18446744073709551616 - B) % 18446744073709551616 = (x - B) % 18446744073709551616 := by omega

theorem ctMinus : CT Try.prog tab1.fns free 67 s67 := tab1.cta v67 Try.checked.mixed trivial rfl trivial Try.func67 fun xs hx => by
  obtain ⟨ys, zs, rfl, hy, hz⟩ := lenAdd 6 6 (allHas_length hx).symm
  obtain ⟨a, b, c, d, e, f, rfl⟩ := len6 hy
  obtain ⟨a', b', c', d', e', f', rfl⟩ := len6 hz
  clear hy hz
  have b0 : 0 ≤ a ∧ a ≤ 4294967295 := hx.1
  have b1 : 0 ≤ b ∧ b ≤ 4294967295 := hx.2.1
  have b2 : 0 ≤ c ∧ c ≤ 4294967295 := hx.2.2.1
  have b3 : 0 ≤ d ∧ d ≤ 4294967295 := hx.2.2.2.1
  have b4 : 0 ≤ e ∧ e ≤ 4294967295 := hx.2.2.2.2.1
  have b5 : 0 ≤ f ∧ f ≤ 4294967295 := hx.2.2.2.2.2.1
  have p0 : 0 ≤ a' ∧ a' ≤ 4294967295 := hx.2.2.2.2.2.2.1
  have p1 : 0 ≤ b' ∧ b' ≤ 4294967295 := hx.2.2.2.2.2.2.2.1
  have p2 : 0 ≤ c' ∧ c' ≤ 4294967295 := hx.2.2.2.2.2.2.2.2.1
  have p3 : 0 ≤ d' ∧ d' ≤ 4294967295 := hx.2.2.2.2.2.2.2.2.2.1
  have p4 : 0 ≤ e' ∧ e' ≤ 4294967295 := hx.2.2.2.2.2.2.2.2.2.2.1
  have p5 : 0 ≤ f' ∧ f' ≤ 4294967295 := hx.2.2.2.2.2.2.2.2.2.2.2.1
  clear hx
  show VC.asks tab1.fns free (fun ys => ys = minusF [a, b, c, d, e, f, a', b', c', d', e', f']) t67 ⟨[a, b, c, d, e, f, a', b', c', d', e', f'], []⟩
  unfold t67
  refine asks_bind fun v12 e12 => ?_
  change VC.asks _ _ _ _ ⟨[a, b, c, d, e, f, a', b', c', d', e', f', v12], []⟩
  replace e12 : v12 = IntKind.wrap .u64 (a - a') := e12
  rw [wrapU64] at e12
  refine asks_bind fun v13 e13 => ?_
  change VC.asks _ _ _ _ ⟨[a, b, c, d, e, f, a', b', c', d', e', f', v12, v13], []⟩
  replace e13 : v13 = IntKind.wrap .u32 v12 := e13
  rw [wrapU32] at e13
  rw [e12, low64] at e13
  refine asks_bind fun v14 e14 => ?_
  change VC.asks _ _ _ _ ⟨[a, b, c, d, e, f, a', b', c', d', e', f', v12, v13, v14], []⟩
  replace e14 : v14 = v12 / 9223372036854775808 := e14
  rw [e12, top64 (by omega) (by omega)] at e14
  have r14 : 0 ≤ v14 ∧ v14 ≤ 1 := by rw [e14]; exact bor_range _
  refine asks_bind fun v15 e15 => ?_
  change VC.asks _ _ _ _ ⟨[a, b, c, d, e, f, a', b', c', d', e', f', v12, v13, v14, v15], []⟩
  replace e15 : v15 = IntKind.wrap .u64 (IntKind.wrap .u64 (b - b') - v14) := e15
  rw [wrapU64, wrapU64] at e15
  rw [sub64] at e15
  refine asks_bind fun v16 e16 => ?_
  change VC.asks _ _ _ _ ⟨[a, b, c, d, e, f, a', b', c', d', e', f', v12, v13, v14, v15, v16], []⟩
  replace e16 : v16 = IntKind.wrap .u32 v15 := e16
  rw [wrapU32] at e16
  rw [e15, low64] at e16
  refine asks_bind fun v17 e17 => ?_
  change VC.asks _ _ _ _ ⟨[a, b, c, d, e, f, a', b', c', d', e', f', v12, v13, v14, v15, v16, v17], []⟩
  replace e17 : v17 = v15 / 9223372036854775808 := e17
  rw [e15, top64 (by omega) (by omega)] at e17
  have r17 : 0 ≤ v17 ∧ v17 ≤ 1 := by rw [e17]; exact bor_range _
  refine asks_bind fun v18 e18 => ?_
  change VC.asks _ _ _ _ ⟨[a, b, c, d, e, f, a', b', c', d', e', f', v12, v13, v14, v15, v16, v17, v18], []⟩
  replace e18 : v18 = IntKind.wrap .u64 (IntKind.wrap .u64 (c - c') - v17) := e18
  rw [wrapU64, wrapU64] at e18
  rw [sub64] at e18
  refine asks_bind fun v19 e19 => ?_
  change VC.asks _ _ _ _ ⟨[a, b, c, d, e, f, a', b', c', d', e', f', v12, v13, v14, v15, v16, v17, v18, v19], []⟩
  replace e19 : v19 = IntKind.wrap .u32 v18 := e19
  rw [wrapU32] at e19
  rw [e18, low64] at e19
  refine asks_bind fun v20 e20 => ?_
  change VC.asks _ _ _ _ ⟨[a, b, c, d, e, f, a', b', c', d', e', f', v12, v13, v14, v15, v16, v17, v18, v19, v20], []⟩
  replace e20 : v20 = v18 / 9223372036854775808 := e20
  rw [e18, top64 (by omega) (by omega)] at e20
  have r20 : 0 ≤ v20 ∧ v20 ≤ 1 := by rw [e20]; exact bor_range _
  refine asks_bind fun v21 e21 => ?_
  change VC.asks _ _ _ _ ⟨[a, b, c, d, e, f, a', b', c', d', e', f', v12, v13, v14, v15, v16, v17, v18, v19, v20, v21], []⟩
  replace e21 : v21 = IntKind.wrap .u64 (IntKind.wrap .u64 (d - d') - v20) := e21
  rw [wrapU64, wrapU64] at e21
  rw [sub64] at e21
  refine asks_bind fun v22 e22 => ?_
  change VC.asks _ _ _ _ ⟨[a, b, c, d, e, f, a', b', c', d', e', f', v12, v13, v14, v15, v16, v17, v18, v19, v20, v21, v22], []⟩
  replace e22 : v22 = IntKind.wrap .u32 v21 := e22
  rw [wrapU32] at e22
  rw [e21, low64] at e22
  refine asks_bind fun v23 e23 => ?_
  change VC.asks _ _ _ _ ⟨[a, b, c, d, e, f, a', b', c', d', e', f', v12, v13, v14, v15, v16, v17, v18, v19, v20, v21, v22, v23], []⟩
  replace e23 : v23 = v21 / 9223372036854775808 := e23
  rw [e21, top64 (by omega) (by omega)] at e23
  have r23 : 0 ≤ v23 ∧ v23 ≤ 1 := by rw [e23]; exact bor_range _
  refine asks_bind fun v24 e24 => ?_
  change VC.asks _ _ _ _ ⟨[a, b, c, d, e, f, a', b', c', d', e', f', v12, v13, v14, v15, v16, v17, v18, v19, v20, v21, v22, v23, v24], []⟩
  replace e24 : v24 = IntKind.wrap .u64 (IntKind.wrap .u64 (e - e') - v23) := e24
  rw [wrapU64, wrapU64] at e24
  rw [sub64] at e24
  refine asks_bind fun v25 e25 => ?_
  change VC.asks _ _ _ _ ⟨[a, b, c, d, e, f, a', b', c', d', e', f', v12, v13, v14, v15, v16, v17, v18, v19, v20, v21, v22, v23, v24, v25], []⟩
  replace e25 : v25 = IntKind.wrap .u32 v24 := e25
  rw [wrapU32] at e25
  rw [e24, low64] at e25
  refine asks_bind fun v26 e26 => ?_
  change VC.asks _ _ _ _ ⟨[a, b, c, d, e, f, a', b', c', d', e', f', v12, v13, v14, v15, v16, v17, v18, v19, v20, v21, v22, v23, v24, v25, v26], []⟩
  replace e26 : v26 = v24 / 9223372036854775808 := e26
  rw [e24, top64 (by omega) (by omega)] at e26
  have r26 : 0 ≤ v26 ∧ v26 ≤ 1 := by rw [e26]; exact bor_range _
  refine asks_bind fun v27 e27 => ?_
  change VC.asks _ _ _ _ ⟨[a, b, c, d, e, f, a', b', c', d', e', f', v12, v13, v14, v15, v16, v17, v18, v19, v20, v21, v22, v23, v24, v25, v26, v27], []⟩
  replace e27 : v27 = IntKind.wrap .u64 (IntKind.wrap .u64 (f - f') - v26) := e27
  rw [wrapU64, wrapU64] at e27
  rw [sub64] at e27
  refine asks_bind fun v28 e28 => ?_
  change VC.asks _ _ _ _ ⟨[a, b, c, d, e, f, a', b', c', d', e', f', v12, v13, v14, v15, v16, v17, v18, v19, v20, v21, v22, v23, v24, v25, v26, v27, v28], []⟩
  replace e28 : v28 = IntKind.wrap .u32 v27 := e28
  rw [wrapU32] at e28
  rw [e27, low64] at e28
  refine asks_bind fun v29 e29 => ?_
  change VC.asks _ _ _ _ ⟨[a, b, c, d, e, f, a', b', c', d', e', f', v12, v13, v14, v15, v16, v17, v18, v19, v20, v21, v22, v23, v24, v25, v26, v27, v28, v29], []⟩
  replace e29 : v29 = v27 / 9223372036854775808 := e29
  rw [e27, top64 (by omega) (by omega)] at e29
  have r29 : 0 ≤ v29 ∧ v29 ≤ 1 := by rw [e29]; exact bor_range _
  show [v13, v16, v19, v22, v25, v28] = minusF [a, b, c, d, e, f, a', b', c', d', e', f']
  clear r14 r17 r20 r23 r26 r29
  subst e13 e14 e16 e17 e19 e20 e22 e23 e25 e26 e28 e29
  rfl

theorem bor_dec (x : Int) : (if decide (x < 0) = true then (1 : Int) else 0) = bor x := by unfold bor; by_cases h : x < 0 <;> simp [h]
theorem wrap_dec (x : Int) : (if decide (x < 0) = true then x + 4294967296 else x) % 4294967296 = x % 4294967296 := by
  by_cases h : x < 0
  · rw [if_pos (by simpa using h)]; omega
  · rw [if_neg (by simpa using h)]

theorem ctMinus' : CT Try.prog tab1.fns free 96 s96 := tab1.cta v96 Try.checked.mixed trivial rfl trivial Try.func96 fun xs hx => by
  obtain ⟨ys, zs, rfl, hy, hz⟩ := lenAdd 6 6 (allHas_length hx).symm
  obtain ⟨a, b, c, d, e, f, rfl⟩ := len6 hy
  obtain ⟨a', b', c', d', e', f', rfl⟩ := len6 hz
  clear hy hz
  clear hx
  show VC.asks tab1.fns free (fun ys => ys = minusF [a, b, c, d, e, f, a', b', c', d', e', f']) t96 ⟨[a, b, c, d, e, f, a', b', c', d', e', f'], []⟩
  unfold t96
  refine asks_bind fun v12 e12 => ?_
  change VC.asks _ _ _ _ ⟨[a, b, c, d, e, f, a', b', c', d', e', f', v12], []⟩
  replace e12 : v12 = a - a' := e12
  refine asks_bind fun v13 e13 => ?_
  change VC.asks _ _ _ _ ⟨[a, b, c, d, e, f, a', b', c', d', e', f', v12, v13], []⟩
  replace e13 : v13 = bor v12 := e13.trans (bor_dec _)
  refine asks_bind fun v14 e14 => ?_
  change VC.asks _ _ _ _ ⟨[a, b, c, d, e, f, a', b', c', d', e', f', v12, v13, v14], []⟩
  refine asks_bind fun v15 e15 => ?_
  change VC.asks _ _ _ _ ⟨[a, b, c, d, e, f, a', b', c', d', e', f', v12, v13, v14, v15], []⟩
  replace e15 : v15 = IntKind.wrap .u32 _ := e15
  rw [wrapU32] at e15
  replace e15 : v15 = v12 % 4294967296 := e15.trans ((congrArg (· % 4294967296) e14).trans (wrap_dec _))
  clear e14
  refine asks_bind fun v16 e16 => ?_
  change VC.asks _ _ _ _ ⟨[a, b, c, d, e, f, a', b', c', d', e', f', v12, v13, v14, v15, v16], []⟩
  replace e16 : v16 = b - b' - v13 := e16
  refine asks_bind fun v17 e17 => ?_
  change VC.asks _ _ _ _ ⟨[a, b, c, d, e, f, a', b', c', d', e', f', v12, v13, v14, v15, v16, v17], []⟩
  replace e17 : v17 = bor v16 := e17.trans (bor_dec _)
  refine asks_bind fun v18 e18 => ?_
  change VC.asks _ _ _ _ ⟨[a, b, c, d, e, f, a', b', c', d', e', f', v12, v13, v14, v15, v16, v17, v18], []⟩
  refine asks_bind fun v19 e19 => ?_
  change VC.asks _ _ _ _ ⟨[a, b, c, d, e, f, a', b', c', d', e', f', v12, v13, v14, v15, v16, v17, v18, v19], []⟩
  replace e19 : v19 = IntKind.wrap .u32 _ := e19
  rw [wrapU32] at e19
  replace e19 : v19 = v16 % 4294967296 := e19.trans ((congrArg (· % 4294967296) e18).trans (wrap_dec _))
  clear e18
  refine asks_bind fun v20 e20 => ?_
  change VC.asks _ _ _ _ ⟨[a, b, c, d, e, f, a', b', c', d', e', f', v12, v13, v14, v15, v16, v17, v18, v19, v20], []⟩
  replace e20 : v20 = c - c' - v17 := e20
  refine asks_bind fun v21 e21 => ?_
  change VC.asks _ _ _ _ ⟨[a, b, c, d, e, f, a', b', c', d', e', f', v12, v13, v14, v15, v16, v17, v18, v19, v20, v21], []⟩
  replace e21 : v21 = bor v20 := e21.trans (bor_dec _)
  refine asks_bind fun v22 e22 => ?_
  change VC.asks _ _ _ _ ⟨[a, b, c, d, e, f, a', b', c', d', e', f', v12, v13, v14, v15, v16, v17, v18, v19, v20, v21, v22], []⟩
  refine asks_bind fun v23 e23 => ?_
  change VC.asks _ _ _ _ ⟨[a, b, c, d, e, f, a', b', c', d', e', f', v12, v13, v14, v15, v16, v17, v18, v19, v20, v21, v22, v23], []⟩
  replace e23 : v23 = IntKind.wrap .u32 _ := e23
  rw [wrapU32] at e23
  replace e23 : v23 = v20 % 4294967296 := e23.trans ((congrArg (· % 4294967296) e22).trans (wrap_dec _))
  clear e22
  refine asks_bind fun v24 e24 => ?_
  change VC.asks _ _ _ _ ⟨[a, b, c, d, e, f, a', b', c', d', e', f', v12, v13, v14, v15, v16, v17, v18, v19, v20, v21, v22, v23, v24], []⟩
  replace e24 : v24 = d - d' - v21 := e24
  refine asks_bind fun v25 e25 => ?_
  change VC.asks _ _ _ _ ⟨[a, b, c, d, e, f, a', b', c', d', e', f', v12, v13, v14, v15, v16, v17, v18, v19, v20, v21, v22, v23, v24, v25], []⟩
  replace e25 : v25 = bor v24 := e25.trans (bor_dec _)
  refine asks_bind fun v26 e26 => ?_
  change VC.asks _ _ _ _ ⟨[a, b, c, d, e, f, a', b', c', d', e', f', v12, v13, v14, v15, v16, v17, v18, v19, v20, v21, v22, v23, v24, v25, v26], []⟩
  refine asks_bind fun v27 e27 => ?_
  change VC.asks _ _ _ _ ⟨[a, b, c, d, e, f, a', b', c', d', e', f', v12, v13, v14, v15, v16, v17, v18, v19, v20, v21, v22, v23, v24, v25, v26, v27], []⟩
  replace e27 : v27 = IntKind.wrap .u32 _ := e27
  rw [wrapU32] at e27
  replace e27 : v27 = v24 % 4294967296 := e27.trans ((congrArg (· % 4294967296) e26).trans (wrap_dec _))
  clear e26
  refine asks_bind fun v28 e28 => ?_
  change VC.asks _ _ _ _ ⟨[a, b, c, d, e, f, a', b', c', d', e', f', v12, v13, v14, v15, v16, v17, v18, v19, v20, v21, v22, v23, v24, v25, v26, v27, v28], []⟩
  replace e28 : v28 = e - e' - v25 := e28
  refine asks_bind fun v29 e29 => ?_
  change VC.asks _ _ _ _ ⟨[a, b, c, d, e, f, a', b', c', d', e', f', v12, v13, v14, v15, v16, v17, v18, v19, v20, v21, v22, v23, v24, v25, v26, v27, v28, v29], []⟩
  replace e29 : v29 = bor v28 := e29.trans (bor_dec _)
  refine asks_bind fun v30 e30 => ?_
  change VC.asks _ _ _ _ ⟨[a, b, c, d, e, f, a', b', c', d', e', f', v12, v13, v14, v15, v16, v17, v18, v19, v20, v21, v22, v23, v24, v25, v26, v27, v28, v29, v30], []⟩
  refine asks_bind fun v31 e31 => ?_
  change VC.asks _ _ _ _ ⟨[a, b, c, d, e, f, a', b', c', d', e', f', v12, v13, v14, v15, v16, v17, v18, v19, v20, v21, v22, v23, v24, v25, v26, v27, v28, v29, v30, v31], []⟩
  replace e31 : v31 = IntKind.wrap .u32 _ := e31
  rw [wrapU32] at e31
  replace e31 : v31 = v28 % 4294967296 := e31.trans ((congrArg (· % 4294967296) e30).trans (wrap_dec _))
  clear e30
  refine asks_bind fun v32 e32 => ?_
  change VC.asks _ _ _ _ ⟨[a, b, c, d, e, f, a', b', c', d', e', f', v12, v13, v14, v15, v16, v17, v18, v19, v20, v21, v22, v23, v24, v25, v26, v27, v28, v29, v30, v31, v32], []⟩
  replace e32 : v32 = f - f' - v29 := e32
  refine asks_bind fun v33 e33 => ?_
  change VC.asks _ _ _ _ ⟨[a, b, c, d, e, f, a', b', c', d', e', f', v12, v13, v14, v15, v16, v17, v18, v19, v20, v21, v22, v23, v24, v25, v26, v27, v28, v29, v30, v31, v32, v33], []⟩
  replace e33 : v33 = bor v32 := e33.trans (bor_dec _)
  refine asks_bind fun v34 e34 => ?_
  change VC.asks _ _ _ _ ⟨[a, b, c, d, e, f, a', b', c', d', e', f', v12, v13, v14, v15, v16, v17, v18, v19, v20, v21, v22, v23, v24, v25, v26, v27, v28, v29, v30, v31, v32, v33, v34], []⟩
  refine asks_bind fun v35 e35 => ?_
  change VC.asks _ _ _ _ ⟨[a, b, c, d, e, f, a', b', c', d', e', f', v12, v13, v14, v15, v16, v17, v18, v19, v20, v21, v22, v23, v24, v25, v26, v27, v28, v29, v30, v31, v32, v33, v34, v35], []⟩
  replace e35 : v35 = IntKind.wrap .u32 _ := e35
  rw [wrapU32] at e35
  replace e35 : v35 = v32 % 4294967296 := e35.trans ((congrArg (· % 4294967296) e34).trans (wrap_dec _))
  clear e34
  show [v15, v19, v23, v27, v31, v35] = minusF [a, b, c, d, e, f, a', b', c', d', e', f']
  subst e12 e13 e15 e16 e17 e19 e20 e21 e23 e24 e25 e27 e28 e29 e31 e32 e33 e35
  rfl

end Go.Proofs.Ytppbanmlifikpaa.Sx
