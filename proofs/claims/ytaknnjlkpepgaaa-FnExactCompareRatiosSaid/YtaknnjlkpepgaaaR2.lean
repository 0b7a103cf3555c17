/-
  Ratios and machines: contracts of both programs' functions.
-/
import Derived.Test.YtaknnjlkpepgaaaR1
namespace Go.Proofs.Ytaknnjlkpepgaaa.Sx
open Go Go.RowKit
set_option linter.unusedVariables false

/-! ### Bounds -/
theorem W18 : W (0 - 1000000000000000000) = -1000000000000000000 := (W_id (by omega)).trans (by omega)
theorem W31 : W (0 - 2147483648) = -2147483648 := (W_id (by omega)).trans (by omega)
theorem W6 : W (0 - 1000000) = -1000000 := (W_id (by omega)).trans (by omega)
theorem mul_bd {x y m n : Int} (hx : -m ≤ x ∧ x ≤ m) (hy : -n ≤ y ∧ y ≤ n) : -(m * n) ≤ x * y ∧ x * y ≤ m * n := by
  have h : (x * y).natAbs ≤ m.toNat * n.toNat := by rw [Int.natAbs_mul]; exact Nat.mul_le_mul (by omega) (by omega)
  have e : ((m.toNat * n.toNat : Nat) : Int) = m * n := by rw [Int.natCast_mul, Int.toNat_of_nonneg (by omega), Int.toNat_of_nonneg (by omega)]
  omega
theorem two_bool {c d : Prop} [Decidable c] [Decidable d] {v : Int} (h : c) (hv : v = if d then 1 else 0) : v = if c ∧ d then 1 else 0 := by
  rw [hv]; by_cases k : d <;> simp [h, k]

theorem cIn3 : CT Try.prog tbR.fns (pres prR) 59 s59 :=
  k59 tbR noI noM prR trivial trivial rfl trivial fun x a b _ _ _ _ => by
    unfold p59
    rw [show tbR.fn 59 [x, a, b] = [if a ≤ x ∧ x ≤ b then 1 else 0] from rfl]
    refine ⟨fun h => ?_, fun h => ?_⟩
    · have h := of_decide_eq_true h
      by_cases k : x ≤ b <;> simp [h, k]
    · have h := of_decide_eq_false h
      rw [if_neg (fun k => h k.1)]
theorem cWi : CT Try.prog tbR.fns (pres prR) 61 s61 :=
  k61 tbR noI noM prR trivial trivial rfl trivial fun x m _ _ _ => by
    unfold p61
    rw [show tbR.fn 61 [x, m] = [if W (0 - m) ≤ x ∧ x ≤ m then 1 else 0] from rfl]
    refine ⟨fun h => ?_, fun h => ?_⟩
    · have h := of_decide_eq_true h
      by_cases k : x ≤ m
      · rw [if_pos (decide_eq_true k), if_pos ⟨h, k⟩]
      · rw [if_neg (show ¬ (W (0 - m) ≤ x ∧ x ≤ m) from fun q => k q.2), if_neg (by simpa using k)]
    · have h := of_decide_eq_false h
      rw [if_neg (fun k => h k.1)]
theorem in3T {x a b v : Int} (hv : [v] = tbR.out 59 1 [x, a, b]) : v = if a ≤ x ∧ x ≤ b then 1 else 0 := by
  have hv := outT (T := tbR) (g := 59) rfl rfl (F := in3F) rfl hv (bool_has _)
  simpa only [in3F, List.cons.injEq, and_true] using hv
theorem wiT {x m v : Int} (hv : [v] = tbR.out 61 1 [x, m]) : v = if W (0 - m) ≤ x ∧ x ≤ m then 1 else 0 := by
  have hv := outT (T := tbR) (g := 61) rfl rfl (F := wiF) rfl hv (bool_has _)
  simpa only [wiF, List.cons.injEq, and_true] using hv

/-! ### Ratios -/
theorem sgn_bd {p q : Int} (hq : In18 q) (h0 : q ≠ 0) : -1000000000000000000 ≤ sgn p q ∧ sgn p q ≤ 1000000000000000000 := by
  obtain ⟨a, b, _, _, _, _, _, _, _, _, _, h10, h11⟩ := ratio_div (p := p) h0
  omega
theorem nm18 {x : Int} (h : In18 x) : NoMin x := by omega
theorem rat_has {p q : Int} (hp : In18 p) (hq : In18 q) : allHas [i64, i64, i64] (ratF [p, q]) := by
  have k : ∀ {x : Int}, NoMin x → I64 x := fun h => by omega
  simp only [ratF]
  split
  · exact ⟨k (tdiv_bd _ (nm18 hp)), k (tdiv_bd _ (nm18 hq)), k n0, trivial⟩
  · exact ⟨k n0, k n0, (by omega : I64 3), trivial⟩
theorem mkR_has {p q : Int} : allHas [i64, i64, i64] (mkRF [p, q]) := by
  simp only [mkRF]
  split
  · rename_i h
    split
    · exact ⟨(by omega : I64 0), (by omega : I64 0), (by omega : I64 4), trivial⟩
    · exact rat_has h.1 h.2
  · exact ⟨(by omega : I64 0), (by omega : I64 0), (by omega : I64 3), trivial⟩
/-- What the greatest common divisor with the sign of q is, as both programs make it. -/
theorem rat_vals {p q g : Int} (hp : In18 p) (hq : In18 q) (h0 : q ≠ 0) (hg : g = (Int.gcd p q : Int)) :
    (q < 0 → IntKind.wrap .i64 (0 - g) = sgn p q) ∧ (¬ q < 0 → g = sgn p q ∧ q / g = q.tdiv (sgn p q)) ∧ sgn p q ≠ 0 := by
  have hs := sgn_bd (p := p) hq h0
  obtain ⟨a, b, _, _, _, _, _, _, hne, _, _, h10, h11⟩ := ratio_div (p := p) h0
  have gb := gcd_bd (nm18 hp) (nm18 hq)
  refine ⟨fun h => ?_, fun h => ?_, hne⟩
  · rw [W_id (by omega), hg]
    unfold sgn
    rw [if_pos h]; omega
  · have e : g = sgn p q := by rw [hg]; unfold sgn; rw [if_neg h]
    refine ⟨e, ?_⟩
    rw [e, Int.tdiv_eq_ediv_of_nonneg (by omega)]
theorem vr_sgn {p q : Int} (h : VR p q) : sgn p q = 1 ∧ ratF [p, q] = [p, q, 0] := by
  have e : sgn p q = 1 := by unfold sgn; rw [if_neg (by omega), h.2.2]; rfl
  refine ⟨e, ?_⟩
  simp only [ratF, e, Int.tdiv_one]
  rw [if_pos ⟨h.2.1, h.1.2⟩]
theorem mk_iff {p q a b c : Int} (h : [a, b, c] = mkRF [p, q]) : (c = 0 ∧ a = p ∧ b = q) ↔ VR p q := by
  simp only [mkRF] at h
  constructor
  · rintro ⟨rfl, rfl, rfl⟩
    split at h
    · split at h
      · simp at h
      · rename_i hin h0
        obtain ⟨x, y, e1, e2, h3, h4, h5, h6, h7, h8, h9, h10, h11⟩ := ratio_div (p := a) h0
        simp only [ratF] at h
        split at h
        · rename_i hk
          simp only [List.cons.injEq, and_true] at h
          rw [← h.1, ← h.2] at hk
          rw [h6] at h
          rw [← h.2] at e2 h3
          have s1 : sgn a b = 1 := by
            have : sgn a b * b = 1 * b := by omega
            exact Int.eq_of_mul_eq_mul_right h0 this
          rw [s1] at h10
          exact ⟨⟨by omega, hk.2⟩, hk.1, by simpa using h10.symm⟩
        · simp at h
    · simp at h
  · intro hv
    rw [if_pos ⟨by omega, by omega⟩, if_neg (by omega), (vr_sgn hv).2] at h
    simp only [List.cons.injEq, and_true] at h
    exact ⟨h.2.2, h.1, h.2.1⟩
theorem cRat : CT Try.prog tbR.fns (pres prR) 58 s58 :=
  k58 tbR noI noM prR ⟨rfl, rfl, trivial⟩ ⟨fun _ _ => trivial, fun h => (by cases h), trivial⟩ rfl ⟨cIn3, cCommon, trivial⟩ fun p q hp hq _ => by
    unfold p58
    rw [show tbR.fn 58 [p, q] = [if VR p q then 1 else 0] from rfl]
    have e1 := fnsT (T := tbR) (g := 59) (xs := [q, 1, 2147483648]) rfl (F := in3F) rfl (bool_has _)
    have e2 := fnsT (T := tbR) (g := 59) (xs := [p, -2147483648, 2147483648]) rfl (F := in3F) rfl (bool_has _)
    rw [e1, e2]
    simp only [in3F, List.getD_cons_zero]
    have dec : ∀ (c : Prop) [Decidable c], decide ((if c then (1 : Int) else 0) = 1) = true ↔ c := fun c _ => by by_cases k : c <;> simp [k]
    refine ⟨fun h => ⟨fun h2 => ?_, fun h2 u _ v _ => ?_⟩, fun h u _ => ?_⟩
    · have h := (dec _).1 h
      have h2 := (dec _).1 h2
      have pp : NoMin p ∧ NoMin q := by omega
      refine ⟨⟨⟨hp, hq, trivial⟩, pp⟩, fun _ u _ v _ g hg => ?_⟩
      have hg := outT (T := tbR) (g := 91) rfl rfl (F := gcd2F) rfl hg (gcd2_has pp.1 pp.2)
      simp only [gcd2F, List.cons.injEq, and_true] at hg
      subst hg
      by_cases k : Int.gcd p q = 1
      · rw [if_pos (show VR p q from ⟨h, h2, k⟩), k]; rfl
      · rw [if_neg (show ¬ VR p q from fun w => k w.2.2), if_neg]
        simp; omega
    · rw [if_neg]
      intro k
      have := (dec (-2147483648 ≤ p ∧ p ≤ 2147483648)).2 k.2.1
      rw [this] at h2; cases h2
    · rw [if_neg]
      intro k
      have := (dec (1 ≤ q ∧ q ≤ 2147483648)).2 k.1
      rw [this] at h; cases h
theorem vrT {g : Nat} {sg : Sig} (hg : tbR.sig g = some sg) (hn : (resKds sg).length = 1) (hs : (resKds sg).map Kd.iv = [⟨0, 1⟩]) (hF : tbR.fn g = vrF) {p q v : Int} (hv : [v] = tbR.out g 1 [p, q]) : v = if VR p q then 1 else 0 := by
  have hv := outT hg hn (F := vrF) hF hv (by rw [hs]; exact bool_has _)
  simpa only [vrF, List.cons.injEq, and_true] using hv
theorem cMake : CT Try.prog tbR.fns (pres prR) 60 s60 :=
  k60 tbR noI noM prR ⟨rfl, rfl, trivial⟩ ⟨fun h => (by cases h), fun _ _ => trivial, trivial⟩ rfl ⟨cCommon, cRat, trivial⟩ (fun _ h => h.1) fun p q hp hq hpre => by
    unfold p60
    obtain ⟨ip, iq, h0⟩ : In18 p ∧ In18 q ∧ q ≠ 0 := hpre.2
    rw [show tbR.fn 60 [p, q] = ratF [p, q] from rfl]
    refine ⟨⟨⟨hp, hq, trivial⟩, nm18 ip, nm18 iq⟩, fun _ g hg => ?_⟩
    have hg := outT (T := tbR) (g := 91) rfl rfl (F := gcd2F) rfl hg (gcd2_has (nm18 ip) (nm18 iq))
    simp only [gcd2F, List.cons.injEq, and_true] at hg
    obtain ⟨r1, r2, r3⟩ := rat_vals ip iq h0 hg
    obtain ⟨x, y, e1, e2, h3, h4, h5, h6, h7, h8, h9, h10, h11⟩ := ratio_div (p := p) h0
    have nz : (!decide (sgn p q = 0)) = true := by simpa using r3
    have fin : ∀ v : Int, [v] = tbR.out 58 1 [p.tdiv (sgn p q), q.tdiv (sgn p q)] → ((!decide (v = 1)) = true → [0, 0, 3] = ratF [p, q]) ∧ ((!decide (v = 1)) = false → [p.tdiv (sgn p q), q.tdiv (sgn p q), 0] = ratF [p, q]) := by
      intro v hv
      have hv := is_true (vrT (g := 58) rfl rfl rfl rfl hv)
      have hvr : VR (p.tdiv (sgn p q)) (q.tdiv (sgn p q)) ↔ In31 (p.tdiv (sgn p q)) ∧ q.tdiv (sgn p q) ≤ 2147483648 := by
        rw [h5, h6]
        exact ⟨fun k => ⟨k.2.1, k.1.2⟩, fun k => ⟨⟨by omega, k.2⟩, k.1, h4⟩⟩
      simp only [ratF]
      refine ⟨fun h => ?_, fun h => ?_⟩
      · rw [if_neg (fun k => by have := hv.1.2 (hvr.2 k); simp [this] at h)]
      · rw [if_pos (hvr.1 (hv.1.1 (by simpa using h)))]
    refine ⟨fun h s hs => ?_, fun h => ?_⟩
    · rw [r1 (of_decide_eq_true h)] at hs
      subst hs
      refine ⟨⟨nz, nz⟩, fun _ u hu v hv => ?_⟩
      rw [W_tdiv _ (nm18 ip)] at hu
      rw [W_tdiv _ (nm18 iq)] at hv
      subst hu hv
      exact fin
    · obtain ⟨eg, ed⟩ := r2 (of_decide_eq_false h)
      rw [ed, eg]
      refine ⟨⟨nz, nz⟩, fun _ u hu v hv => ?_⟩
      rw [W_tdiv _ (nm18 ip)] at hu
      rw [W_tdiv _ (nm18 iq)] at hv
      subst hu hv
      exact fin
theorem cMakeR' : CT Try.prog tbR.fns (pres prR) 20 s20 :=
  k20 tbR noI noM prR ⟨rfl, rfl, trivial⟩ ⟨fun _ _ => trivial, fun h => (by cases h), trivial⟩ rfl ⟨cIn3, cMake, trivial⟩ fun p q hp hq _ => by
    unfold p20
    rw [show tbR.fn 20 [p, q] = if In18 p ∧ In18 q then (if q = 0 then [0, 0, 4] else ratF [p, q]) else [0, 0, 3] from rfl]
    intro u hu
    have hu := is_true (in3T hu)
    refine ⟨fun h v hv => ?_, fun h => ?_⟩
    · have hv := is_true (in3T hv)
      have ip := hu.1.1 (of_decide_eq_true h)
      refine ⟨fun h2 => ?_, fun h2 => ?_⟩
      · rw [if_neg (fun k => by have := hv.1.2 k.2; simp [this] at h2)]
      · have iq := hv.1.1 (by simpa using h2)
        rw [if_pos ⟨ip, iq⟩]
        refine ⟨fun h3 => by rw [if_pos (of_decide_eq_true h3)], fun h3 => ?_⟩
        have h3 := of_decide_eq_false h3
        rw [if_neg h3]
        refine ⟨⟨⟨hp, hq, trivial⟩, ip, iq, h3⟩, fun _ a b c hc => ?_⟩
        exact outT (T := tbR) (g := 60) rfl rfl (F := ratF) rfl hc (rat_has ip iq)
    · rw [if_neg (fun k => by have := hu.1.2 k.1; simp [this] at h)]
theorem cMakeR : CT Try.prog tbR.fns (pres prR) 21 s21 :=
  k21 tbR noI noM prR ⟨rfl, rfl, trivial⟩ ⟨fun _ _ => trivial, fun h => (by cases h), trivial⟩ rfl ⟨cWi, cGcd2, trivial⟩ fun p q hp hq _ => by
    unfold p21
    rw [show tbR.fn 21 [p, q] = if In18 p ∧ In18 q then (if q = 0 then [0, 0, 4] else ratF [p, q]) else [0, 0, 3] from rfl]
    intro u hu
    have hu := is_true (wiT hu)
    rw [W18] at hu
    refine ⟨fun h v hv => ?_, fun h => ?_⟩
    · have hv := is_true (wiT hv)
      rw [W18] at hv
      have ip := hu.1.1 (of_decide_eq_true h)
      refine ⟨fun h2 => ?_, fun h2 => ?_⟩
      · rw [if_neg (fun k => by have := hv.1.2 k.2; simp [this] at h2)]
      · have iq := hv.1.1 (by simpa using h2)
        rw [if_pos ⟨ip, iq⟩]
        refine ⟨fun h3 => by rw [if_pos (of_decide_eq_true h3)], fun h3 => ?_⟩
        have h0 := of_decide_eq_false h3
        rw [if_neg h0]
        refine ⟨⟨⟨hp, hq, trivial⟩, nm18 ip, nm18 iq⟩, fun _ g hg => ?_⟩
        have hg := outT (T := tbR) (g := 62) rfl rfl (F := gcd2F) rfl hg (gcd2_has (nm18 ip) (nm18 iq))
        simp only [gcd2F, List.cons.injEq, and_true] at hg
        obtain ⟨r1, r2, r3⟩ := rat_vals ip iq h0 hg
        have nz : (!decide (sgn p q = 0)) = true := by simpa using r3
        have fin : ∀ v : Int, [v] = tbR.out 61 1 [p.tdiv (sgn p q), 2147483648] →
            (decide (v = 1) = true → ((decide (2147483648 < q.tdiv (sgn p q)) = true → [0, 0, 3] = ratF [p, q]) ∧ (decide (2147483648 < q.tdiv (sgn p q)) = false → [p.tdiv (sgn p q), q.tdiv (sgn p q), 0] = ratF [p, q]))) ∧ (decide (v = 1) = false → [0, 0, 3] = ratF [p, q]) := by
          intro v hv
          have hv := is_true (wiT hv)
          rw [W31] at hv
          simp only [ratF]
          refine ⟨fun h => ⟨fun h2 => ?_, fun h2 => ?_⟩, fun h => ?_⟩
          · have h2 := of_decide_eq_true h2
            rw [if_neg (fun k => by omega)]
          · have h2 := of_decide_eq_false h2
            rw [if_pos ⟨hv.1.1 (of_decide_eq_true h), by omega⟩]
          · rw [if_neg (fun k => by have := hv.1.2 k.1; simp [this] at h)]
        refine ⟨fun h s hs => ?_, fun h => ?_⟩
        · rw [r1 (of_decide_eq_true h)] at hs
          subst hs
          refine ⟨⟨nz, nz⟩, fun _ u hu v hv => ?_⟩
          rw [W_tdiv _ (nm18 ip)] at hu
          rw [W_tdiv _ (nm18 iq)] at hv
          subst hu hv
          exact fin
        · obtain ⟨eg, ed⟩ := r2 (of_decide_eq_false h)
          rw [ed, eg]
          refine ⟨⟨nz, nz⟩, fun _ u hu v hv => ?_⟩
          rw [W_tdiv _ (nm18 ip)] at hu
          rw [W_tdiv _ (nm18 iq)] at hv
          subst hu hv
          exact fin
    · rw [if_neg (fun k => by have := hu.1.2 k.1; simp [this] at h)]
theorem cValidR : CT Try.prog tbR.fns (pres prR) 19 s19 :=
  k19 tbR noI noM prR ⟨rfl, trivial⟩ ⟨fun _ _ => trivial, trivial⟩ rfl ⟨cMakeR, trivial⟩ fun p q hp hq _ => by
    unfold p19
    rw [show tbR.fn 19 [p, q] = [if VR p q then 1 else 0] from rfl]
    intro a b c hc
    have hc := mk_iff (outT (T := tbR) (g := 21) rfl rfl (F := mkRF) rfl hc mkR_has)
    refine ⟨fun h v hv => ?_, fun h => ?_⟩
    · rw [hv]
      by_cases k : VR p q
      · have := hc.2 k
        rw [if_pos k, if_pos (by simp [this.2.1, this.2.2])]
      · rw [if_neg k, if_neg]
        intro q
        simp at q
        exact k (hc.1 ⟨of_decide_eq_true h, q.1, q.2⟩)
    · rw [if_neg (fun k => of_decide_eq_false h (hc.2 k).1)]
theorem cValidR' : CT Try.prog tbR.fns (pres prR) 17 s17 :=
  k17 tbR noI noM prR ⟨rfl, trivial⟩ ⟨fun _ _ => trivial, trivial⟩ rfl ⟨cRat, trivial⟩ fun p q hp hq _ => by
    unfold p17
    intro v hv
    exact outT (T := tbR) (g := 58) rfl rfl (F := vrF) rfl hv (bool_has _)

/-! ### Order -/
theorem cNan : CT Try.prog tbR.fns (pres prR) 98 s98 :=
  k98 tbR noI noM prR trivial trivial rfl trivial fun x _ _ => by
    unfold p98
    show _ = [0]
    simp
theorem cCmp2 : CT Try.prog tbR.fns (pres prR) 92 s92 :=
  k92 tbR noI noM prR ⟨rfl, trivial⟩ ⟨fun _ _ => trivial, trivial⟩ rfl ⟨cNan, trivial⟩ fun x y _ _ _ => by
    unfold p92
    rw [show tbR.fn 92 [x, y] = [cmpI x y] from rfl]
    intro a ha b hb
    have ha := outT (T := tbR) (g := 98) rfl rfl (F := nanF) rfl ha ⟨has1 (by omega), trivial⟩
    have hb := outT (T := tbR) (g := 98) rfl rfl (F := nanF) rfl hb ⟨has1 (by omega), trivial⟩
    simp only [nanF, List.cons.injEq, and_true] at ha hb
    subst ha hb
    unfold cmpI
    refine ⟨fun h => by simp at h, fun _ => ⟨fun h => by simp at h, fun _ => ⟨fun h => ?_, fun h => ⟨fun h2 => ?_, fun h2 => ?_⟩⟩⟩⟩
    · rw [if_pos (of_decide_eq_true h)]
    · rw [if_neg (of_decide_eq_false h), if_pos (of_decide_eq_true h2)]
    · rw [if_neg (of_decide_eq_false h), if_neg (of_decide_eq_false h2)]
theorem cmp_has (x y : Int) : allHas [⟨-1, 1⟩] [cmpI x y] := ⟨has1 (cmpI_bd x y), trivial⟩
theorem cOrd : CT Try.prog tbR.fns (pres prR) 64 s64 :=
  k64 tbR noI noM prR ⟨rfl, trivial⟩ ⟨fun _ _ => trivial, trivial⟩ rfl ⟨cCmp2, trivial⟩ fun p q r s _ _ _ _ _ => by
    unfold p64
    intro v hv
    exact outT (T := tbR) (g := 92) rfl rfl (F := cmp2F) rfl hv (cmp_has _ _)
theorem cOrd' : CT Try.prog tbR.fns (pres prR) 63 s63 :=
  k63 tbR noI noM prR trivial trivial rfl trivial fun p q r s _ _ _ _ _ => by
    unfold p63
    rw [show tbR.fn 63 [p, q, r, s] = [cmpI (W (p * s)) (W (r * q))] from rfl]
    intro a ha b hb
    subst ha hb
    unfold cmpI
    refine ⟨fun h => ?_, fun h => ⟨fun h2 => ?_, fun h2 => ?_⟩⟩
    · rw [if_pos (of_decide_eq_true h)]
    · rw [if_neg (of_decide_eq_false h), if_pos (of_decide_eq_true h2)]
    · rw [if_neg (of_decide_eq_false h), if_neg (of_decide_eq_false h2)]
theorem cCmpR : CT Try.prog tbR.fns (pres prR) 24 s24 :=
  k24 tbR noI noM prR ⟨rfl, rfl, trivial⟩ ⟨fun _ _ => trivial, fun _ _ => trivial, trivial⟩ rfl ⟨cValidR, cOrd, trivial⟩ fun p q r s _ _ _ _ _ => by
    unfold p24
    rw [show tbR.fn 24 [p, q, r, s] = if VR p q ∧ VR r s then ordF [p, q, r, s] ++ [0] else [0, 1] from rfl]
    intro u hu
    have hu := is_true (vrT (g := 19) rfl rfl rfl rfl hu)
    refine ⟨fun h v hv => ?_, fun h => ?_⟩
    · have hv := is_true (vrT (g := 19) rfl rfl rfl rfl hv)
      refine ⟨fun h2 => ?_, fun h2 o ho => ?_⟩
      · rw [if_neg (fun k => by have := hv.1.2 k.2; simp [this] at h2)]
      · rw [if_pos ⟨hu.1.1 (of_decide_eq_true h), hv.1.1 (by simpa using h2)⟩, ← outT (T := tbR) (g := 64) rfl rfl (F := ordF) rfl ho (cmp_has _ _)]
        rfl
    · rw [if_neg (fun k => by have := hu.1.2 k.1; simp [this] at h)]
theorem cCmpR' : CT Try.prog tbR.fns (pres prR) 23 s23 :=
  k23 tbR noI noM prR ⟨rfl, rfl, trivial⟩ ⟨fun _ _ => trivial, fun _ _ => trivial, trivial⟩ rfl ⟨cRat, cOrd', trivial⟩ fun p q r s _ _ _ _ _ => by
    unfold p23
    rw [show tbR.fn 23 [p, q, r, s] = if VR p q ∧ VR r s then ordF [p, q, r, s] ++ [0] else [0, 1] from rfl]
    intro u hu
    have hu := is_true (vrT (g := 58) rfl rfl rfl rfl hu)
    refine ⟨fun h v hv => ?_, fun h => ?_⟩
    · have hv := is_true (vrT (g := 58) rfl rfl rfl rfl hv)
      refine ⟨fun h2 => ?_, fun h2 o ho => ?_⟩
      · rw [if_neg (fun k => by have := hv.1.2 k.2; simp [this] at h2)]
      · rw [if_pos ⟨hu.1.1 (of_decide_eq_true h), hv.1.1 (by simpa using h2)⟩, ← outT (T := tbR) (g := 63) rfl rfl (F := ordF) rfl ho (cmp_has _ _)]
        rfl
    · rw [if_neg (fun k => by have := hu.1.2 k.1; simp [this] at h)]

/-! ### Machines -/
theorem cFit : CT Try.prog tbR.fns (pres prR) 66 s66 :=
  k66 tbR noI noM prR ⟨rfl, trivial⟩ ⟨fun _ _ => trivial, trivial⟩ rfl ⟨cWi, trivial⟩ fun a b c d m _ _ _ _ _ _ => by
    unfold p66
    rw [show tbR.fn 66 [a, b, c, d, m] = [if (W (0 - m) ≤ a ∧ a ≤ m) ∧ (W (0 - m) ≤ b ∧ b ≤ m) ∧ (W (0 - m) ≤ c ∧ c ≤ m) ∧ (W (0 - m) ≤ d ∧ d ≤ m) then 1 else 0] from rfl]
    intro u hu
    have hu := is_true (wiT hu)
    refine ⟨fun h1 v hv => ?_, fun h1 => by rw [if_neg (fun k => by have := hu.1.2 k.1; simp [this] at h1)]⟩
    have hv := is_true (wiT hv)
    refine ⟨fun h2 x hx => ?_, fun h2 => by rw [if_neg (fun k => by have := hv.1.2 k.2.1; simp [this] at h2)]⟩
    have hx := is_true (wiT hx)
    refine ⟨fun h3 y hy => ?_, fun h3 => by rw [if_neg (fun k => by have := hx.1.2 k.2.2.1; simp [this] at h3)]⟩
    have hy := wiT hy
    have k1 := hu.1.1 (of_decide_eq_true h1)
    have k2 := hv.1.1 (of_decide_eq_true h2)
    have k3 := hx.1.1 (of_decide_eq_true h3)
    rw [hy]
    by_cases k4 : W (0 - m) ≤ d ∧ d ≤ m
    · rw [if_pos k4, if_pos ⟨k1, k2, k3, k4⟩]
    · rw [if_neg k4, if_neg (fun k => k4 k.2.2.2)]
theorem cFit' : CT Try.prog tbR.fns (pres prR) 72 s72 :=
  k72 tbR noI noM prR ⟨rfl, trivial⟩ ⟨fun _ _ => trivial, trivial⟩ rfl ⟨cIn3, trivial⟩ fun a b c d m _ _ _ _ _ _ => by
    unfold p72
    rw [show tbR.fn 72 [a, b, c, d, m] = [if (W (0 - m) ≤ a ∧ a ≤ m) ∧ (W (0 - m) ≤ b ∧ b ≤ m) ∧ (W (0 - m) ≤ c ∧ c ≤ m) ∧ (W (0 - m) ≤ d ∧ d ≤ m) then 1 else 0] from rfl]
    intro u hu
    have hu := is_true (in3T hu)
    refine ⟨fun h1 v hv => ?_, fun h1 => by rw [if_neg (fun k => by have := hu.1.2 k.1; simp [this] at h1)]⟩
    have hv := is_true (in3T hv)
    refine ⟨fun h2 x hx => ?_, fun h2 => by rw [if_neg (fun k => by have := hv.1.2 k.2.1; simp [this] at h2)]⟩
    have hx := is_true (in3T hx)
    refine ⟨fun h3 y hy => ?_, fun h3 => by rw [if_neg (fun k => by have := hx.1.2 k.2.2.1; simp [this] at h3)]⟩
    have hy := in3T hy
    have k1 := hu.1.1 (of_decide_eq_true h1)
    have k2 := hv.1.1 (of_decide_eq_true h2)
    have k3 := hx.1.1 (of_decide_eq_true h3)
    rw [hy]
    by_cases k4 : W (0 - m) ≤ d ∧ d ≤ m
    · rw [if_pos k4, if_pos ⟨k1, k2, k3, k4⟩]
    · rw [if_neg k4, if_neg (fun k => k4 k.2.2.2)]
theorem fitT {g : Nat} {sg : Sig} (hg : tbR.sig g = some sg) (hn : (resKds sg).length = 1) (hs : (resKds sg).map Kd.iv = [⟨0, 1⟩]) (hF : tbR.fn g = fitF) {a b c d v : Int} (hv : [v] = tbR.out g 1 [a, b, c, d, 1000000]) : v = if In6 a ∧ In6 b ∧ In6 c ∧ In6 d then 1 else 0 := by
  have hv := outT hg hn (F := fitF) hF hv (by rw [hs]; exact bool_has _)
  simpa only [fitF, List.cons.injEq, and_true, W6] using hv
theorem cDivs : CT Try.prog tbR.fns (pres prR) 67 s67 :=
  k67 tbR noI noM prR trivial trivial rfl trivial fun a b c d _ _ _ _ _ => by
    unfold p67
    rw [show tbR.fn 67 [a, b, c, d] = [if c < d ∧ W (0 - c) < d then 1 else 0] from rfl]
    refine ⟨fun h v hv => ?_, fun h => ?_⟩
    · have h := of_decide_eq_true h
      rw [hv]
      by_cases k : W (0 - c) < d <;> simp [h, k]
    · have h := of_decide_eq_false h
      rw [if_neg (fun k => h k.1)]
theorem divsT {a b c d v : Int} (hc : NoMin c) (hv : [v] = tbR.out 67 1 [a, b, c, d]) : v = if c < d ∧ -c < d then 1 else 0 := by
  have hv := outT (T := tbR) (g := 67) rfl rfl (F := divsF) rfl hv (bool_has _)
  simp only [divsF, List.cons.injEq, and_true] at hv
  rw [show W (0 - c) = -c from (W_id (by omega)).trans (by omega)] at hv
  exact hv
theorem cVM : CT Try.prog tbR.fns (pres prR) 27 s27 :=
  k27 tbR noI noM prR ⟨rfl, rfl, trivial⟩ ⟨fun _ _ => trivial, fun _ _ => trivial, trivial⟩ rfl ⟨cFit, cDivs, trivial⟩ fun a b c d _ _ _ _ _ => by
    unfold p27
    rw [show tbR.fn 27 [a, b, c, d] = [if VM a b c d then 1 else 0] from rfl]
    intro u hu
    have hu := is_true (fitT (g := 66) rfl rfl rfl rfl hu)
    refine ⟨fun h1 v hv => ?_, fun h1 => by rw [if_neg (fun k => by have := hu.1.2 k.1; simp [this] at h1)]⟩
    have k1 := hu.1.1 (of_decide_eq_true h1)
    have hv := divsT (by omega) hv
    rw [hv]
    by_cases k : c < d ∧ -c < d
    · rw [if_pos k, if_pos ⟨k1, k⟩]
    · rw [if_neg k, if_neg (fun q => k q.2)]
theorem sizeT' {x v : Int} (h : NoMin x) (hv : [v] = tbR.out 71 1 [x]) : v = (x.natAbs : Int) := by
  have hv := outT (T := tbR) (g := 71) rfl rfl (F := sizeF) rfl hv (size_has (by omega))
  simp only [sizeF, List.cons.injEq, and_true] at hv
  rw [hv, size_abs h]
theorem cVM' : CT Try.prog tbR.fns (pres prR) 65 s65 :=
  k65 tbR noI noM prR ⟨rfl, rfl, trivial⟩ ⟨fun _ _ => trivial, fun _ _ => trivial, trivial⟩ rfl ⟨cFit', cSize, trivial⟩ fun a b c d _ _ _ _ _ => by
    unfold p65
    rw [show tbR.fn 65 [a, b, c, d] = [if VM a b c d then 1 else 0] from rfl]
    have e1 := fnsT (T := tbR) (g := 72) (xs := [a, b, c, d, 1000000]) rfl (F := fitF) rfl (bool_has _)
    rw [e1]
    simp only [fitF, List.getD_cons_zero, W6]
    have dec : ∀ (c : Prop) [Decidable c], decide ((if c then (1 : Int) else 0) = 1) = true ↔ c := fun c _ => by by_cases k : c <;> simp [k]
    refine ⟨fun h u _ v hv => ?_, fun h u _ => ?_⟩
    · have h := (dec _).1 h
      have hv := sizeT' (by omega) hv
      by_cases k : c < d ∧ -c < d
      · rw [if_pos (by simp; omega), if_pos ⟨h, k⟩]
      · rw [if_neg (by simp; omega), if_neg (fun q => k q.2)]
    · rw [if_neg]
      intro k
      have := (dec _).2 k.1
      rw [this] at h; cases h
theorem vmT {g : Nat} {sg : Sig} (hg : tbR.sig g = some sg) (hn : (resKds sg).length = 1) (hs : (resKds sg).map Kd.iv = [⟨0, 1⟩]) (hF : tbR.fn g = vmF) {a b c d v : Int} (hv : [v] = tbR.out g 1 [a, b, c, d]) : v = if VM a b c d then 1 else 0 := by
  have hv := outT hg hn (F := vmF) hF hv (by rw [hs]; exact bool_has _)
  simpa only [vmF, List.cons.injEq, and_true] using hv
theorem cVMW' : CT Try.prog tbR.fns (pres prR) 25 s25 :=
  k25 tbR noI noM prR ⟨rfl, trivial⟩ ⟨fun _ _ => trivial, trivial⟩ rfl ⟨cVM', trivial⟩ fun a b c d _ _ _ _ _ => by
    unfold p25
    intro v hv
    exact outT (T := tbR) (g := 65) rfl rfl (F := vmF) rfl hv (bool_has _)
/-- The value of a map: no number on the way is too large. -/
theorem app_vals {a b p q : Int} (ha : In6 a) (hb : In6 b) (hp : In31 p) (hq : In31 q) : IntKind.wrap .i64 (IntKind.wrap .i64 (a * p) + IntKind.wrap .i64 (b * q)) = a * p + b * q ∧ In18 (a * p + b * q) := by
  have h1 := mul_bd (m := 1000000) (n := 2147483648) ha hp
  have h2 := mul_bd (m := 1000000) (n := 2147483648) hb hq
  rw [W_id (x := a * p) (by omega), W_id (x := b * q) (by omega), W_id (by omega)]
  exact ⟨rfl, by omega⟩
theorem cApp : CT Try.prog tbR.fns (pres prR) 29 s29 :=
  k29 tbR noI noM prR ⟨rfl, rfl, rfl, trivial⟩ ⟨fun _ _ => trivial, fun _ _ => trivial, fun _ _ => trivial, trivial⟩ rfl ⟨cVM, cValidR, cMakeR, trivial⟩ fun a b c d p q _ _ _ _ _ _ _ => by
    unfold p29
    rw [show tbR.fn 29 [a, b, c, d, p, q] = if VM a b c d ∧ VR p q then mkRF [a * p + b * q, c * p + d * q] else [0, 0, 1] from rfl]
    intro u hu
    have hu := is_true (vmT (g := 27) rfl rfl rfl rfl hu)
    refine ⟨fun h v hv => ?_, fun h => by rw [if_neg (fun k => by have := hu.1.2 k.1; simp [this] at h)]⟩
    have hv := is_true (vrT (g := 19) rfl rfl rfl rfl hv)
    refine ⟨fun h2 => by rw [if_neg (fun k => by have := hv.1.2 k.2; simp [this] at h2)], fun h2 x y z hx => ?_⟩
    have k1 := hu.1.1 (of_decide_eq_true h)
    have k2 := hv.1.1 (by simpa using h2)
    rw [(app_vals k1.1.1 k1.1.2.1 k2.2.1 (by omega)).1, (app_vals k1.1.2.2.1 k1.1.2.2.2 k2.2.1 (by omega)).1] at hx
    rw [if_pos ⟨k1, k2⟩]
    exact outT (T := tbR) (g := 21) rfl rfl (F := mkRF) rfl hx mkR_has
theorem cApp' : CT Try.prog tbR.fns (pres prR) 28 s28 :=
  k28 tbR noI noM prR ⟨rfl, rfl, rfl, trivial⟩ ⟨fun _ _ => trivial, fun _ _ => trivial, fun h => (by cases h), trivial⟩ rfl ⟨cVM', cRat, cMake, trivial⟩ fun a b c d p q _ _ _ _ _ _ _ => by
    unfold p28
    rw [show tbR.fn 28 [a, b, c, d, p, q] = if VM a b c d ∧ VR p q then mkRF [a * p + b * q, c * p + d * q] else [0, 0, 1] from rfl]
    intro u hu
    have hu := is_true (vmT (g := 65) rfl rfl rfl rfl hu)
    refine ⟨fun h v hv => ?_, fun h => by rw [if_neg (fun k => by have := hu.1.2 k.1; simp [this] at h)]⟩
    have hv := is_true (vrT (g := 58) rfl rfl rfl rfl hv)
    refine ⟨fun h2 => by rw [if_neg (fun k => by have := hv.1.2 k.2; simp [this] at h2)], fun h2 x hx => ?_⟩
    have k1 := hu.1.1 (of_decide_eq_true h)
    have k2 := hv.1.1 (by simpa using h2)
    have v1 := app_vals k1.1.1 k1.1.2.1 k2.2.1 (q := q) (by omega)
    have v2 := app_vals k1.1.2.2.1 k1.1.2.2.2 k2.2.1 (q := q) (by omega)
    rw [v2.1] at hx
    rw [v1.1, if_pos ⟨k1, k2⟩]
    subst hx
    simp only [mkRF]
    rw [if_pos ⟨v1.2, v2.2⟩]
    refine ⟨fun h3 => by rw [if_pos (of_decide_eq_true h3)], fun h3 => ?_⟩
    have h3 := of_decide_eq_false h3
    rw [if_neg h3]
    have v1' := v1.2
    have v2' := v2.2
    refine ⟨⟨⟨by show I64 _; omega, by show I64 _; omega, trivial⟩, v1', v2', h3⟩, fun _ x y z hz => ?_⟩
    exact outT (T := tbR) (g := 60) rfl rfl (F := ratF) rfl hz (rat_has v1.2 v2.2)
theorem rat_shape (p q : Int) : ∃ a b c, ratF [p, q] = [a, b, c] := by
  simp only [ratF]
  split <;> exact ⟨_, _, _, rfl⟩
theorem cmp_anti (x y : Int) : cmpI y x < 0 ↔ ¬ cmpI x y ≤ 0 := by
  unfold cmpI
  (repeat' split) <;> constructor <;> intro _ <;> omega
/-- The values at both ends. -/
theorem ends {a b c d : Int} (h : VM a b c d) : (IntKind.wrap .i64 (b - a) = b - a ∧ IntKind.wrap .i64 (d - c) = d - c ∧ IntKind.wrap .i64 (b + a) = b + a ∧ IntKind.wrap .i64 (d + c) = d + c) ∧ (In18 (b - a) ∧ In18 (d - c) ∧ d - c ≠ 0) ∧ (In18 (b + a) ∧ In18 (d + c) ∧ d + c ≠ 0) :=
  ⟨⟨W_id (by omega), W_id (by omega), W_id (by omega), W_id (by omega)⟩, by omega, by omega⟩
theorem img_shape (a b c d : Int) : ∃ p q r s, imgF [a, b, c, d] = [p, q, r, s] := by
  obtain ⟨x, y, z, e1⟩ := rat_shape (b - a) (d - c)
  obtain ⟨x', y', z', e2⟩ := rat_shape (b + a) (d + c)
  simp only [imgF, e1, e2, List.take, List.cons_append, List.nil_append, swapF]
  split <;> exact ⟨_, _, _, _, rfl⟩
theorem img_has {a b c d : Int} (h : VM a b c d) : allHas [i64, i64, i64, i64] (imgF [a, b, c, d]) := by
  have E := ends h
  have g1 := rat_has E.2.1.1 E.2.1.2.1
  have g2 := rat_has E.2.2.1 E.2.2.2.1
  obtain ⟨x, y, z, e1⟩ := rat_shape (b - a) (d - c)
  obtain ⟨x', y', z', e2⟩ := rat_shape (b + a) (d + c)
  rw [e1] at g1
  rw [e2] at g2
  simp only [imgF, e1, e2, List.take, List.cons_append, List.nil_append, swapF]
  split
  · exact ⟨g1.1, g1.2.1, g2.1, g2.2.1, trivial⟩
  · exact ⟨g2.1, g2.2.1, g1.1, g1.2.1, trivial⟩
theorem cImg : CT Try.prog tbR.fns (pres prR) 31 s31 :=
  k31 tbR noI noM prR ⟨rfl, rfl, rfl, trivial⟩ ⟨fun _ _ => trivial, fun _ _ => trivial, fun _ _ => trivial, trivial⟩ rfl ⟨cVM, cMakeR, cOrd, trivial⟩ fun a b c d _ _ _ _ _ => by
    unfold p31
    rw [show tbR.fn 31 [a, b, c, d] = if VM a b c d then imgF [a, b, c, d] ++ [0] else [0, 0, 0, 0, 1] from rfl]
    intro u hu
    have hu := is_true (vmT (g := 27) rfl rfl rfl rfl hu)
    refine ⟨fun h => by rw [if_neg (fun k => by have := hu.1.2 k; simp [this] at h)], fun h x y z hx x' y' z' hx' o ho p hp q hq r hr s hs => ?_⟩
    have k1 := hu.1.1 (by simpa using h)
    have E := ends k1
    rw [E.1.1, E.1.2.1] at hx
    rw [E.1.2.2.1, E.1.2.2.2] at hx'
    have hx := outT (T := tbR) (g := 21) rfl rfl (F := mkRF) rfl hx mkR_has
    have hx' := outT (T := tbR) (g := 21) rfl rfl (F := mkRF) rfl hx' mkR_has
    simp only [mkRF] at hx hx'
    rw [if_pos ⟨E.2.1.1, E.2.1.2.1⟩, if_neg E.2.1.2.2] at hx
    rw [if_pos ⟨E.2.2.1, E.2.2.2.1⟩, if_neg E.2.2.2.2] at hx'
    have ho := outT (T := tbR) (g := 64) rfl rfl (F := ordF) rfl ho (cmp_has _ _)
    simp only [ordF, List.cons.injEq, and_true] at ho
    rw [if_pos k1]
    simp only [imgF, ← hx, ← hx', List.take, List.cons_append, List.nil_append, swapF]
    rw [← ho]
    by_cases k : o ≤ 0
    · rw [if_pos k, hp, hq, hr, hs]
      have : ¬ 0 < o := by omega
      simp [this]
    · rw [if_neg k, hp, hq, hr, hs]
      have : 0 < o := by omega
      simp [this]
theorem cImg' : CT Try.prog tbR.fns (pres prR) 68 s68 :=
  k68 tbR noI noM prR ⟨rfl, rfl, trivial⟩ ⟨fun h => (by cases h), fun _ _ => trivial, trivial⟩ rfl ⟨cMake, cOrd', trivial⟩ (fun _ h => h.1) fun a b c d _ _ _ _ hp => by
    unfold p68
    have k1 : VM a b c d := hp.2
    rw [show tbR.fn 68 [a, b, c, d] = imgF [a, b, c, d] from rfl]
    have E := ends k1
    rw [E.1.1, E.1.2.1, E.1.2.2.1, E.1.2.2.2]
    have i1 := E.2.1
    have i2' := E.2.2
    refine ⟨⟨⟨by show I64 _; omega, by show I64 _; omega, trivial⟩, i1⟩, fun _ x y z hx => ⟨⟨⟨by show I64 _; omega, by show I64 _; omega, trivial⟩, i2'⟩, fun _ x' y' z' hx' o ho => ?_⟩⟩
    have hx := outT (T := tbR) (g := 60) rfl rfl (F := ratF) rfl hx (rat_has i1.1 i1.2.1)
    have hx' := outT (T := tbR) (g := 60) rfl rfl (F := ratF) rfl hx' (rat_has i2'.1 i2'.2.1)
    have ho := outT (T := tbR) (g := 63) rfl rfl (F := ordF) rfl ho (cmp_has _ _)
    simp only [ordF, List.cons.injEq, and_true] at ho
    simp only [imgF, ← hx, ← hx', List.take, List.cons_append, List.nil_append, swapF]
    have an := cmp_anti (W (x * y')) (W (x' * y))
    rw [← ho] at an
    refine ⟨fun h => ?_, fun h => ?_⟩
    · rw [if_neg (an.1 (of_decide_eq_true h))]
    · rw [if_pos (Decidable.byContradiction fun k => of_decide_eq_false h (an.2 k))]
theorem cImgW' : CT Try.prog tbR.fns (pres prR) 30 s30 :=
  k30 tbR noI noM prR ⟨rfl, rfl, trivial⟩ ⟨fun _ _ => trivial, fun h => (by cases h), trivial⟩ rfl ⟨cVM', cImg', trivial⟩ fun a b c d ha hb hc hd _ => by
    unfold p30
    rw [show tbR.fn 30 [a, b, c, d] = if VM a b c d then imgF [a, b, c, d] ++ [0] else [0, 0, 0, 0, 1] from rfl]
    intro u hu
    have hu := is_true (vmT (g := 65) rfl rfl rfl rfl hu)
    refine ⟨fun h => by rw [if_neg (fun k => by have := hu.1.2 k; simp [this] at h)], fun h => ?_⟩
    have k1 := hu.1.1 (by simpa using h)
    rw [if_pos k1]
    refine ⟨⟨⟨ha, hb, hc, hd, trivial⟩, k1⟩, fun _ x y z w hx => ?_⟩
    rw [← outT (T := tbR) (g := 68) rfl rfl (F := imgF) rfl hx (img_has k1)]
    rfl

/-! ### Composition -/
theorem cTimes : CT Try.prog tbR.fns (pres prR) 73 s73 :=
  k73 tbR noI noM prR trivial trivial rfl trivial fun a b c d a' b' c' d' _ _ _ _ _ _ _ _ _ => by
    unfold p73
    intro x hx y hy z hz w hw
    subst hx hy hz hw
    rfl
theorem one_prod {a b c d : Int} (ha : In6 a) (hb : In6 b) (hc : In6 c) (hd : In6 d) : NoMin (W (W (a * b) + W (c * d))) := by
  have h1 := mul_bd (m := 1000000) (n := 1000000) ha hb
  have h2 := mul_bd (m := 1000000) (n := 1000000) hc hd
  show NoMin (IntKind.wrap .i64 (IntKind.wrap .i64 (a * b) + IntKind.wrap .i64 (c * d)))
  rw [W_id (x := a * b) (by omega), W_id (x := c * d) (by omega), W_id (by omega)]
  omega
theorem times_has (a b c d a' b' c' d' : Int) : allHas [i64, i64, i64, i64] (timesF [a, b, c, d, a', b', c', d']) := ⟨W_has _, W_has _, W_has _, W_has _, trivial⟩
theorem neg_nm {x : Int} (h : NoMin x) : IntKind.wrap .i64 (0 - x) = -x ∧ NoMin (-x) := ⟨(W_id (by omega)).trans (by omega), by omega⟩
theorem red_nm {a b c d x y z w : Int} (ha : NoMin a) (hb : NoMin b) (hc : NoMin c) (hd : NoMin d) (h : [x, y, z, w] = redF [a, b, c, d]) : NoMin x ∧ NoMin y ∧ NoMin z ∧ NoMin w := by
  simp only [redF] at h
  split at h <;> (simp only [List.cons.injEq, and_true] at h; obtain ⟨rfl, rfl, rfl, rfl⟩ := h)
  · exact ⟨ha, hb, hc, hd⟩
  · exact ⟨tdiv_bd _ ha, tdiv_bd _ hb, tdiv_bd _ hc, tdiv_bd _ hd⟩
theorem red_zero {a b c d : Int} (h : gcd4 a b c d = 0) : lastF (flipF (redF [a, b, c, d])) = [0, 0, 0, 0, 4] := by
  have h2 := (Nat.gcd_eq_zero_iff.1 h).2
  have h3 := Int.gcd_eq_zero_iff.1 h2
  simp only [redF]
  rw [if_pos h, h3.1, h3.2]
  rfl
theorem last_of {a b c d : Int} (hc : NoMin c) :
    (∀ v : Int, [v] = tbR.out 67 1 [a, b, c, d] → ((!decide (v = 1)) = true → [0, 0, 0, 0, 4] = lastF [a, b, c, d]) ∧ ((!decide (v = 1)) = false → ∀ w : Int, [w] = tbR.out 66 1 [a, b, c, d, 1000000] → ((!decide (w = 1)) = true → [0, 0, 0, 0, 3] = lastF [a, b, c, d]) ∧ ((!decide (w = 1)) = false → [a, b, c, d, 0] = lastF [a, b, c, d]))) := by
  intro v hv
  have hv := is_true (divsT hc hv)
  simp only [lastF]
  refine ⟨fun h => by rw [if_neg (fun k => by have := hv.1.2 k; simp [this] at h)], fun h w hw => ?_⟩
  have hw := is_true (fitT (g := 66) rfl rfl rfl rfl hw)
  rw [if_pos (hv.1.1 (by simpa using h))]
  exact ⟨fun h2 => by rw [if_neg (fun k => by have := hw.1.2 k; simp [this] at h2)], fun h2 => by rw [if_pos (hw.1.1 (by simpa using h2))]⟩
theorem last_of' {a b c d : Int} (hc : NoMin c) :
    (∀ v : Int, [v] = tbR.out 71 1 [c] → (decide (d ≤ v) = true → [0, 0, 0, 0, 4] = lastF [a, b, c, d]) ∧ (decide (d ≤ v) = false → ∀ w : Int, [w] = tbR.out 72 1 [a, b, c, d, 1000000] → ((!decide (w = 1)) = true → [0, 0, 0, 0, 3] = lastF [a, b, c, d]) ∧ ((!decide (w = 1)) = false → [a, b, c, d, 0] = lastF [a, b, c, d]))) := by
  intro v hv
  have hv := sizeT' hc hv
  simp only [lastF]
  refine ⟨fun h => ?_, fun h w hw => ?_⟩
  · have h := of_decide_eq_true h
    rw [if_neg (fun k => by omega)]
  · have h := of_decide_eq_false h
    have hw := is_true (fitT (g := 72) rfl rfl rfl rfl hw)
    rw [if_pos (by omega)]
    exact ⟨fun h2 => by rw [if_neg (fun k => by have := hw.1.2 k; simp [this] at h2)], fun h2 => by rw [if_pos (hw.1.1 (by simpa using h2))]⟩
theorem comp_def (a b c d a' b' c' d' : Int) : compF [a, b, c, d, a', b', c', d'] = if VM a b c d ∧ VM a' b' c' d' then lastF (flipF (redF (timesF [a, b, c, d, a', b', c', d']))) else [0, 0, 0, 0, 1] := rfl
theorem cComp : CT Try.prog tbR.fns (pres prR) 33 s33 :=
  k33 tbR noI noM prR ⟨rfl, rfl, rfl, rfl, rfl, trivial⟩ ⟨fun _ _ => trivial, fun _ _ => trivial, fun h => (by cases h), fun _ _ => trivial, fun _ _ => trivial, trivial⟩ rfl ⟨cVM, cTimes, cReduced', cDivs, cFit, trivial⟩ fun a b c d a' b' c' d' _ _ _ _ _ _ _ _ _ => by
    unfold p33
    rw [show tbR.fn 33 [a, b, c, d, a', b', c', d'] = compF [a, b, c, d, a', b', c', d'] from rfl, comp_def]
    intro u hu
    have hu := is_true (vmT (g := 27) rfl rfl rfl rfl hu)
    refine ⟨fun h v hv => ?_, fun h => by rw [if_neg (fun k => by have := hu.1.2 k.1; simp [this] at h)]⟩
    have hv := is_true (vmT (g := 27) rfl rfl rfl rfl hv)
    refine ⟨fun h2 => by rw [if_neg (fun k => by have := hv.1.2 k.2; simp [this] at h2)], fun h2 x y z w hx => ?_⟩
    have k1 := hu.1.1 (of_decide_eq_true h)
    have k2 := hv.1.1 (by simpa using h2)
    rw [if_pos ⟨k1, k2⟩]
    have hx := outT (T := tbR) (g := 73) rfl rfl (F := timesF) rfl hx (times_has _ _ _ _ _ _ _ _)
    rw [← hx]
    simp only [timesF, List.cons.injEq, and_true] at hx
    obtain ⟨⟨ia, ib, ic, id'⟩, _⟩ := k1
    obtain ⟨⟨ia', ib', ic', id2⟩, _⟩ := k2
    have n1 : NoMin x := by rw [hx.1]; exact one_prod ia ia' ib ic'
    have n2 : NoMin y := by rw [hx.2.1]; exact one_prod ia ib' ib id2
    have n3 : NoMin z := by rw [hx.2.2.1]; exact one_prod ic ia' id' ic'
    have n4 : NoMin w := by rw [hx.2.2.2]; exact one_prod ic ib' id' id2
    have k : ∀ {x : Int}, NoMin x → I64 x := fun h => by omega
    refine ⟨⟨⟨k n1, k n2, k n3, k n4, trivial⟩, n1, n2, n3, n4⟩, fun _ p q r s hr => ?_⟩
    have hr := outT (T := tbR) (g := 74) rfl rfl (F := redF) rfl hr (red_has n1 n2 n3 n4)
    have rn := red_nm n1 n2 n3 n4 hr
    rw [← hr]
    simp only [flipF]
    refine ⟨fun h3 p' hp' q' hq' r' hr' s' hs' => ?_, fun h3 => ?_⟩
    · rw [if_pos (of_decide_eq_true h3)]
      have m3 := neg_nm rn.2.2.1
      rw [show W (0 - p) = p' from hp'.symm, show W (0 - q) = q' from hq'.symm, show W (0 - r) = r' from hr'.symm, show W (0 - s) = s' from hs'.symm]
      refine last_of ?_
      rw [hr', m3.1]; exact m3.2
    · rw [if_neg (of_decide_eq_false h3)]
      exact last_of rn.2.2.1
theorem cComp' : CT Try.prog tbR.fns (pres prR) 32 s32 :=
  k32 tbR noI noM prR ⟨rfl, rfl, rfl, rfl, rfl, trivial⟩ ⟨fun _ _ => trivial, fun h => (by cases h), fun h => (by cases h), fun _ _ => trivial, fun _ _ => trivial, trivial⟩ rfl ⟨cVM', cFour, cLess, cSize, cFit', trivial⟩ fun a b c d a' b' c' d' _ _ _ _ _ _ _ _ _ => by
    unfold p32
    rw [show tbR.fn 32 [a, b, c, d, a', b', c', d'] = compF [a, b, c, d, a', b', c', d'] from rfl, comp_def]
    intro u hu
    have hu := is_true (vmT (g := 65) rfl rfl rfl rfl hu)
    refine ⟨fun h v hv => ?_, fun h => by rw [if_neg (fun k => by have := hu.1.2 k.1; simp [this] at h)]⟩
    have hv := is_true (vmT (g := 65) rfl rfl rfl rfl hv)
    refine ⟨fun h2 => by rw [if_neg (fun k => by have := hv.1.2 k.2; simp [this] at h2)], fun h2 x hx1 y hx2 z hx3 w hx4 => ?_⟩
    have k1 := hu.1.1 (of_decide_eq_true h)
    have k2 := hv.1.1 (by simpa using h2)
    rw [if_pos ⟨k1, k2⟩]
    have hx : timesF [a, b, c, d, a', b', c', d'] = [x, y, z, w] := by rw [hx1, hx2, hx3, hx4]; rfl
    rw [hx]
    obtain ⟨⟨ia, ib, ic, id'⟩, _⟩ := k1
    obtain ⟨⟨ia', ib', ic', id2⟩, _⟩ := k2
    have n1 : NoMin x := by rw [hx1]; exact one_prod ia ia' ib ic'
    have n2 : NoMin y := by rw [hx2]; exact one_prod ia ib' ib id2
    have n3 : NoMin z := by rw [hx3]; exact one_prod ic ia' id' ic'
    have n4 : NoMin w := by rw [hx4]; exact one_prod ic ib' id' id2
    have k : ∀ {x : Int}, NoMin x → I64 x := fun h => by omega
    refine ⟨⟨⟨k n1, k n2, k n3, k n4, trivial⟩, n1, n2, n3, n4⟩, fun _ g hg => ?_⟩
    have hg := outT (T := tbR) (g := 69) rfl rfl (F := gcd4F) rfl hg (gcd4_has n1 n2 n3 n4)
    simp only [gcd4F, List.cons.injEq, and_true] at hg
    refine ⟨fun h3 => ?_, fun h3 => ⟨⟨⟨k n1, k n2, k n3, k n4, trivial⟩, ⟨n1, n2, n3, n4⟩, ?_⟩, fun _ p q r s hr => ?_⟩⟩
    · have h3 := of_decide_eq_true h3
      rw [red_zero (by omega)]
    · have h3 := of_decide_eq_false h3
      omega
    have hr := outT (T := tbR) (g := 70) rfl rfl (F := redF) rfl hr (red_has n1 n2 n3 n4)
    have rn := red_nm n1 n2 n3 n4 hr
    rw [← hr]
    simp only [flipF]
    refine ⟨fun h3 p' hp' q' hq' r' hr' s' hs' => ?_, fun h3 => ?_⟩
    · rw [if_pos (of_decide_eq_true h3)]
      have m3 := neg_nm rn.2.2.1
      rw [show W (0 - p) = p' from hp'.symm, show W (0 - q) = q' from hq'.symm, show W (0 - r) = r' from hr'.symm, show W (0 - s) = s' from hs'.symm]
      refine last_of' ?_
      rw [hr', m3.1]; exact m3.2
    · rw [if_neg (of_decide_eq_false h3)]
      exact last_of' rn.2.2.1
end Go.Proofs.Ytaknnjlkpepgaaa.Sx
