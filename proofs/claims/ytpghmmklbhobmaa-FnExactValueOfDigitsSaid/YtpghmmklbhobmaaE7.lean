/-
  'ValueOfDigits': the loops, and the law.
-/
import Derived.Test.YtpghmmklbhobmaaE6
namespace Go.Proofs.Ytpghmmklbhobmaa.Sx
open Go Go.RowKit
set_option linter.unusedVariables false
set_option linter.unusedSimpArgs false

theorem b01' {n : Int} (h : 0 ≤ n ∧ n ≤ 1) : (if n = 1 then (1 : Int) else 0) = n := by
  rcases (show n = 0 ∨ n = 1 by omega) with rfl | rfl <;> rfl
theorem runV_step {l : List Int} {s : List Int} {i : Nat} (hi : i < l.length) :
    runV (l.drop i) s = if (stepF s (l.getD i 0)).getD 7 0 ≠ 0 then [0, 0, 0, 0, 0, 0, 0, 3] else runV (l.drop (i + 1)) ((stepF s (l.getD i 0)).take 7) := by
  rw [List.drop_eq_getElem_cons hi, show l.getD i 0 = l[i] by rw [List.getD_eq_getElem?_getD, List.getElem?_eq_getElem hi]; rfl]
  rfl
theorem runV_done {l : List Int} {s : List Int} {i : Nat} (hi : l.length ≤ i) : runV (l.drop i) s = s ++ [0] := by
  rw [List.drop_eq_nil_of_le hi]; rfl
theorem run8 : ∀ (l : List Int) (s : List Int), (∃ n a b c d e f, s = [n, a, b, c, d, e, f] ∧ (0 ≤ n ∧ n ≤ 1) ∧ allHas h6 [a, b, c, d, e, f]) → (runV l s = [0, 0, 0, 0, 0, 0, 0, 3]) ∨
    ∃ n a b c d e f, runV l s = [n, a, b, c, d, e, f, 0] ∧ (0 ≤ n ∧ n ≤ 1) ∧ allHas h6 [a, b, c, d, e, f]
  | [], s, h => by
    obtain ⟨n, a, b, c, d, e, f, rfl, h1, h2⟩ := h
    exact .inr ⟨n, a, b, c, d, e, f, rfl, h1, h2⟩
  | x :: l, s, h => by
    obtain ⟨n, a, b, c, d, e, f, rfl, _⟩ := h
    simp only [runV]
    split
    · exact .inl rfl
    · rename_i hc
      rcases step8 (s := [n, a, b, c, d, e, f]) x ⟨_, _, _, _, _, _, _, rfl⟩ with h | ⟨m, a', b', c', d', e', f', h, h1, h2, _⟩
      · rw [h] at hc; exact absurd (by decide) hc
      · rw [h]
        exact run8 l _ ⟨m, a', b', c', d', e', f', rfl, h1, h2⟩
theorem run_has {l : List Int} {n a b c d e f : Int} (hn : 0 ≤ n ∧ n ≤ 1) (hh : allHas h6 [a, b, c, d, e, f]) : allHas (h7 ++ [(Kd.i .i64).iv]) (runV l [n, a, b, c, d, e, f]) := by
  rcases run8 l [n, a, b, c, d, e, f] ⟨_, _, _, _, _, _, _, rfl, hn, hh⟩ with h | ⟨m, a', b', c', d', e', f', h, h1, h2⟩
  · rw [h]; exact i64_3
  · rw [h]; exact w8_has (l := [m, a', b', c', d', e', f']) (c := 0) ⟨h1, h2⟩ (by omega)
theorem vd_has {l : List Int} {n a b c d e f : Int} (hn : 0 ≤ n ∧ n ≤ 1) (hh : allHas h6 [a, b, c, d, e, f]) : allHas ((Kd.i .i64).iv :: h7) (codeF (runV l [n, a, b, c, d, e, f])) := by
  rcases run8 l [n, a, b, c, d, e, f] ⟨_, _, _, _, _, _, _, rfl, hn, hh⟩ with h | ⟨m, a', b', c', d', e', f', h, h1, h2⟩
  · rw [h]; exact ⟨code_bd (by omega), has1 (by omega), zero6⟩
  · rw [h]; exact ⟨code_bd (by omega), h1, h2⟩

def vdI (_ : Nat) (ρ σ : Env) : Prop := match ρ.i, ρ.l, σ.i with
  | n :: a :: b :: c :: d :: e :: f :: _, [l], [i, m, x0, x1, x2, x3, x4, x5] => 0 ≤ i ∧ i ≤ (l.length : Int) ∧ validF [m, x0, x1, x2, x3, x4, x5] = [1] ∧ runV (l.drop i.toNat) [m, x0, x1, x2, x3, x4, x5] = runV l [n, a, b, c, d, e, f]
  | _, _, _ => False
def vdM (_ : Nat) (ρ σ : Env) : Nat := match ρ.l, σ.i with
  | [l], i :: _ => ((l.length : Int) - i).toNat
  | _, _ => 0
theorem codeT {l : List Int} {z y0 y1 y2 y3 y4 y5 y6 : Int} (h : [z, y0, y1, y2, y3, y4, y5, y6] = codeF l) : (l.getD 7 0 = 0 ∧ z = 0 ∧ [y0, y1, y2, y3, y4, y5, y6] = l.take 7) ∨ (l.getD 7 0 ≠ 0 ∧ z = 3) := by
  unfold codeF at h
  split at h
  · rename_i hc
    exact .inr ⟨hc, (List.cons.inj h).1⟩
  · rename_i hc
    exact .inl ⟨Decidable.byContradiction hc, (List.cons.inj h).1, (List.cons.inj h).2⟩
theorem cVd : CTP Try.prog tb.fns (presQ pr) 77 34 s34 := by
  refine k34 tb vdI vdM pr ⟨rfl, trivial⟩ (by repeat' (first | exact trivial | exact fun _ _ _ => trivial | exact fun h => (by cases h) | refine ⟨?_, ?_⟩)) rfl ⟨cWd, trivial⟩ trivial (fun _ _ h _ => h) fun n a b c d e f l hx hl hp => ?_
  obtain ⟨hn, ha, hb, hc, hd, he, hf, _⟩ := hx
  have h6' := has6 ha hb hc hd he hf
  obtain ⟨va, hlen⟩ : validF [n, a, b, c, d, e, f] = [1] ∧ (l.length : Int) ≤ 64 := hp
  unfold p34
  rw [show tb.app 34 [n, a, b, c, d, e, f] [l] = codeF (runV l [n, a, b, c, d, e, f]) from rfl]
  simp only [b01' hn, decide_eq_true_eq, decide_eq_false_iff_not, Int.zero_add]
  refine ⟨⟨⟨⟨by decide, by decide⟩, hn, h6'⟩, Int.le_refl _, by omega, va, rfl⟩, fun i m x0 x1 x2 x3 x4 x5 hb' hI => ?_⟩
  obtain ⟨i0, i1, vm, hrun⟩ : 0 ≤ i ∧ i ≤ (l.length : Int) ∧ validF [m, x0, x1, x2, x3, x4, x5] = [1] ∧ runV (l.drop i.toNat) [m, x0, x1, x2, x3, x4, x5] = runV l [n, a, b, c, d, e, f] := hI
  obtain ⟨k, rfl⟩ := Int.eq_ofNat_of_zero_le i0
  rw [Int.toNat_natCast] at hrun ⊢
  refine ⟨fun hlt => ⟨⟨i0, hlt⟩, fun _ => ⟨hlt, fun _ y hy => ⟨vm, fun _ z p0 p1 p2 p3 p4 p5 p6 hz => ?_⟩⟩⟩, fun hge => ?_⟩
  · have hz := out1 (g := 35) rfl rfl (F := wdF) rfl hz (wd_has' m x0 x1 x2 x3 x4 x5 y)
    have hz : [z, p0, p1, p2, p3, p4, p5, p6] = codeF (stepF [m, x0, x1, x2, x3, x4, x5] y) := hz
    rw [runV_step (by omega), ← hy] at hrun
    rcases codeT hz with ⟨h0, rfl, ep⟩ | ⟨h0, rfl⟩
    · rw [if_neg (fun q => q h0), ← ep] at hrun
      rcases step8 (s := [m, x0, x1, x2, x3, x4, x5]) y ⟨_, _, _, _, _, _, _, rfl⟩ with h | ⟨m', a', b', c', d', e', f', h, h1, h2, h3⟩
      · rw [h] at h0; exact absurd h0 (by decide)
      · rw [h] at ep
        simp only [List.take_succ_cons, List.take_zero, List.cons.injEq, and_true] at ep
        obtain ⟨rfl, rfl, rfl, rfl, rfl, rfl, rfl⟩ := ep
        rw [show IntKind.wrap .i64 ((k : Int) + 1) = (k : Int) + 1 from W_id ⟨by omega, by omega⟩]
        refine ⟨fun _ => ?_, fun h => absurd rfl h⟩
        have e1 := b01' h1
        rw [e1]
        refine ⟨⟨⟨by show (-9223372036854775808 : Int) ≤ _; omega, by show _ ≤ (9223372036854775807 : Int); omega⟩, h1, h2⟩, ⟨by omega, by omega, h3, ?_⟩, ?_⟩
        · rw [show ((k : Int) + 1).toNat = k + 1 by omega]; exact hrun
        · show ((l.length : Int) - (k + 1)).toNat < ((l.length : Int) - k).toNat
          omega
    · rw [if_pos h0] at hrun
      rw [← hrun]
      exact ⟨fun h => absurd h (by decide), fun _ => ⟨by decide, fun _ => rfl⟩⟩
  · rw [runV_done (by omega)] at hrun
    rw [← hrun]
    rfl

theorem vdP_list {xs : List Int} {ls : List (List Int)} (h : vdP xs ls) : ∃ n a b c d e f l, xs = [n, a, b, c, d, e, f] ∧ ls = [l] := by
  match xs, ls, h with
  | [n, a, b, c, d, e, f], [l], _ => exact ⟨_, _, _, _, _, _, _, _, rfl, rfl⟩

theorem fnsL {g : Nat} {s : Sig} {F : LF} (h : tb.sig g = some s) (hl : tb.fl g = some F) {xs : List Int} {ls : List (List Int)} (hr : allHas ((resKds s).map Kd.iv) (F xs ls)) : (tb.fns g xs ls).1 = F xs ls := by
  rw [tb.fns_app h, tb.app_l hl, clamp_id hr]
theorem cSettleW : CTK Try.prog tb.fns (presQ pr) 34 33 s33 := by
  refine settleW_calls cVd rfl rfl rfl (fun xs ls h => h) fun xs ls hx h => ?_
  obtain ⟨n, a, b, c, d, e, f, l, rfl, rfl⟩ := vdP_list h
  obtain ⟨hn, ha, hb, hc, hd, he, hf, _⟩ := hx
  have h6' := has6 ha hb hc hd he hf
  have e1 : (tb.fns 34 [n, a, b, c, d, e, f] [l]).1 = codeF (runV l [n, a, b, c, d, e, f]) := fnsL (s := s34) (F := vdF) rfl rfl (vd_has hn h6')
  have e2 : (tb.fns 33 [n, a, b, c, d, e, f] [l]).1 = runV l [n, a, b, c, d, e, f] := fnsL (s := s33) (F := vsF) rfl rfl (run_has hn h6')
  rw [e1, e2]
  rcases run8 l [n, a, b, c, d, e, f] ⟨_, _, _, _, _, _, _, rfl, hn, h6'⟩ with h | ⟨m, a', b', c', d', e', f', h, h1, h2⟩
  · rw [h]
    exact ⟨3, 0, 0, 0, 0, 0, 0, 0, rfl, rfl, fun _ => ⟨rfl, rfl, rfl, rfl, rfl, rfl, rfl⟩⟩
  · rw [h]
    exact ⟨0, m, a', b', c', d', e', f', rfl, rfl, fun h => absurd rfl h⟩
theorem outV {g : Nat} {s : Sig} {F : LF} {n : Nat} {xs ys : List Int} {ls : List (List Int)} (h : tb.sig g = some s) (hl : tb.fl g = some F) (hn : (resKds s).length = n) (hy : ys = tb.outL g n xs ls) (hr : allHas ((resKds s).map Kd.iv) (F xs ls)) : ys = F xs ls := outP h hl hn hy hr
theorem cVal : CN 10 s10 := by
  refine k10 tb noI noM pr ⟨rfl, rfl, rfl, trivial⟩ (by repeat' (first | exact trivial | exact fun _ _ _ => trivial | exact fun h => (by cases h) | refine ⟨?_, ?_⟩)) rfl ⟨cValid, cCon, cSettleW, trivial⟩ trivial (fun _ _ h _ => h) fun n a b c d e f l hx hl _ => ?_
  obtain ⟨hn, ha, hb, hc, hd, he, hf, _⟩ := hx
  unfold p10
  rw [show tb.app 10 [n, a, b, c, d, e, f] [l] = if validF [n, a, b, c, d, e, f] = [1] ∧ Digs l then (if (l.length : Int) ≤ 64 then runV l [n, a, b, c, d, e, f] else [0, 0, 0, 0, 0, 0, 0, 2]) else [0, 0, 0, 0, 0, 0, 0, 1] from rfl]
  intro y hy
  have hy := validT (g := 21) rfl rfl hy
  refine ⟨fun h z hz => ?_, fun h => ?_⟩
  · have va := hy.1.1 (of_decide_eq_true h)
    have hz := conT hz
    simp only [decide_eq_true_eq, decide_eq_false_iff_not]
    refine ⟨fun h2 => ?_, fun h2 => ?_⟩
    · rw [if_neg (fun q => hz.1 h2 q.2)]
    have hD : Digs l := Decidable.byContradiction fun q => h2 (hz.2 q)
    rw [if_pos ⟨va, hD⟩]
    refine ⟨fun h3 => ?_, fun h3 => ⟨⟨va, by omega⟩, fun _ u0 u1 u2 u3 u4 u5 u6 o hu => ?_⟩⟩
    · rw [if_neg (by omega)]
    · rw [if_pos (by omega)]
      exact outV (s := s33) (F := vsF) rfl rfl rfl hu (run_has hn (has6 ha hb hc hd he hf))
  · rw [if_neg (fun q => by have := hy.1.2 q.1; simp [this] at h)]

/-! ### The model's loops -/
def dgI (k : Nat) (ρ σ : Env) : Prop := match k with
  | 0 => match ρ.i, ρ.l, σ.i with
    | [_, _, _, _, _, _, _, y], [l], [o, i] => 0 ≤ i ∧ i ≤ (l.length : Int) ∧ (o = 1 → y = 1 ∧ ∀ j : Nat, (j : Int) < i → -1 ≤ l.getD j 0 ∧ l.getD j 0 ≤ 1) ∧ (o ≠ 1 → ¬ (y = 1 ∧ Digs l))
    | _, _, _ => False
  | _ + 1 => vdI 0 ρ σ
def dgM (k : Nat) (ρ σ : Env) : Nat := match k with
  | 0 => match ρ.l, σ.i with
    | [l], [_, i] => ((l.length : Int) - i).toNat
    | _, _ => 0
  | _ + 1 => vdM 0 ρ σ
theorem o01 (c : Prop) [Decidable c] : allHas [⟨0, 1⟩] [if c then (1 : Int) else 0] := bool_has c
theorem cValS : CN 8 s8 := by
  refine k8 tb dgI dgM pr ⟨rfl, rfl, trivial⟩ (by repeat' (first | exact trivial | exact fun _ _ _ => trivial | exact fun h => (by cases h) | refine ⟨?_, ?_⟩)) rfl ⟨cOk, cStepS, trivial⟩ trivial (fun _ _ h _ => h) fun n a b c d e f l hx hl _ => ?_
  obtain ⟨hn, ha, hb, hc, hd, he, hf, _⟩ := hx
  have h6' := has6 ha hb hc hd he hf
  have hlen : (l.length : Int) ≤ 9223372036854775807 := hl.1.2
  unfold p8
  rw [show tb.app 8 [n, a, b, c, d, e, f] [l] = if validF [n, a, b, c, d, e, f] = [1] ∧ Digs l then (if (l.length : Int) ≤ 64 then runV l [n, a, b, c, d, e, f] else [0, 0, 0, 0, 0, 0, 0, 2]) else [0, 0, 0, 0, 0, 0, 0, 1] from rfl]
  intro y hy
  have hy := okT (g := 13) rfl rfl hy
  have ey : (if y = 1 then (1 : Int) else 0) = y := b01' (by omega)
  simp only [decide_eq_true_eq, decide_eq_false_iff_not, ey, b01' hn, Int.zero_add, Bool.not_eq_true', Bool.not_eq_false']
  have hz0 : allHas [⟨0, 1⟩, ⟨-9223372036854775808, 9223372036854775807⟩] [y, 0] := ⟨has1 (by omega), ⟨by decide, by decide⟩, trivial⟩
  refine ⟨⟨hz0, Int.le_refl _, by omega, fun h => ⟨h, fun j hj => by omega⟩, fun h q => h q.1⟩, fun o i hb' hI => ?_⟩
  obtain ⟨i0, i1, hI1, hI2⟩ : 0 ≤ i ∧ i ≤ (l.length : Int) ∧ (o = 1 → y = 1 ∧ ∀ j : Nat, (j : Int) < i → -1 ≤ l.getD j 0 ∧ l.getD j 0 ≤ 1) ∧ (o ≠ 1 → ¬ (y = 1 ∧ Digs l)) := hI
  have hbad : o ≠ 1 → ([0, 0, 0, 0, 0, 0, 0, 1] : List Int) = if validF [n, a, b, c, d, e, f] = [1] ∧ Digs l then (if (l.length : Int) ≤ 64 then runV l [n, a, b, c, d, e, f] else [0, 0, 0, 0, 0, 0, 0, 2]) else [0, 0, 0, 0, 0, 0, 0, 1] := fun h => by
    rw [if_neg (fun q => hI2 h ⟨hy.1.2 q.1, q.2⟩)]
  obtain ⟨k, rfl⟩ := Int.eq_ofNat_of_zero_le i0
  rw [Int.toNat_natCast]
  refine ⟨fun hlt => ⟨fun ho => ⟨⟨i0, hlt⟩, fun _ => ⟨hlt, fun _ x hx => ⟨fun hm => ⟨⟨i0, hlt⟩, fun _ => ⟨hlt, fun _ x' hx' z hz => ?_⟩⟩, fun hm z hz => ?_⟩⟩⟩, fun ho => hbad ho⟩, fun hge => ⟨fun ho => hbad ho, fun ho => ?_⟩⟩
  · rw [show IntKind.wrap .i64 ((k : Int) + 1) = (k : Int) + 1 from W_id ⟨by omega, by omega⟩] at hz
    subst hz
    have hxx : x' = x := hx'.trans hx.symm
    subst hxx
    obtain ⟨y1, hall⟩ := hI1 ho
    refine ⟨⟨has1 (by split <;> omega), ⟨by show (-9223372036854775808 : Int) ≤ _; omega, by show _ ≤ (9223372036854775807 : Int); omega⟩, trivial⟩, ⟨by omega, by omega, fun h => ⟨y1, fun j hj => ?_⟩, fun h => ?_⟩, ?_⟩
    · by_cases ej : j = k
      · subst ej
        have : x' ≤ 1 := by
          apply Decidable.byContradiction
          intro q; rw [if_neg q] at h; omega
        rw [← hx]; exact ⟨hm, this⟩
      · exact hall j (by omega)
    · rintro ⟨_, hD⟩
      have := hD _ (getD_mem (a := l) (n := k) (by omega))
      rw [← hx] at this
      exact h (if_pos this.2)
    · show ((l.length : Int) - (k + 1)).toNat < ((l.length : Int) - k).toNat
      omega
  · rw [show IntKind.wrap .i64 ((k : Int) + 1) = (k : Int) + 1 from W_id ⟨by omega, by omega⟩] at hz
    subst hz
    refine ⟨⟨has1 (by omega), ⟨by show (-9223372036854775808 : Int) ≤ _; omega, by show _ ≤ (9223372036854775807 : Int); omega⟩, trivial⟩, ⟨by omega, by omega, fun h => absurd h (by decide), fun _ => ?_⟩, ?_⟩
    · rintro ⟨_, hD⟩
      have := hD _ (getD_mem (a := l) (n := k) (by omega))
      rw [← hx] at this
      omega
    · show ((l.length : Int) - (k + 1)).toNat < ((l.length : Int) - k).toNat
      omega
  · have ho : o = 1 := by simpa using ho
    obtain ⟨y1, hall⟩ := hI1 ho
    have va := hy.1.1 y1
    have hD : Digs l := digs_of (n := k) (by omega) hall
    rw [if_pos ⟨va, hD⟩]
    refine ⟨fun h => by rw [if_neg (by omega)], fun h => ?_⟩
    rw [if_pos (by omega)]
    refine ⟨⟨⟨⟨by decide, by decide⟩, hn, h6'⟩, Int.le_refl _, by omega, va, rfl⟩, fun i m x0 x1 x2 x3 x4 x5 hb' hI => ?_⟩
    obtain ⟨i0, i1, vm, hrun⟩ : 0 ≤ i ∧ i ≤ (l.length : Int) ∧ validF [m, x0, x1, x2, x3, x4, x5] = [1] ∧ runV (l.drop i.toNat) [m, x0, x1, x2, x3, x4, x5] = runV l [n, a, b, c, d, e, f] := hI
    obtain ⟨k, rfl⟩ := Int.eq_ofNat_of_zero_le i0
    rw [Int.toNat_natCast] at hrun ⊢
    refine ⟨fun hlt => ⟨⟨i0, hlt, hlt⟩, fun _ p0 p1 p2 p3 p4 p5 p6 q hz x hx => ?_⟩, fun hge => ?_⟩
    · have hz := out1 (g := 30) rfl rfl (F := stepLF) rfl hz (step_has m x0 x1 x2 x3 x4 x5 _)
      have hz : [p0, p1, p2, p3, p4, p5, p6, q] = stepF [m, x0, x1, x2, x3, x4, x5] (l.getD k 0) := hz
      rw [runV_step (by omega), ← hz] at hrun
      have k7 : ([p0, p1, p2, p3, p4, p5, p6, q] : List Int).getD 7 0 = q := rfl
      have s7 : ([p0, p1, p2, p3, p4, p5, p6, q] : List Int).take 7 = [p0, p1, p2, p3, p4, p5, p6] := rfl
      rw [k7, s7] at hrun
      rcases step8 (s := [m, x0, x1, x2, x3, x4, x5]) (l.getD k 0) ⟨_, _, _, _, _, _, _, rfl⟩ with h | ⟨m', a', b', c', d', e', f', h, h1, h2, h3⟩
      · rw [h] at hz
        simp only [List.cons.injEq, and_true] at hz
        obtain ⟨rfl, rfl, rfl, rfl, rfl, rfl, rfl, rfl⟩ := hz
        rw [if_pos (by decide)] at hrun
        exact ⟨fun _ => hrun, fun h => absurd h (by decide)⟩
      · rw [h] at hz
        simp only [List.cons.injEq, and_true] at hz
        obtain ⟨rfl, rfl, rfl, rfl, rfl, rfl, rfl, rfl⟩ := hz
        rw [if_neg (fun q => q rfl)] at hrun
        refine ⟨fun h => absurd rfl h, fun _ z hz => ?_⟩
        rw [show IntKind.wrap .i64 ((k : Int) + 1) = (k : Int) + 1 from W_id ⟨by omega, by omega⟩] at hz
        subst hz
        rw [b01' h1]
        refine ⟨⟨⟨by show (-9223372036854775808 : Int) ≤ _; omega, by show _ ≤ (9223372036854775807 : Int); omega⟩, h1, h2⟩, ⟨by omega, by omega, h3, ?_⟩, ?_⟩
        · rw [show ((k : Int) + 1).toNat = k + 1 by omega]; exact hrun
        · show ((l.length : Int) - (k + 1)).toNat < ((l.length : Int) - k).toNat
          omega
    · rw [runV_done (by omega)] at hrun
      exact hrun

/-! ### The law -/
theorem val_has {l : List Int} {n a b c d e f : Int} (hn : 0 ≤ n ∧ n ≤ 1) (hh : allHas h6 [a, b, c, d, e, f]) : allHas (h7 ++ [(Kd.i .i64).iv]) (valF [n, a, b, c, d, e, f] [l]) := by
  show allHas (h7 ++ [(Kd.i .i64).iv]) (if validF [n, a, b, c, d, e, f] = [1] ∧ Digs l then (if (l.length : Int) ≤ 64 then runV l [n, a, b, c, d, e, f] else [0, 0, 0, 0, 0, 0, 0, 2]) else [0, 0, 0, 0, 0, 0, 0, 1])
  (repeat' split) <;> first | exact run_has hn hh | exact bad8 (by omega)
theorem to7 {n a b c d e f : Int} {u0 u1 u2 u3 u4 u5 u6 : Int} (hn : 0 ≤ n ∧ n ≤ 1) (hh : allHas h6 [a, b, c, d, e, f]) (h : [u0, u1, u2, u3, u4, u5, u6] = tb.out 6 7 [n, a, b, c, d, e, f]) : [u0, u1, u2, u3, u4, u5, u6] = [n, a, b, c, d, e, f] :=
  out1 (g := 6) rfl rfl (F := idF) rfl h ⟨hn, hh⟩
theorem fValueOfDigits : CN 4 s4 := by
  refine k4 tb noI noM pr (by exact ⟨rfl, rfl, rfl, rfl, rfl, trivial⟩) (by repeat' (first | exact trivial | exact fun _ _ _ => trivial | exact fun h => (by cases h) | refine ⟨?_, ?_⟩)) rfl (by exact ⟨cTo, cValS, cVal, cEq, cEq8S, trivial⟩) (by exact ⟨toInt8S_cp, trivial⟩) (fun _ _ h _ => h) fun n a b c d e f l hx hl _ => ?_
  obtain ⟨hn, ha, hb, hc, hd, he, hf, _⟩ := hx
  have h6' := has6 ha hb hc hd he hf
  unfold p4
  rw [show tb.app 4 [n, a, b, c, d, e, f] [l] = [1] from rfl]
  simp only [decide_eq_true_eq, decide_eq_false_iff_not, Bool.not_eq_true', Bool.not_eq_false']
  refine ⟨fun _ => trivial, fun hlen u0 u1 u2 u3 u4 u5 u6 hu => ⟨by omega, fun _ v0 v1 v2 v3 v4 v5 v6' o hv => ⟨by omega, fun _ w0 w1 w2 w3 w4 w5 w6 hw x0 x1 x2 x3 x4 x5 x6 q hx y hy => ?_⟩⟩⟩
  have hu := to7 hn h6' hu
  have hw := to7 hn h6' hw
  simp only [List.cons.injEq, and_true] at hu hw
  obtain ⟨rfl, rfl, rfl, rfl, rfl, rfl, rfl⟩ := hu
  obtain ⟨rfl, rfl, rfl, rfl, rfl, rfl, rfl⟩ := hw
  have hv := outV (s := s8) (F := valF) rfl rfl rfl hv (val_has hn h6')
  have hx := outV (s := s10) (F := valF) rfl rfl rfl hx (val_has hn h6')
  rw [← hv] at hx
  simp only [List.cons.injEq, and_true] at hx
  obtain ⟨rfl, rfl, rfl, rfl, rfl, rfl, rfl, rfl⟩ := hx
  have hy := out1 (g := 11) rfl rfl (F := eqWF) rfl hy (eqW_has _ _ _ _ _ _ _ _ _ _ _ _ _ _)
  have hy : y = 1 := by simpa [eqWF] using hy
  refine ⟨fun _ => ⟨fun h => absurd rfl h, fun _ => ⟨by omega, fun _ z hz => ?_⟩⟩, fun h => absurd hy h⟩
  have hz := eq8T hz
  rw [if_pos rfl] at hz
  exact ⟨fun h => absurd hz h, fun _ => trivial⟩
end Go.Proofs.Ytpghmmklbhobmaa.Sx
