/-
  'IsWithin', of the program and of its model, and the law that compares them.
-/
import Derived.Test.YtpghmmklbhobmaaL5
namespace Go.Proofs.Ytpghmmklbhobmaa.Sx
open Go Go.RowKit
set_option linter.unusedVariables false
set_option linter.unusedSimpArgs false

theorem fnsW {g : Nat} {s : Sig} {F : List Int → List Int} (h : tb.sig g = some s) (hl : tb.fl g = none) (hF : tb.fn g = F) {xs : List Int} (ls : List (List Int)) (hr : allHas ((resKds s).map Kd.iv) (F xs)) : (tb.fns g xs ls).1 = F xs := by
  subst hF
  rw [tb.fns_of h _ _ hl, clamp_id hr]
theorem wiP_list {xs : List Int} {ls : List (List Int)} (h : wiP xs ls) : ∃ n a b c d e f k n' a' b' c' d' e' f', xs = [n, a, b, c, d, e, f, k, n', a', b', c', d', e', f'] := by
  match xs, h with
  | [n, a, b, c, d, e, f, k, n', a', b', c', d', e', f'], _ => exact ⟨_, _, _, _, _, _, _, _, _, _, _, _, _, _, _, rfl⟩
theorem ws_has {xs : List Int} (hxs : ∃ n a b c d e f k n' a' b' c' d' e' f', xs = [n, a, b, c, d, e, f, k, n', a', b', c', d', e', f']) : allHas [⟨0, 1⟩, (Kd.i .i64).iv] (wsF xs) := by
  obtain ⟨c, v, h1, h2, h3, _⟩ := wi_has xs hxs
  unfold wsF
  rw [h1]
  refine ⟨has1 (by show 0 ≤ v ∧ v ≤ 1; omega), ?_, trivial⟩
  show -9223372036854775808 ≤ c ∧ c ≤ 9223372036854775807
  omega
theorem cSettle : CTK Try.prog tb.fns (presQ pr) 23 22 s22 := by
  refine settle_calls cWi rfl rfl rfl (fun xs ls h => h) fun xs ls h => ?_
  have hxs := wiP_list h
  obtain ⟨c, v, h1, h2, h3, h4⟩ := wi_has xs hxs
  have e1 : (tb.fns 23 xs ls).1 = wiF xs := fnsW (s := s23) (F := wiF) rfl rfl rfl ls (by
    rw [h1]
    refine ⟨?_, has1 (by omega), trivial⟩
    show -9223372036854775808 ≤ c ∧ c ≤ 9223372036854775807
    omega)
  have e2 : (tb.fns 22 xs ls).1 = wsF xs := fnsW (s := s22) (F := wsF) rfl rfl rfl ls (ws_has hxs)
  rw [e1, e2]
  refine ⟨rfl, ?_⟩
  rw [h1]
  exact h4

theorem cPlaces : CN 14 s14 :=
  k14 tb noI noM pr ⟨rfl, trivial⟩ ⟨fun _ _ _ => trivial, trivial⟩ rfl ⟨cIn, trivial⟩ trivial (fun _ _ h _ => h) fun x _ _ _ => by
    unfold p14
    intro y hy
    exact out1 (g := 37) rfl rfl (F := inF) rfl hy (in_has _ _ _)
theorem placesT {x y : Int} (hy : [y] = tb.out 14 1 [x]) : (y = 1 ↔ 0 ≤ x ∧ x ≤ 64) ∧ (y = 0 ∨ y = 1) := by
  have hy := out1 (g := 14) rfl rfl (F := placesF) rfl hy ⟨has1 (by split <;> omega), trivial⟩
  simp only [placesF, List.cons.injEq, and_true] at hy
  rw [hy]
  split <;> simp_all

theorem cIsW : CN 7 s7 :=
  k7 tb noI noM pr ⟨rfl, rfl, trivial⟩ (by repeat' (first | exact trivial | exact fun _ _ _ => trivial | exact fun h => (by cases h) | refine ⟨?_, ?_⟩)) rfl ⟨cValid, cSettle, trivial⟩ trivial (fun _ _ h _ => h) fun n a b c d e f n' a' b' c' d' e' f' p k hx _ _ => by
    unfold p7
    rw [show tb.app 7 [n, a, b, c, d, e, f, n', a', b', c', d', e', f', p, k] [] = withinWF [n, a, b, c, d, e, f, n', a', b', c', d', e', f', p, k] from rfl]
    simp only [withinWF]
    intro y hy
    have hy := validT (g := 21) rfl rfl hy
    refine ⟨fun h z hz => ?_, fun h => ?_⟩
    · have hz := validT (g := 21) rfl rfl hz
      have va := hy.1.1 (of_decide_eq_true h)
      refine ⟨fun h2 => ?_, fun h2 => ?_⟩
      · rw [if_neg (fun q => by have := hz.1.2 q.2; simp [this] at h2)]
      have vb := hz.1.1 (by simpa using h2)
      rw [if_pos ⟨va, vb⟩]
      simp only [decide_eq_true_eq, decide_eq_false_iff_not]
      refine ⟨fun h3 => ⟨fun h4 => ⟨fun h5 => ⟨fun h6 => ?_, fun h6 => ⟨⟨va, vb, h5, by omega⟩, fun _ u v hu => ?_⟩⟩, fun h5 => ?_⟩, fun h4 => ?_⟩, fun h3 => ?_⟩
      · rw [if_neg (by omega)]
      · rw [if_pos (by omega)]
        exact out1 (g := 22) rfl rfl (F := wsF) rfl hu (ws_has ⟨_, _, _, _, _, _, _, _, _, _, _, _, _, _, _, rfl⟩)
      · rw [if_neg (by omega)]
      · rw [if_neg (by omega)]
      · rw [if_neg (by omega)]
    · rw [if_neg (fun q => by have := hy.1.2 q.1; simp [this] at h)]

theorem bits_1 : bits6 1 0 0 0 0 0 = 1 := by decide
theorem one_of {u0 u1 u2 u3 u4 u5 u6 : Int} (h : [u0, u1, u2, u3, u4, u5, u6] = tb.out 18 7 [1]) : [u0, u1, u2, u3, u4, u5, u6] = [0, 1, 0, 0, 0, 0, 0] := by
  have e : ofF [1] = [0, 1, 0, 0, 0, 0, 0] := by decide
  have h := out1 (g := 18) rfl rfl (F := ofF) rfl h (by rw [e]; exact ⟨has1 (by omega), has6 (by omega) (by omega) (by omega) (by omega) (by omega) (by omega)⟩)
  rw [h, e]
theorem iv8_has {n a b c d e f k : Int} (hn : 0 ≤ n ∧ n ≤ 1) (hh : allHas h6 [a, b, c, d, e, f]) (h0 : 0 ≤ k) (h1 : k ≤ 64) : allHas iv15 [n, a, b, c, d, e, f, k] :=
  ⟨hn, hh.1, hh.2.1, hh.2.2.1, hh.2.2.2.1, hh.2.2.2.2.1, hh.2.2.2.2.2.1, ⟨h0, by show k ≤ 191; omega⟩, trivial⟩
theorem mk0 {x m a b c d e f : Int} (h : [m, a, b, c, d, e, f] = mk7 0 (lim6 x)) (h0 : 0 ≤ x) (h1 : x < top) : m = 0 ∧ allHas h6 [a, b, c, d, e, f] ∧ v6 a b c d e f = x := by
  obtain ⟨a0, a1, a2, a3, a4, a5, e, l0, l1, l2, l3, l4, l5, hv⟩ := lim6_out x h0 h1
  rw [e] at h
  simp only [mk7, madeF, List.cons.injEq, and_true] at h
  obtain ⟨hm, rfl, rfl, rfl, rfl, rfl, rfl⟩ := h
  exact ⟨by rw [hm]; rfl, has6 l0 l1 l2 l3 l4 l5, hv⟩
theorem up_ok {o k : Int} (n a b c d e f : Int) (h : (upWF [n, a, b, c, d, e, f, k]).getD 7 0 = o) : o = 0 ∨ o = 3 := by
  simp only [upWF] at h
  split at h
  · exact .inl (by rw [← h]; rfl)
  · exact .inr (by rw [← h]; rfl)
theorem add_ok {o : Int} (n x0 x1 x2 x3 x4 x5 n' y0 y1 y2 y3 y4 y5 : Int) (h : (addF [n, x0, x1, x2, x3, x4, x5, n', y0, y1, y2, y3, y4, y5]).getD 7 0 = o) : o = 0 ∨ o = 3 := by
  simp only [addF] at h
  (repeat' split at h) <;> first | exact .inl (by rw [← h]; rfl) | exact .inr (by rw [← h]; rfl)
theorem cIsWS : CN 5 s5 :=
  k5 tb noI noM pr ⟨rfl, rfl, rfl, rfl, rfl, rfl, rfl, trivial⟩ (by repeat' (first | exact trivial | exact fun _ _ _ => trivial | exact fun h => (by cases h) | refine ⟨?_, ?_⟩)) rfl ⟨cOk, cPlaces, cUpW, cNegS, cAdd', cOf', cCompare', trivial⟩ trivial (fun _ _ h _ => h) fun n a b c d e f n' a' b' c' d' e' f' p k hx _ _ => by
    obtain ⟨hn, ha, hb, hc, hd, he, hf, hn', ha', hb', hc', hd', he', hf', _⟩ := hx
    unfold p5
    rw [show tb.app 5 [n, a, b, c, d, e, f, n', a', b', c', d', e', f', p, k] [] = withinWF [n, a, b, c, d, e, f, n', a', b', c', d', e', f', p, k] from rfl]
    simp only [withinWF]
    intro y hy
    have hy := okT (g := 13) rfl rfl hy
    refine ⟨fun h z hz => ?_, fun h => ?_⟩
    · have hz := okT (g := 13) rfl rfl hz
      have va := hy.1.1 (of_decide_eq_true h)
      refine ⟨fun h2 => ?_, fun h2 y3 hy3 => ?_⟩
      · rw [if_neg (fun q => by have := hz.1.2 q.2; simp [this] at h2)]
      have vb := hz.1.1 (by simpa using h2)
      rw [if_pos ⟨va, vb⟩]
      have hy3 := placesT hy3
      refine ⟨fun h3 y4 hy4 => ?_, fun h3 => ?_⟩
      · have p3 := hy3.1.1 (of_decide_eq_true h3)
        have hy4 := placesT hy4
        refine ⟨fun h4 => ?_, fun h4 => ?_⟩
        · rw [if_neg (fun q => by have := hy4.1.2 q.2; simp [this] at h4)]
        have p4 := hy4.1.1 (by simpa using h4)
        rw [if_pos ⟨p3, p4⟩]
        refine ⟨iv8_has hn (has6 ha hb hc hd he hf) p4.1 p4.2, fun _ u0 u1 u2 u3 u4 u5 u6 o hu => ?_⟩
        have hu := out1 (g := 15) rfl rfl (F := upWF) rfl hu upW_has
        obtain ⟨t1, t2⟩ := split8 hu
        have hub := upW_has (n := n) (a := a) (b := b) (c := c) (d := d) (e := e) (f := f) (k := k)
        rw [← hu] at hub
        have hub := has7_6 hub
        simp only [wsF, wiF, t1, t2]
        refine ⟨fun h5 => ?_, fun h5 v0 v1 v2 v3 v4 v5 v6' hv m0 m1 m2 m3 m4 m5 m6 q hm => ?_⟩
        · have ho : o ≠ 0 := by simpa using h5
          rw [if_pos ho]
          rcases up_ok n a b c d e f t2 with h | rfl
          · exact absurd h ho
          · rfl
        have ho : o = 0 := by simpa using h5
        rw [if_neg (fun q => q ho)]
        have hv := out1 (g := 17) rfl rfl (F := negF) rfl hv (neg_has (has6 ha' hb' hc' hd' he' hf'))
        simp only [negF] at hv
        have hm := out1 (g := 16) rfl rfl (F := addF) rfl hm addF_has
        have hmb := addF_has (n := u0) (x0 := u1) (x1 := u2) (x2 := u3) (x3 := u4) (x4 := u5) (x5 := u6) (n' := v0) (y0 := v1) (y1 := v2) (y2 := v3) (y3 := v4) (y4 := v5) (y5 := v6')
        rw [← hm] at hmb
        have hmb := has7_6 hmb
        have ea : addF ([u0, u1, u2, u3, u4, u5, u6] ++ mk7 (if n' = 1 then 0 else 1) [a', b', c', d', e', f']) = [m0, m1, m2, m3, m4, m5, m6, q] := by rw [← hv, hm]; rfl
        rw [ea]
        have e7 : ([m0, m1, m2, m3, m4, m5, m6, q] : List Int).getD 7 0 = q := rfl
        have e8 : ([m0, m1, m2, m3, m4, m5, m6, q] : List Int).take 7 = [m0, m1, m2, m3, m4, m5, m6] := rfl
        rw [e7, e8]
        refine ⟨fun h6 => ?_, fun h6 w0 w1 w2 w3 w4 w5 w6 hw => ?_⟩
        · have hq : q ≠ 0 := by simpa using h6
          rw [if_pos hq]
          rcases add_ok u0 u1 u2 u3 u4 u5 u6 v0 v1 v2 v3 v4 v5 v6' (o := q) (by rw [← hm]; rfl) with h | rfl
          · exact absurd h hq
          · rfl
        have hq : q = 0 := by simpa using h6
        rw [if_neg (fun h => h hq)]
        have hw := one_of hw
        simp only [List.cons.injEq, and_true] at hw
        obtain ⟨rfl, rfl, rfl, rfl, rfl, rfl, rfl⟩ := hw
        have P := pow64 p4.1 p4.2
        refine ⟨iv8_has (by omega) (has6 (by omega) (by omega) (by omega) (by omega) (by omega) (by omega)) p4.1 p4.2, fun _ x0 x1 x2 x3 x4 x5 x6 c1 hx w0 w1 w2 w3 w4 w5 w6 hw z0 z1 z2 z3 z4 z5 z6 c2 hz v hv => ?_⟩
        have hx := out1 (g := 15) rfl rfl (F := upWF) rfl hx upW_has
        simp only [upWF] at hx
        rw [bits_1, if_pos (.inl (by omega)), show v6 1 0 0 0 0 0 = 1 from rfl, Int.one_mul] at hx
        obtain ⟨ex, rfl⟩ := take7 hx rfl
        obtain ⟨rfl, lx, vx⟩ := mk0 ex.symm (by omega) (by omega)
        have hw := one_of hw
        simp only [List.cons.injEq, and_true] at hw
        obtain ⟨rfl, rfl, rfl, rfl, rfl, rfl, rfl⟩ := hw
        have hz := out1 (g := 16) rfl rfl (F := addF) rfl hz addF_has
        simp only [addF] at hz
        rw [if_pos (by decide), vx, show v6 1 0 0 0 0 0 = 1 from rfl, if_neg (by omega)] at hz
        obtain ⟨ez, rfl⟩ := take7 hz rfl
        obtain ⟨rfl, lz, vz⟩ := mk0 ez.symm (by omega) P.2
        have hv := out1 (g := 19) rfl rfl (F := cmpWF) rfl hv (by
          simp only [cmpWF]
          rw [if_neg (by decide), if_neg (by decide)]
          exact cmp_has _ _)
        simp only [cmpWF, List.cons.injEq, and_true] at hv
        rw [if_neg (by decide), if_neg (by decide), vz] at hv
        have e : (if decide (v ≤ 0) = true then (1 : Int) else 0) = nearBy [m0, m1, m2, m3, m4, m5, m6] k := by
          unfold nearBy
          rw [hv]
          unfold cmpI
          simp only [decide_eq_true_eq]
          (repeat' split) <;> omega
        rw [e]
        rfl
      · rw [if_neg (fun q => by have := hy3.1.2 q.1; simp [this] at h3)]
    · rw [if_neg (fun q => by have := hy.1.2 q.1; simp [this] at h)]

/-! ### The law -/
theorem withinW_has (xs : List Int) (h : ∃ n a b c d e f n' a' b' c' d' e' f' p k, xs = [n, a, b, c, d, e, f, n', a', b', c', d', e', f', p, k]) : allHas [⟨0, 1⟩, (Kd.i .i64).iv] (withinWF xs) := by
  obtain ⟨n, a, b, c, d, e, f, n', a', b', c', d', e', f', p, k, rfl⟩ := h
  simp only [withinWF]
  (repeat' split) <;> first | exact ws_has ⟨_, _, _, _, _, _, _, _, _, _, _, _, _, _, _, rfl⟩ | exact ⟨has1 (by omega), ⟨by decide, by decide⟩, trivial⟩
theorem to7 {n a b c d e f : Int} {u0 u1 u2 u3 u4 u5 u6 : Int} (hn : 0 ≤ n ∧ n ≤ 1) (hh : allHas h6 [a, b, c, d, e, f]) (h : [u0, u1, u2, u3, u4, u5, u6] = tb.out 6 7 [n, a, b, c, d, e, f]) : [u0, u1, u2, u3, u4, u5, u6] = [n, a, b, c, d, e, f] :=
  out1 (g := 6) rfl rfl (F := idF) rfl h ⟨hn, hh⟩
theorem fIsWithin : CN 3 s3 :=
  k3 tb noI noM pr ⟨rfl, rfl, rfl, trivial⟩ (by repeat' (first | exact trivial | exact fun _ _ _ => trivial | exact fun h => (by cases h) | refine ⟨?_, ?_⟩)) rfl ⟨cTo, cIsWS, cIsW, trivial⟩ trivial (fun _ _ h _ => h) fun n a b c d e f n' a' b' c' d' e' f' p k hx _ _ => by
    obtain ⟨hn, ha, hb, hc, hd, he, hf, hn', ha', hb', hc', hd', he', hf', _⟩ := hx
    unfold p3
    rw [show tb.app 3 [n, a, b, c, d, e, f, n', a', b', c', d', e', f', p, k] [] = [1] from rfl]
    intro u0 u1 u2 u3 u4 u5 u6 hu v0 v1 v2 v3 v4 v5 v6' hv r o hr x0 x1 x2 x3 x4 x5 x6 hx y0 y1 y2 y3 y4 y5 y6 hy r' o' hr'
    have h1 := has6 ha hb hc hd he hf
    have h2 := has6 ha' hb' hc' hd' he' hf'
    have hu := to7 hn h1 hu
    have hv := to7 hn' h2 hv
    have hx := to7 hn h1 hx
    have hy := to7 hn' h2 hy
    simp only [List.cons.injEq, and_true] at hu hv hx hy
    obtain ⟨rfl, rfl, rfl, rfl, rfl, rfl, rfl⟩ := hu
    obtain ⟨rfl, rfl, rfl, rfl, rfl, rfl, rfl⟩ := hv
    obtain ⟨rfl, rfl, rfl, rfl, rfl, rfl, rfl⟩ := hx
    obtain ⟨rfl, rfl, rfl, rfl, rfl, rfl, rfl⟩ := hy
    have hr := out1 (g := 5) rfl rfl (F := withinWF) rfl hr (withinW_has _ ⟨_, _, _, _, _, _, _, _, _, _, _, _, _, _, _, _, rfl⟩)
    have hr' := out1 (g := 7) rfl rfl (F := withinWF) rfl hr' (withinW_has _ ⟨_, _, _, _, _, _, _, _, _, _, _, _, _, _, _, _, rfl⟩)
    rw [← hr] at hr'
    simp only [List.cons.injEq, and_true] at hr'
    obtain ⟨rfl, rfl⟩ := hr'
    simp
end Go.Proofs.Ytpghmmklbhobmaa.Sx
