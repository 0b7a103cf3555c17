/-
  The average of two streams, by the code.
-/
import Derived.Test.YtlkbnpgembgdfaaAV5
import Derived.Test.YtlkbnpgembgdfaaQ1
import Derived.Deep.DeepCutAuto
import Derived.Laws.EntriesVeiled
namespace Go.Proofs.Ytlkbnpgembgdfaa.Sx
open Go Go.RowKit
set_option linter.unusedVariables false
set_option linter.unusedSimpArgs false

/-- What a function from two streams to a stream and a code does. -/
def Does2 (g : Nat) (a b c d A B : List Int) (cd : Int) : Prop := ∀ (w : World) (v0 v1 u0 u1 : Value), IsL .i8 w a v0 → IsL .i8 w b v1 → IsL .i8 w c u0 → IsL .i8 w d u1 → Calls Try.prog g #[.agg #[v0, v1], .agg #[u0, u1]] w fun e w' => Gave w w' A B cd e
/-- The first state lies in a box. -/
structure First (a b c d : List Int) (Z wx : World) (s : Value) : Prop where
  mk ::
  here : ∃ n, s = .pointer (some ⟨n, 0, none⟩) ∧ wx.heap[n]? = some (.cells #[.int .i64 (cA a b c d 0), .int .i64 (plc a b 1), .int .i64 (plc c d 1)] 84 (0, 0))
  below : Below Z.heap.size Z wx
theorem dgs_of {a b c d : List Int} (h : vsB a b = true) (h' : vsB c d = true) : Dgs a b c d := by
  have h1 := (vsB_iff a b).1 h
  have h2 := (vsB_iff c d).1 h'
  have key : ∀ (x y : List Int), 1 ≤ y.length → dgB x = true → dgB y = true → ∀ n, -1 ≤ dg x y n ∧ dg x y n ≤ 1 := fun x y hy hx1 hy1 n => by
    rw [dg_spec]
    split
    · exact (dgB_iff x).1 hx1 _ (getD_mem (by assumption))
    · exact (dgB_iff y).1 hy1 _ (getD_mem (Nat.mod_lt _ (by omega)))
  exact fun n => ⟨key a b h1.2.1 h1.2.2.2.1 h1.2.2.2.2 n, key c d h2.2.1 h2.2.2.2.1 h2.2.2.2.2 n⟩
theorem cellsOf3 {w : World} {b : Nat} {x y z : Value} {t : TypeId} (h : w.heap[b]? = some (.cells #[x, y, z] t (0, 0))) : w.cell? ⟨b, 0, none⟩ = some x ∧ w.cell? ⟨b, 1, none⟩ = some y ∧ w.cell? ⟨b, 2, none⟩ = some z ∧ w.frozen? ⟨b, 0, none⟩ = false ∧ w.frozen? ⟨b, 1, none⟩ = false ∧ w.frozen? ⟨b, 2, none⟩ = false :=
  ⟨by rw [Lib.cell_of_heap h]; rfl, by rw [Lib.cell_of_heap h]; rfl, by rw [Lib.cell_of_heap h]; rfl, Lib.frozen_of_heap h _, Lib.frozen_of_heap h _, Lib.frozen_of_heap h _⟩
theorem storedK6 {w : World} {b : Nat} {x y : Value} {t : TypeId} (h : Bk w b x y t) (u v : Value) : ∃ W, (w.setCell ⟨b, 0, none⟩ u).setCell ⟨b, 1, none⟩ v = W ∧ Bk W b u v t ∧ True := by
  obtain ⟨⟨W8, hW8, g8, r8, z8, B8⟩, _⟩ := setc (show w.heap[b]? = _ from h) u
  obtain ⟨_, ⟨W9, hW9, g9, r9, z9, B9⟩⟩ := setc g8 v
  exact ⟨W9, by rw [hW8, hW9], g9, trivial⟩
set_option maxRecDepth 1000000 in
set_option maxHeartbeats 16000000 in
theorem avgI_yes (a b c d X Y A B : List Int) (p : Nat) (cd : Int) (hv : vsB a b = true) (hv' : vsB c d = true) (hR : ARel a b c d X Y) (hp : Per Y p)
    (hY : vsB ((X ++ Y).take (dn (X ++ Y) p X.length)) (((X ++ Y).drop (dn (X ++ Y) p X.length)).take p) = true → A = (X ++ Y).take (dn (X ++ Y) p X.length) ∧ B = ((X ++ Y).drop (dn (X ++ Y) p X.length)).take p ∧ cd = 0)
    (hN : vsB ((X ++ Y).take (dn (X ++ Y) p X.length)) (((X ++ Y).drop (dn (X ++ Y) p X.length)).take p) = false → A = [] ∧ B = [] ∧ cd = 3) : Does2 32 a b c d A B cd := by
  intro w v0 v1 u0 u1 h0 h1 h2 h3
  have h4 := (vsB_iff a b).1 hv
  have h5 := (vsB_iff c d).1 hv'
  have hD := dgs_of hv hv'
  obtain ⟨s0, k0, rfl⟩ := h0.form
  obtain ⟨s1, k1, rfl⟩ := h1.form
  obtain ⟨s2, k2, rfl⟩ := h2.form
  obtain ⟨s3, k3, rfl⟩ := h3.form
  obtain ⟨W, hW, hB, x⟩ := boxK w (.slice s0 a.length k0) (.slice s1 b.length k1) 26
  obtain ⟨V, hV, hB2, y⟩ := boxK W (.slice s2 c.length k2) (.slice s3 d.length k3) 26
  obtain ⟨U, hU, hB3, r⟩ := boxK V (.slice none 0 0) (.slice none 0 0) 26
  have bV := hB.trans (hB2.mono hB.size)
  have bU := bV.trans (hB3.mono bV.size)
  have T := Two.mk (a := a) (b := b) (c := c) (d := d) ((x.keep hB2).keep hB3) (y.keep hB3) (h0.keep bU) (h1.keep bU) (h2.keep bU) (h3.keep bU)
  have ok1 := vsI T.ia T.ib (by omega) (by omega)
  rw [hv] at ok1
  have z1 : w.heap.size < W.heap.size := by rw [← hW]; simp
  have z2 : W.heap.size < V.heap.size := by rw [← hV]; simp
  have z3 : V.heap.size < U.heap.size := by rw [← hU]; simp
  have p0 := T.s.c0
  have p1 := T.s.c1
  have ok2 := Lib.hid fun W' hb => (show Calls Try.prog 37 #[.agg #[.slice s2 c.length k2, .slice s3 d.length k3]] W' fun e w' => e = .returned (.bool true) ∧ Below W'.heap.size W' w' by
    rw [← hv']; exact vsI (T.ic.keep hb) (T.id.keep hb) (by omega) (by omega))
  have TT := Lib.hid (fun W' hb => T.keep (w' := W') hb)
  have RR := Lib.hid (fun W' hb => r.keep (w' := W') hb)
  have HD := Lib.hid hD
  have la : a.length ≤ 16 := h4.1
  have lb : 1 ≤ b.length ∧ b.length ≤ 14 := ⟨h4.2.1, h4.2.2.1⟩
  have lc : c.length ≤ 16 := h5.1
  have ld : 1 ≤ d.length ∧ d.length ≤ 14 := ⟨h5.2.1, h5.2.2.1⟩
  have HR := Lib.hid hR
  have HY := Lib.hid hY
  have HN := Lib.hid hN
  have HP := Lib.hid hp
  clear hv hv' h0 h1 h2 h3 h4 h5 T x y r hB hB2 hB3 bV hD hR hY hN hp
  go_enter Try.func32, Try.ntmps32
  go_wp2_with (go_at_call 37; refine ok1.mono ?_)
  first | (rintro e W1 rfl b1) | (rintro e W1 ⟨rfl, b1⟩)
  have T1 := TT.out _ b1
  have q0 := T1.t.c0
  have q1 := T1.t.c1
  have o2 := ok2.out _ b1
  have zz1 := b1.size
  clear ok1 T1
  go_wp2_with (go_at_call 37; refine o2.mono ?_)
  first | (rintro e W2 rfl b2) | (rintro e W2 ⟨rfl, b2⟩)
  have b2 := b1.trans (b2.mono b1.size)
  clear o2 b1 ok2
  obtain ⟨Z1, hZ1, bZ1, g1⟩ := boxN W2 #[.func (.func 56) #[] #[.pointer (some ⟨w.heap.size, 0, none⟩), .pointer (some ⟨W.heap.size, 0, none⟩)]] 86
  obtain ⟨Z, hZ, bZ, g2⟩ := boxN Z1 #[.func (.func 58) #[] #[.pointer (some ⟨w.heap.size, 0, none⟩), .pointer (some ⟨W.heap.size, 0, none⟩)]] 88
  have zZ1 : Z1.heap.size = W2.heap.size + 1 := by rw [← hZ1]; simp
  have zZ : Z.heap.size = W2.heap.size + 2 := by rw [← hZ]; simp; omega
  rw [zZ1] at g2
  have bz := bZ1.trans (bZ.mono bZ1.size)
  have g1 := at_keep g1 bZ
  have b3 := b2.trans (bz.mono b2.size)
  have CL : Clo Z w.heap.size W.heap.size W2.heap.size (W2.heap.size + 1) 86 88 := ⟨g1, g2⟩
  have TZ := TT.out Z b3
  have pl0 := plc_zero a b lb.1
  have pl1 := plc_zero c d ld.1
  have e0 : dgp a b 0 + dgp c d 0 = cA a b c d 0 := by show _ = dg a b 0 + dg c d 0; unfold dg; rw [pl0, pl1]
  have e1 : bh a.length b.length 0 = plc a b 1 := by rw [plc_succ lb.1 (a := a) 0, pl0]; rfl
  have e2 : bh c.length d.length 0 = plc c d 1 := by rw [plc_succ ld.1 (a := c) 0, pl1]; rfl
  have dd0 := HD.out 0
  unfold dg at dd0
  rw [pl0, pl1] at dd0
  have SM := Lib.hid fun W' (hb : Below Z.heap.size Z W') => (show Calls Try.prog 56 #[.agg #[.int .i64 0, .int .i64 0, .int .i64 0], .pointer (some ⟨w.heap.size, 0, none⟩), .pointer (some ⟨W.heap.size, 0, none⟩)] W' (Num .i64 (cA a b c d 0) W') by
    rw [← e0]
    exact sumAtI (TZ.keep hb) la lb.2 lc ld.2 0 0 0 (by omega) (by omega) dd0.1 dd0.2)
  have BH := Lib.hid fun W' (hb : Below Z.heap.size Z W') => (show Calls Try.prog 58 #[.agg #[.int .i64 0, .int .i64 0, .int .i64 0], .int .i64 (cA a b c d 0), .pointer (some ⟨w.heap.size, 0, none⟩), .pointer (some ⟨W.heap.size, 0, none⟩)] W' (St3 (cA a b c d 0) (plc a b 1) (plc c d 1) W') by
    rw [← e1, ← e2]
    exact behind2I (TZ.keep hb) la lb.2 lc ld.2 0 (cA a b c d 0) 0 0 (by omega) (by omega))
  have kp : ∀ W', Below Z.heap.size Z W' → Below Z.heap.size Z W' ∧ W'.cell? ⟨W2.heap.size, 0, none⟩ = some (.func (.func 56) #[] #[.pointer (some ⟨w.heap.size, 0, none⟩), .pointer (some ⟨W.heap.size, 0, none⟩)]) ∧ W'.cell? ⟨W2.heap.size + 1, 0, none⟩ = some (.func (.func 58) #[] #[.pointer (some ⟨w.heap.size, 0, none⟩), .pointer (some ⟨W.heap.size, 0, none⟩)]) := fun W' hb => ⟨hb, (cell1 (CL.keep hb).f1).1, (cell1 (CL.keep hb).f2).1⟩
  have K0 := kp _ (Below.refl _ _)
  obtain ⟨_, kc1, kc2⟩ := K0
  obtain ⟨m0, hm0⟩ : ∃ m0, cA a b c d 0 = m0 := ⟨_, rfl⟩
  obtain ⟨m1, hm1⟩ : ∃ m1, plc a b 1 = m1 := ⟨_, rfl⟩
  obtain ⟨m2, hm2⟩ : ∃ m2, plc c d 1 = m2 := ⟨_, rfl⟩
  rw [hm0] at SM BH
  rw [hm1, hm2] at BH
  have HM0 := Lib.hid hm0
  have HM1 := Lib.hid hm1
  have HM2 := Lib.hid hm2
  have CLH := Lib.hid CL
  have TZH := Lib.hid TZ
  have B3H := Lib.hid b3
  have kpH := Lib.hid kp
  clear e0 e1 e2 pl0 pl1 dd0 hm0 hm1 hm2 CL TZ g1 g2 bz bZ bZ1 kp zz1 q0 q1 p0 p1 b2 b3 zZ
  go_upto_region 5 with (fail)
  go_cut [8] (fun s wx => First a b c d Z wx s)
  case first =>
   go_region_held3 (fun w' => Below Z.heap.size Z w' ∧ w'.cell? ⟨W2.heap.size, 0, none⟩ = some (.func (.func 56) #[] #[.pointer (some ⟨w.heap.size, 0, none⟩), .pointer (some ⟨W.heap.size, 0, none⟩)]) ∧ w'.cell? ⟨W2.heap.size + 1, 0, none⟩ = some (.func (.func 58) #[] #[.pointer (some ⟨w.heap.size, 0, none⟩), .pointer (some ⟨W.heap.size, 0, none⟩)]))
     (first | exact kpH.out _ g5 | exact kpH.out _ g4 | exact kpH.out _ (g5.alloc g5.size _) | exact kpH.out _ (g5.trans (B6 _ (by omega))) | exact kpH.out _ (Below.refl _ _).drew | exact kpH.out _ (Below.alloc (And.left (by assumption)) (Below.size (And.left (by assumption))) _) | exact kpH.out _ (Below.alloc (Below.refl _ _) (Nat.le_refl _) _).drew | exact kpH.out _ (Below.setCell (Below.setCell (Below.setCell (And.left (by assumption)) (by first | omega | (simp; omega)) _) (by first | omega | (simp; omega)) _) (by first | omega | (simp; omega)) _))
     (first
       | (go_at_call 56; refine (SM.out _ (And.left (by assumption))).mono ?_; rintro e W4 ⟨rfl, g4⟩; have g4' := g4; have g4 := Below.trans (And.left (by assumption)) (g4.mono (Below.size (And.left (by assumption)))); have z4 := g4.size)
       | (go_at_call 58; refine (BH.out _ (And.left (by assumption))).mono ?_; rintro e W5 ⟨rfl, g5⟩; have g5' := g5; have g5 := Below.trans (And.left (by assumption)) (g5.mono (Below.size (And.left (by assumption)))); have z5 := g5.size; first | (have ys : W5.heap[Z.heap.size]? = some (.cells #[.int .i64 0, .int .i64 0, .int .i64 0] (84 : Nat) (0, 0)) := (by with_reducible exact at_keep (at_keep (at_drew (at_new rfl)) g4') g5'); have o0 := cellsOf3 ys; obtain ⟨o0, o1, o2, f0, f1, f2⟩ := o0; obtain ⟨W6, hW6, h6, r6, z6, B6⟩ := stored3 ys (.int .i64 m0) (.int .i64 m1) (.int .i64 m2)) | (have ys : W5.heap[W4.heap.size]? = some (.cells #[.int .i64 0, .int .i64 0, .int .i64 0] (84 : Nat) (0, 0)) := (by with_reducible exact at_keep (at_new rfl) g5'); have o0 := cellsOf3 ys; obtain ⟨o0, o1, o2, f0, f1, f2⟩ := o0; obtain ⟨W6, hW6, h6, r6, z6, B6⟩ := stored3 ys (.int .i64 m0) (.int .i64 m1) (.int .i64 m2)) | skip))
   all_goals
     first
       | (try rw [hW6]
          go_wp2_with fail
          go_meet
          exact ⟨⟨_, rfl, by rw [HM0.out, HM1.out, HM2.out]; exact h6⟩, g5.trans (B6 _ (by omega))⟩)
       | (go_wp2_with fail
          go_meet
          exact ⟨⟨_, rfl, by rw [HM0.out, HM1.out, HM2.out]; exact at_new rfl⟩, g5.alloc g5.size _⟩)
  case rest =>
  obtain ⟨⟨n8, rfl, h8⟩, b9⟩ := hcut
  have SF := streamFromA (TZH.out.keep b9) (CLH.out.keep b9) HD.out la lb lc ld
  have bw : Below U.heap.size U wc := B3H.out.trans (b9.mono B3H.out.size)
  have HBW := Lib.hid (bU.trans (bw.mono bU.size))
  have HRW := Lib.hid (RR.out _ bw)
  have HZ := Lib.hid (show w.heap.size ≤ V.heap.size by omega)
  have hY := HY.out
  have hN := HN.out
  have hk := dn_le (X ++ Y) p X.length
  have hl := HR.out.len
  have nS : ∀ W' v0 v1, IsL .i8 W' X v0 → IsL .i8 W' Y v1 → Nn v0 → Nn v1 → _ := fun W' v0 v1 => normalI X Y (by omega) (by omega) (by omega) p HP.out W' v0 v1
  have hpb := HP.out.2.1
  have hlen : (X ++ Y).length = X.length + Y.length := List.length_append
  have E1 := Lib.hid (show ((X ++ Y).take (dn (X ++ Y) p X.length)).length = dn (X ++ Y) p X.length by rw [List.length_take]; omega)
  have E2 := Lib.hid (show (((X ++ Y).drop (dn (X ++ Y) p X.length)).take p).length = p by rw [List.length_take, List.length_drop]; omega)
  have K1 := Lib.hid (show dn (X ++ Y) p X.length ≤ 10000 ∧ p ≤ 10000 by omega)
  obtain ⟨k, hkk⟩ : ∃ k, dn (X ++ Y) p X.length = k := ⟨_, rfl⟩
  rw [hkk] at E1 E2 hY hN K1
  simp only [hkk] at nS
  obtain ⟨X2, hX2⟩ : ∃ l, (X ++ Y).take k = l := ⟨_, rfl⟩
  obtain ⟨Y2, hY2⟩ : ∃ l, ((X ++ Y).drop k).take p = l := ⟨_, rfl⟩
  simp only [hX2, hY2] at nS
  rw [hX2] at E1 hY hN
  rw [hY2] at E2 hY hN
  have NS := Lib.hid nS
  have hYH := Lib.hid hY
  have hNH := Lib.hid hN
  have hc8 := cellsOf3 h8
  obtain ⟨c80, c81, c82, _, _, _⟩ := hc8
  clear h8 b9 bw hY hN hk hl nS hpb hlen hkk hX2 hY2 SM BH CLH TZH B3H kpH HM0 HM1 HM2 bU RR TT HY HN HP hW hV hU z1 z2 z3 kc1 kc2
  go_wp2_with (go_at_call 60; refine SF.mono ?_)
  rintro e W3 hAF
  obtain ⟨A', B', v0, v1, rel, rfl, b10, own, nn0, nn1⟩ := hAF
  obtain ⟨rfl, rfl⟩ := rel.uniq HR.out
  obtain ⟨p0, i0, rfl⟩ := own.o0.is.pform nn0
  obtain ⟨p1, i1, rfl⟩ := own.o1.is.pform nn1
  obtain ⟨V1, hV1, bV1, xa⟩ := boxK W3 (.slice (some p0) A'.length i0) (.slice (some p1) B'.length i1) 26
  have own1 := own.keep bV1
  have ns := NS.out V1 _ _ own1.o0.is own1.o1.is nn0 nn1
  have ltR := (show Bk wc V.heap.size _ _ _ from HRW.out).lt
  have b13 := b10.trans (bV1.mono b10.size)
  have HR1 := Lib.hid ((show Bk wc V.heap.size _ _ _ from HRW.out).keep b13)
  have HB1 := Lib.hid ((show Below w.heap.size w wc from HBW.out).trans (b13.mono HBW.out.size))
  have HL1 := Lib.hid (show V.heap.size < W3.heap.size from Nat.lt_of_lt_of_le ltR b10.size)
  have HL2 := Lib.hid (show W3.heap.size < V1.heap.size by rw [← hV1]; simp)
  have q0 := xa.c0
  have q1 := xa.c1
  have f0 := xa.f 0
  have f1 := xa.f 1
  have HXA := Lib.hid xa
  clear SF HBW HRW ltR b13 b10 bV1 xa own own1 rel nn0 nn1 NS HD la lb lc ld HR
  go_wp2_with (go_at_call 41; refine ns.mono ?_)
  rintro e W5 ⟨bb, rfl, b11, o11⟩
  have xa5 := (show Bk V1 W3.heap.size _ _ _ from HXA.out).keep b11
  obtain ⟨W6, hW6, xa6, _⟩ := storedK6 xa5 (.slice (some ⟨bb, 0, none⟩) k k) (.slice (some ⟨bb, k, none⟩) p p)
  obtain ⟨W6', hW6', e0, e1, r6, B6⟩ := stored xa5 (.slice (some ⟨bb, 0, none⟩) k k) (.slice (some ⟨bb, k, none⟩) p p)
  obtain rfl : W6 = W6' := hW6.symm.trans hW6'
  clear hW6'
  have HX6 := Lib.hid xa6
  have q0 := xa5.c0
  have q1 := xa5.c1
  have f0 := xa5.f 0
  have f1 := xa5.f 1
  have o12 : Own2 .i8 V1.heap.size W6 X2 Y2 (.slice (some ⟨bb, 0, none⟩) k k) (.slice (some ⟨bb, k, none⟩) p p) := ⟨o11.o0.rest HL2.out r6, o11.o1.rest HL2.out r6, o11.apart⟩
  have HR6 := Lib.hid (show Bk W6 V.heap.size (.slice none 0 0) (.slice none 0 0) 26 from (r6 _ (by have := HL1.out; omega)).trans ((show Bk V1 V.heap.size _ _ _ from HR1.out).keep b11))
  have HB6 := Lib.hid ((show Below w.heap.size w V1 from HB1.out).trans ((b11.mono HB1.out.size).trans (B6 _ (by have := HL1.out; have := HZ.out; omega))))
  have ok := vsI o12.o0.is o12.o1.is (by rw [E1.out]; have := K1.out; omega) (by rw [E2.out]; have := K1.out; omega)
  have HO := Lib.hid o12
  have a0 := e0
  have a1 := e1
  clear hV1 ns HXA xa5 xa6 o11 o12 HR1 b11 B6 r6
  cases hvv : vsB X2 Y2
  · rw [hvv] at ok
    obtain ⟨rfl, rfl, rfl⟩ := hNH.out hvv
    clear hvv
    go_wp2_with (go_at_call 37; refine ok.mono ?_)
    first | (rintro e W7 rfl b12) | (rintro e W7 ⟨rfl, b12⟩)
    have r7 := (show Bk W6 V.heap.size _ _ _ from HR6.out).keep b12
    have f0 := r7.f 0
    have f1 := r7.f 1
    have q0 := r7.c0
    have q1 := r7.c1
    have lr := r7.lt
    obtain ⟨W9, hW9, e0, e1, r9, B9⟩ := stored r7 (.slice none 0 0) (.slice none 0 0)
    clear ok
    go_wp2
    try rw [hW9]
    refine bodyPost_ret (v := .tuple #[.agg #[.slice none 0 0, .slice none 0 0], .int .i64 3]) (by simp [results, Try.results32, go_sem, e0, e1]) rfl ?_
    exact ⟨⟨_, _, _, _, rfl, OwnL.nil, OwnL.nil, fun _ _ _ _ _ _ _ _ h => by cases h⟩, ((show Below w.heap.size w W6 from HB6.out).trans (b12.mono HB6.out.size)).trans (B9 _ HZ.out)⟩
  · rw [hvv] at ok
    obtain ⟨rfl, rfl, rfl⟩ := hYH.out hvv
    clear hvv
    go_wp2_with (go_at_call 37; refine ok.mono ?_)
    first | (rintro e W7 rfl b12) | (rintro e W7 ⟨rfl, b12⟩)
    have r7 := (show Bk W6 V.heap.size _ _ _ from HR6.out).keep b12
    have f0 := r7.f 0
    have f1 := r7.f 1
    have q0 := r7.c0
    have q1 := r7.c1
    have lr := r7.lt
    obtain ⟨W9, hW9, e0, e1, r9, B9⟩ := stored r7 (.slice (some ⟨bb, 0, none⟩) k k) (.slice (some ⟨bb, k, none⟩) p p)
    have a0 : W7.cell? ⟨W3.heap.size, 0, none⟩ = some (.slice (some ⟨bb, 0, none⟩) k k) := ((show Bk W6 W3.heap.size _ _ _ from HX6.out).keep b12).c0
    have a1 : W7.cell? ⟨W3.heap.size, 1, none⟩ = some (.slice (some ⟨bb, k, none⟩) p p) := ((show Bk W6 W3.heap.size _ _ _ from HX6.out).keep b12).c1
    have o7 := HO.out.keep b12
    have HLL := HL1.out
    have HLM := HL2.out
    clear ok
    go_wp2
    try rw [hW9]
    refine bodyPost_ret (v := .tuple #[.agg #[.slice (some ⟨bb, 0, none⟩) k k, .slice (some ⟨bb, k, none⟩) p p], .int .i64 0]) (by simp [results, Try.results32, go_sem, e0, e1]) rfl ?_
    refine ⟨⟨_, _, _, _, by rw [E1.out, E2.out], ?_⟩, ((show Below w.heap.size w W6 from HB6.out).trans (b12.mono HB6.out.size)).trans (B9 _ HZ.out)⟩
    rw [E1.out, E2.out]
    have z9 := HB1.out.size
    exact ⟨(o7.o0.rest (by omega) r9).mono z9, (o7.o1.rest (by omega) r9).mono z9, o7.apart⟩
end Go.Proofs.Ytlkbnpgembgdfaa.Sx
