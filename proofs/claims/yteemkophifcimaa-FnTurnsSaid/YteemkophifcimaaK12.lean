/-
  Machines, by the code: the run.
-/
import Derived.Test.YteemkophifcimaaK11
import Derived.ScopeJumps
import Derived.WalkMore
import Derived.WalkSpells
namespace Go.Proofs.Yteemkophifcimaa.Sx
open Go Go.RowKit
set_option linter.unusedVariables false
set_option linter.unusedSimpArgs false

theorem Tk.under {w w' : World} {ns nt np m : Nat} {a b : List Int} {v0 v1 : Value} {k : Nat} (h : Tk w ns nt np a b v0 v1 k) (hB : Below m w w') (h0 : ns < m) (h1 : nt < m) (h2 : np < m) (l0 : ∀ q, v0.ownBlock = some q → q < m) (l1 : ∀ q, v1.ownBlock = some q → q < m) : Tk w' ns nt np a b v0 v1 k :=
  ⟨⟨(hB.block _ h0).trans h.here.bk, isL_rest h.here.i0 l0 hB, isL_rest h.here.i1 l1 hB⟩, (hB.block _ h1).trans h.tk, (hB.block _ h2).trans h.pl, h.d0, h.d1, h.d2⟩
theorem row_took {w w' : World} {nt np B n s : Nat} {e : TypeId} {v : Value} {xs : List Value} (h : w.ownsRow B e s v n xs) (o : Took w w' nt np) (h1 : nt < B) (h2 : np < B) : w'.ownsRow B e s v n xs := by
  obtain ⟨k1, k2 | ⟨g, cap, cur, k2, k3, k4, k5⟩⟩ := h
  · exact ⟨k1, .inl k2⟩
  · exact ⟨k1, .inr ⟨g, cap, cur, k2, k3, (o.rest g (heap_lt k4) (by omega) (by omega)).trans k4, k5⟩⟩
/-- A row of turns and a code are given, by a run that takes digits. -/
structure GaveM (m : Nat) (w w' : World) (xs : List Value) (n : Nat) (c : Int) (e : Ending) : Prop where
  mk ::
  here : ∃ s k, e = .returned (.tuple #[.slice s n k, .int .i64 c]) ∧ w'.ownsRow w.heap.size 60 6 (.slice s n k) n xs
  below : Below m w w'
theorem wp_scope_from {P : Program} {a : Act} {w : World} {Q : Exit → Act → World → Prop} {pre X : Code} (l : Nat) (J : Act → World → Prop) (μ : Act → World → Nat) (hf : findLabel (pre.seq ((Code.label l).seq X)) l = some (Code.skip.seq X))
    (first : pre.wp P (Exit.then J (Exit.jump l J Q)) a w) (pass : ∀ a w, J a w → X.wp P (Exit.jump l (fun a' w' => J a' w' ∧ μ a' w' < μ a w) Q) a w) : (Code.scope (pre.seq ((Code.label l).seq X))).wp P Q a w := by
  refine wp_scope_jumps l J μ hf ?_ (fun a w h => wp_seq (wp_skip (pass a w h)))
  refine wp_seq (wp_mono first ?_)
  intro e a w h
  cases e with
  | normal =>
    refine wp_seq (wp_label (wp_mono (pass a w h) ?_))
    intro e a w h
    cases e with
    | goto l' => exact ⟨h.1, h.2.1⟩
    | normal => exact h
    | exit id => exact h
    | ret => exact h
    | panic ch => exact h
    | outgrown => exact h
  | goto l' => exact h
  | exit id => exact h
  | ret => exact h
  | panic ch => exact h
  | outgrown => exact h
/-- What holds at the label. -/
structure JR (w : World) (nb ns nt np m J n : Nat) (a b : List Int) (m0 : Mo) (v0 v1 : Value) (N : Int) (k t q : Nat) (P Q R S : Int) (out : Value) (w' : World) : Prop where
  mk ::
  hk : k ≤ J
  hN : N = (n : Int) - t
  st : runM a b m0 k = ⟨⟨P, Q, R, S⟩, t, q⟩
  row : w'.ownsRow w.heap.size 60 6 out k (trL a b m0 k)
  bm : BM w' nb P Q R S
  tk : Tk w' ns nt np a b v0 v1 q
  bl : Below m w w'
  sz : nb < w'.heap.size
def muR (nt : Nat) (a' : Act) (w' : World) : Nat := (RowKit.intOf (a'.tmps.getD 1 undef)).toNat + (400 - (RowKit.intOf ((w'.cell? ⟨nt, 0, none⟩).getD undef)).toNat)
set_option maxRecDepth 1000000 in
set_option maxHeartbeats 16000000 in
theorem runI {w : World} {ns nt np m n : Nat} {A0 B0 C0 D0 : Int} {a b : List Int} {v0 v1 : Value} {m0 : Mo} {J L : Nat} {c : Int} (hr : red m0 = ⟨A0, B0, C0, D0⟩) (tk : Tk w ns nt np a b v0 v1 0) (hm : m ≤ nt ∧ m ≤ np) (l0 : ∀ q, v0.ownBlock = some q → q < m) (l1 : ∀ q, v1.ownBlock = some q → q < m) (hp : posM m0) (h0 : okM A0 B0 C0 D0)
    (la : a.length ≤ 16) (lb : 1 ≤ b.length ∧ b.length ≤ 14) (hd : ∀ n, -1 ≤ dg a b n ∧ dg a b n ≤ 1) (hn : n ≤ 60) (hSt : ∀ i, i < J → OkAt a b m0 n i) (hJ : J ≤ n + 400) (hE : EndM a b m0 n J L c) :
    Calls Try.prog 56 #[.agg #[.int .i64 A0, .int .i64 B0, .int .i64 C0, .int .i64 D0], .int .i64 n, .func (.func 83) #[] #[.pointer (some ⟨nt, 0, none⟩), .pointer (some ⟨ns, 0, none⟩), .pointer (some ⟨np, 0, none⟩)]] w fun e w' => GaveM m w w' (trL a b m0 L) L c e := by
  obtain ⟨W, hW, bW, x0⟩ := boxM w A0 B0 C0 D0
  have HNT := Lib.hid (show nt < w.heap.size ∧ np < w.heap.size ∧ ns < w.heap.size from ⟨heap_lt tk.tk, heap_lt tk.pl, heap_lt tk.here.bk⟩)
  have HMW := Lib.hid (show m ≤ w.heap.size from Nat.le_trans hm.1 (Nat.le_of_lt (heap_lt tk.tk)))
  have ST0 := Lib.hid (show JR w w.heap.size ns nt np m J n a b m0 v0 v1 n 0 0 0 A0 B0 C0 D0 (.slice none 0 0) W from ⟨Nat.zero_le _, by omega, by show St.mk (red m0) 0 0 = _; rw [hr], World.ownsRow_nil _ _ _ _, x0, tk.keep bW, bW.mono HMW.out, x0.lt⟩)
  have HST := Lib.hid hSt
  have HE := Lib.hid hE
  have HD := Lib.hid hd
  have HL0 := Lib.hid (show ∀ q, v0.ownBlock = some q → q < w.heap.size from fun q h => Nat.lt_of_lt_of_le (l0 q h) HMW.out)
  have HL1 := Lib.hid (show ∀ q, v1.ownBlock = some q → q < w.heap.size from fun q h => Nat.lt_of_lt_of_le (l1 q h) HMW.out)
  have HM0 := Lib.hid l0
  have HM1 := Lib.hid l1
  have HM := Lib.hid hm
  have HPOS := Lib.hid (runM_pos (a := a) (b := b) hp hd)
  have HO := Lib.hid (show okM (red m0).A (red m0).B (red m0).C (red m0).D from by rw [hr]; exact h0)
  clear tk x0 bW hSt hE hd l0 l1 hp h0 hm
  go_enter Try.func56, Try.ntmps56
  go_wp2
  refine wp_scope_from 0 (fun a' w' => ∃ (N : Int) (k t q : Nat) (P Q R S : Int) (out u9 u10 u11 u12 u13 u14 u15 u16 u17 u18 u19 u20 u21 u22 u23 u24 u25 u26 u27 u28 u29 u30 u31 u32 u33 u34 u35 u36 u37 u38 u39 u40 u41 u42 u43 u44 u45 u46 u47 u48 : Value), a' = { tmps := #[.agg #[.int .i64 A0, .int .i64 B0, .int .i64 C0, .int .i64 D0], .int .i64 N, .func (.func 83) #[] #[.pointer (some ⟨nt, 0, none⟩), .pointer (some ⟨ns, 0, none⟩), .pointer (some ⟨np, 0, none⟩)], .pointer (some ⟨w.heap.size, 0, none⟩), undef, undef, .slice none 0 0, .int .i64 0, out, u9, u10, u11, u12, u13, u14, u15, u16, u17, u18, u19, u20, u21, u22, u23, u24, u25, u26, u27, u28, u29, u30, u31, u32, u33, u34, u35, u36, u37, u38, u39, u40, u41, u42, u43, u44, u45, u46, u47, u48], defers := [] } ∧ JR w w.heap.size ns nt np m J n a b m0 v0 v1 N k t q P Q R S out w') (muR nt) rfl ?_ ?_
  · go_wp2
    exact ⟨n, 0, 0, 0, A0, B0, C0, D0, .slice none 0 0, _, _, _, _, _, _, _, _, _, _, _, _, _, _, _, _, _, _, _, _, _, _, _, _, _, _, _, _, _, _, _, _, _, _, _, _, _, _, _, _, rfl, ST0.out⟩
  · clear ST0 hW
    rintro a' wr ⟨N, k, t, q, P, Q, R, S, out, u9, u10, u11, u12, u13, u14, u15, u16, u17, u18, u19, u20, u21, u22, u23, u24, u25, u26, u27, u28, u29, u30, u31, u32, u33, u34, u35, u36, u37, u38, u39, u40, u41, u42, u43, u44, u45, u46, u47, u48, rfl, hJR⟩
    obtain ⟨hk, hN, hst, hrow, hx, htk, hbl, hsz⟩ := hJR
    obtain ⟨so, co, rfl⟩ := own_formN hrow
    have bds := runM_bd (a := a) (b := b) (m0 := m0) (n := n) (j := k) fun i hi => HST.out i (by omega)
    rw [hst] at bds
    simp only at bds
    obtain ⟨bt, bq, bk⟩ := bds
    have ok := run_ok (a := a) (b := b) (m0 := m0) (n := n) HO.out (j := k) fun i hi => HST.out i (by omega)
    rw [hst] at ok
    simp only at ok
    have pos := HPOS.out k
    rw [hst] at pos
    simp only at pos
    have HS0 := Lib.hid hst
    have HN := Lib.hid hN
    have MU : Hid (muR nt { tmps := #[.agg #[.int .i64 A0, .int .i64 B0, .int .i64 C0, .int .i64 D0], .int .i64 N, .func (.func 83) #[] #[.pointer (some ⟨nt, 0, none⟩), .pointer (some ⟨ns, 0, none⟩), .pointer (some ⟨np, 0, none⟩)], .pointer (some ⟨w.heap.size, 0, none⟩), undef, undef, .slice none 0 0, .int .i64 0, (.slice so k co), u9, u10, u11, u12, u13, u14, u15, u16, u17, u18, u19, u20, u21, u22, u23, u24, u25, u26, u27, u28, u29, u30, u31, u32, u33, u34, u35, u36, u37, u38, u39, u40, u41, u42, u43, u44, u45, u46, u47, u48], defers := [] } wr = n - t + (400 - q)) := by
      show _ = _
      unfold muR
      rw [Lib.cell_of_heap htk.tk]
      simp [RowKit.intOf, hN] <;> omega
    obtain ⟨μ0, hμ⟩ : ∃ x, muR nt { tmps := #[.agg #[.int .i64 A0, .int .i64 B0, .int .i64 C0, .int .i64 D0], .int .i64 N, .func (.func 83) #[] #[.pointer (some ⟨nt, 0, none⟩), .pointer (some ⟨ns, 0, none⟩), .pointer (some ⟨np, 0, none⟩)], .pointer (some ⟨w.heap.size, 0, none⟩), undef, undef, .slice none 0 0, .int .i64 0, (.slice so k co), u9, u10, u11, u12, u13, u14, u15, u16, u17, u18, u19, u20, u21, u22, u23, u24, u25, u26, u27, u28, u29, u30, u31, u32, u33, u34, u35, u36, u37, u38, u39, u40, u41, u42, u43, u44, u45, u46, u47, u48], defers := [] } wr = x := ⟨_, rfl⟩
    have MU0 := Lib.hid (show μ0 = n - t + (400 - q) from by rw [← hμ]; exact MU.out)
    rw [hμ]
    clear hst MU hμ hN
    by_cases htn : t < n
    · have nb0 : (N == 0) = false := by rw [beq_eq_false_iff_ne]; have := HN.out; omega
      obtain ⟨V1, hV1, bV1, t1⟩ := boxN wr #[.bool false, .int .i8 0, .int .i64 0, .int .i64 0, .int .i64 0, .int .i64 0] 60
      have t1 : T6 V1 wr.heap.size _ _ _ _ _ _ := t1
      obtain ⟨V2, hV2, t2, ov⟩ := t1.all (.bool false) (.int .i8 0) (.int .i64 0) (.int .i64 0) (.int .i64 0) (.int .i64 0)
      have bb2 := bV1.trans (ov.bel _ (Nat.le_refl _))
      have x2 := hx.keep bb2
      have HTK2 := Lib.hid (htk.keep bb2)
      have row2 := row_underN (k := 0) hrow bb2
      have HWZ := Lib.hid (show w.heap.size < wr.heap.size from hsz)
      have bw2 := hbl.trans (bb2.mono (by have := HMW.out; have := HWZ.out; omega))
      have NT := Lib.hid (show w.heap.size ≠ wr.heap.size from by have := HWZ.out; omega)
      have NR := Lib.hid (show ∀ (W' : World), ∀ (h : W'.ownsRow w.heap.size 60 6 (.slice so k co) k (trL a b m0 k)), (Value.slice so k co).ownBlock ≠ some wr.heap.size from fun W' h e => by have := (hrow.lt _ e).2; omega)
      obtain ⟨i0, i1, i2, i3, i4, i5⟩ := t1.c
      have j0 := t1.f 0
      have j1 := t1.f 1
      have j2 := t1.f 2
      have j3 := t1.f 3
      have j4 := t1.f 4
      have j5 := t1.f 5
      have dg0 := digitI P Q R S V2 ok
      have hbd := digM_bd ⟨P, Q, R, S⟩
      obtain ⟨E, hEd⟩ : ∃ E, digM ⟨P, Q, R, S⟩ = E := ⟨_, rfl⟩
      rw [hEd] at dg0 hbd
      obtain ⟨hs, hhs⟩ : ∃ x, hasM ⟨P, Q, R, S⟩ = x := ⟨_, rfl⟩
      rw [hhs] at dg0
      have HH := Lib.hid hhs
      have HED := Lib.hid hEd
      have HOK := Lib.hid ok
      have HX2 := Lib.hid x2
      have HT2 := Lib.hid t2
      have HR2 := Lib.hid row2
      have HB2 := Lib.hid bw2
      obtain ⟨c0, c1, c2, c3⟩ := x2.c
      clear bV1 ov t1 hx htk hrow hbl hsz bb2 x2 t2 row2 bw2 hhs hEd ok
      cases hs
      · simp only [if_neg (show ¬ (false = true) by simp)] at dg0
        go_wp2_with (go_at_call 80; refine dg0.mono ?_)
        first | (rintro e W2 ⟨rfl, b2⟩; have zz := b2.size) | (rintro e W2 rfl b2; have zz := b2.size)
        try dsimp only
        have x2 := HX2.out.keep b2
        have t2 := HT2.out.keep b2
        have row2 := row_underN (k := 0) HR2.out b2
        have tk2 := HTK2.out.keep b2
        have bw2 := HB2.out.trans (b2.mono (Nat.le_trans HMW.out HB2.out.size))
        have HTK := Lib.hid (show runM a b m0 (k + 1) = ⟨red (nxK ⟨P, Q, R, S⟩ (dg a b q)), t, q + 1⟩ from by
          show stp a b (runM a b m0 k) = _
          rw [HS0.out]; unfold stp; rw [if_neg (by simp [HH.out])])
        clear dg0 c0 c1 c2 c3 HX2 HT2 HR2 HTK2 HB2 b2 zz
        by_cases hq4 : q = 400
        · have hend : k = J := by
            rcases Nat.lt_or_eq_of_le hk with h3 | h3
            · have h4 := (HST.out k h3).k
              rw [HS0.out] at h4
              rcases h4 with h4 | h4
              · rw [HH.out] at h4; cases h4
              · simp only at h4; omega
            · exact h3
          subst hend
          obtain ⟨rfl, rfl⟩ := HE.out.at_budget (by rw [HS0.out]; exact htn) (by rw [HS0.out]; exact HH.out) (by rw [HS0.out]; exact hq4)
          subst hq4
          have tn := takeI_no tk2
          have BW := Lib.hid bw2
          clear x2 t2 row2 tk2 bw2
          go_wp2_with (go_at_call 83; refine tn.mono ?_)
          first | (rintro e W3 rfl hs) | (rintro e W3 ⟨rfl, hs⟩)
          try dsimp only
          obtain rfl := hs.out
          clear hs tn
          go_wp2
          try simp only [Exit.jump]
          refine bodyPost_ret (v := .tuple #[.slice none 0 0, .int .i64 7]) (by simp [results, Try.results56, go_sem]) rfl ?_
          exact ⟨⟨_, _, rfl, World.ownsRow_nil _ _ _ _⟩, BW.out⟩
        · have hq4' : q < 400 := by omega
          have ty := takeI_yes tk2 hq4' la lb HM.out HM0.out HM1.out
          obtain ⟨d, hdd⟩ : ∃ d, dg a b q = d := ⟨_, rfl⟩
          have hdb := HD.out q
          rw [hdd] at ty hdb HTK
          have HTD := Lib.hid (show tdM a b m0 k = d from by unfold tdM; rw [HS0.out]; rw [if_neg (by simp [HH.out])]; exact hdd)
          have X2 := Lib.hid x2
          have T2 := Lib.hid t2
          have R2 := Lib.hid row2
          have B2 := Lib.hid bw2
          clear x2 t2 row2 tk2 bw2 hdd
          go_wp2_with (go_at_call 83; refine ty.mono ?_)
          first | (rintro e W3 ⟨rfl, tk3, to3⟩; have zz := to3.rest) | (rintro e W3 rfl tk3 to3; have zz := to3.rest)
          try dsimp only
          have z3 := (to3.bel m HM.out.1 HM.out.2 (Nat.le_trans HMW.out B2.out.size)).size
          have x3 : BM W3 w.heap.size P Q R S := (zz _ X2.out.lt (by have := HNT.out.1; omega) (by have := HNT.out.2.1; omega)).trans X2.out
          have t3 : T6 W3 wr.heap.size _ _ _ _ _ _ := (zz _ T2.out.lt (by have := HNT.out.1; have := HWZ.out; omega) (by have := HNT.out.2.1; have := HWZ.out; omega)).trans T2.out
          have row3 := row_took R2.out to3 HNT.out.1 HNT.out.2.1
          have bw3 := B2.out.trans (to3.bel m HM.out.1 HM.out.2 (Nat.le_trans HMW.out B2.out.size))
          have tkn := takenI P Q R S d W3 pos HOK.out hdb
          obtain ⟨A', B', C', D', hred⟩ : ∃ A' B' C' D', red (nxK ⟨P, Q, R, S⟩ d) = ⟨A', B', C', D'⟩ := ⟨_, _, _, _, rfl⟩
          rw [hred] at tkn
          simp only at tkn
          have HS1 := Lib.hid (show runM a b m0 (k + 1) = ⟨⟨A', B', C', D'⟩, t, q + 1⟩ from by rw [HTK.out, hred])
          obtain ⟨c0, c1, c2, c3⟩ := x3.c
          have X3 := Lib.hid x3
          have T3 := Lib.hid t3
          have R3 := Lib.hid row3
          have B3 := Lib.hid bw3
          have K3 := Lib.hid tk3
          clear x3 t3 row3 bw3 tk3 to3 zz z3 ty X2 T2 R2 B2 HTK hred
          go_wp2_with (go_at_call 82; refine tkn.mono ?_)
          first | (rintro e W5 ⟨rfl, b5⟩; have zz := b5.size) | (rintro e W5 rfl b5; have zz := b5.size)
          try dsimp only
          have t5 := T3.out.keep b5
          have x5 := X3.out.keep b5
          have row5 := row_underN (k := 0) R3.out b5
          have tk5 := K3.out.keep b5
          have bw5 := B3.out.trans (b5.mono (Nat.le_trans HMW.out B3.out.size))
          obtain ⟨W4, hW4, t4, o4⟩ := t5.all (.bool false) (.int .i8 d) (.int .i64 A') (.int .i64 B') (.int .i64 C') (.int .i64 D')
          have x4 := x5.only o4 NT.out
          have row4 := row_only row5 o4 (NR.out _ row5)
          have lt4 : Below w.heap.size W5 W4 := o4.bel _ (Nat.le_of_lt HWZ.out)
          have tk4 := tk5.under lt4 HNT.out.2.2 HNT.out.1 HNT.out.2.1 HL0.out HL1.out
          have bw4 := bw5.trans (lt4.mono HMW.out)
          obtain ⟨r0, r1, r2, r3, r4, r5⟩ := t5.c
          have s0 := t5.f 0
          have s1 := t5.f 1
          have s2 := t5.f 2
          have s3 := t5.f 3
          have s4 := t5.f 4
          have s5 := t5.f 5
          clear t5 x5 row5 tk5 bw5 o4 lt4 tkn b5 zz X3 T3 R3 B3 K3 c0 c1 c2 c3
          have wi := withinM A' B' C' D' 288230376151711744 W4 (by omega) (by omega)
          obtain ⟨ft, hft⟩ : ∃ p, fitM 288230376151711744 ⟨A', B', C', D'⟩ = p := ⟨_, rfl⟩
          rw [hft] at wi
          have HFT := Lib.hid hft
          have HX4 := Lib.hid x4
          have HT4 := Lib.hid t4
          have HR4 := Lib.hid row4
          have HK4 := Lib.hid tk4
          have HB4 := Lib.hid bw4
          obtain ⟨g0, g1, g2, g3, g4, g5⟩ := t4.c
          clear x4 t4 row4 tk4 bw4 hft
          go_wp2_with (go_at_call 77; refine wi.mono ?_)
          first | (rintro e W7 ⟨rfl, b7⟩; have zz := b7.size) | (rintro e W7 rfl b7; have zz := b7.size)
          try dsimp only
          have x7 := HX4.out.keep b7
          have t7 := HT4.out.keep b7
          have row7 := row_underN (k := 0) HR4.out b7
          have tk7 := HK4.out.keep b7
          have bw7 := HB4.out.trans (b7.mono (Nat.le_trans HMW.out HB4.out.size))
          clear wi g0 g1 g2 g3 g4 g5 b7 HX4 HT4 HR4 HK4 HB4 zz hV1 hV2 i0 i1 i2 i3 i4 i5 j0 j1 j2 j3 j4 j5
          cases ft
          · have hend : k = J := by
              rcases Nat.lt_or_eq_of_le hk with h3 | h3
              · have h4 := (HST.out k h3).f
                rw [HS1.out] at h4
                rw [HFT.out] at h4
                cases h4
              · exact h3
            subst hend
            obtain ⟨rfl, rfl⟩ := HE.out.at_limit (by rw [HS0.out]; exact htn) (by rw [HS0.out]; exact .inr hq4') (by rw [HS1.out]; exact HFT.out)
            have BW := Lib.hid bw7
            clear x7 t7 row7 tk7 bw7
            go_wp2
            try simp only [Exit.jump]
            refine bodyPost_ret (v := .tuple #[.slice none 0 0, .int .i64 3]) (by simp [results, Try.results56, go_sem]) rfl ?_
            exact ⟨⟨_, _, rfl, World.ownsRow_nil _ _ _ _⟩, BW.out⟩
          · have hlt := HE.out.goes hk (by rw [HS0.out]; exact htn) (by rw [HS0.out]; exact .inr hq4') (by rw [HS1.out]; exact HFT.out)
            obtain ⟨q0, q1, q2, q3, q4, q5⟩ := t7.c
            obtain ⟨XS, hXS⟩ : ∃ X, trL a b m0 k = X := ⟨_, rfl⟩
            have HR7 := Lib.hid row7
            rw [hXS] at row7
            have HXS := Lib.hid hXS
            have HX7 := Lib.hid x7
            have HT7 := Lib.hid t7
            have HK7 := Lib.hid tk7
            have HB7 := Lib.hid bw7
            obtain ⟨i6, ha, ha0, ha1, ha2⟩ := info_parts infoTurn
            have zb : w.heap.size ≤ W7.heap.size := bw7.size
            clear x7 t7 tk7 bw7 hXS
            go_wp2_with (at_builtin; refine wpList_append_own _ rfl _ _ 41 rfl w.heap.size 60 i6 (.agg #[.bool false, .int .i8 0, .int .i64 0, .int .i64 0, .int .i64 0, .int .i64 0]) 6 40 Try.underlying41 ha ha0 ha1 ha2 rfl (by decide) _ _ _ rfl (row7.alloc _) ⟨W7.heap.size, 0, none⟩ 1 1 [.bool false, .int .i8 d, .int .i64 A', .int .i64 B', .int .i64 C', .int .i64 D'] rfl rfl ?r1 ?r2 ?r3 ?r4 ?r5 ?_)
            try (case r1 => exact newN _ _ _)
            case r2 => simp [Value.oneCell']
            case r3 => unfold maxLen; omega
            case r4 => omega
            case r5 => first | omega | (simp; omega)
            intro v' w9 hown9 hgrow _
            have hgrow : (W7.alloc (.cells #[.bool false, .int .i8 d, .int .i64 A', .int .i64 B', .int .i64 C', .int .i64 D'] 60)).grownBy w9 (Value.slice so k co).ownBlock := hgrow
            have lowB : Below w.heap.size W7 w9 := ((Below.refl _ _).alloc zb _).grown hgrow (by simp; omega) fun m hm => (row7.lt m hm).1
            have bb9 := HB7.out.trans (lowB.mono HMW.out)
            have x9 : BM w9 w.heap.size P Q R S := (hgrow.block _ (by have := HX7.out.lt; simp; omega) (fun e => row_neM HR7.out HX7.out e.symm)).trans ((Below.heap_alloc _ _ _ HX7.out.lt).trans HX7.out)
            have t9 : T6 w9 wr.heap.size _ _ _ _ _ _ := (hgrow.block _ (by have := HT7.out.lt; simp; omega) (fun e => NR.out _ HR7.out e.symm)).trans ((Below.heap_alloc _ _ _ HT7.out.lt).trans HT7.out)
            have tk9 := HK7.out.under lowB HNT.out.2.2 HNT.out.1 HNT.out.2.1 HL0.out HL1.out
            have row9 : w9.ownsRow w.heap.size 60 6 v' (k + 1) (trL a b m0 (k + 1)) := by
              show w9.ownsRow _ _ _ _ _ (trL a b m0 k ++ trC a b m0 k)
              rw [HXS.out]
              unfold trC
              have e1 := HTD.out
              have e2 : hasM (runM a b m0 k).m = false := by rw [HS0.out]; exact HH.out
              rw [e1, e2, HS1.out]
              exact hown9
            obtain ⟨W10, hW10, x10, o10⟩ := x9.store A' B' C' D'
            obtain ⟨y0, y1, y2, y3, y4, y5⟩ := t9.c
            obtain ⟨z0, z1, z2, z3⟩ := x9.c
            have f0 := x9.f 0
            have f1 := x9.f 1
            have f2 := x9.f 2
            have f3 := x9.f 3
            have bb10 := bb9.trans (o10.bel _ HMW.out)
            have tk10 := tk9.under (o10.bel _ (Nat.le_refl _)) HNT.out.2.2 HNT.out.1 HNT.out.2.1 HL0.out HL1.out
            have J10 := Lib.hid (show JR w w.heap.size ns nt np m J n a b m0 v0 v1 (N) (k + 1) (t) (q + 1) A' B' C' D' v' W10 from ⟨hlt, by have := HN.out; omega, HS1.out, row_only row9 o10 (row_neM row9 x9), x10, tk10, bb10, x10.lt⟩)
            have HK10 := Lib.hid tk10.tk
            clear hown9 hgrow lowB bb9 x9 t9 tk9 row9 x10 o10 bb10 tk10 row7 q0 q1 q2 q3 q4 q5 HX7 HT7 HK7 HB7 HR7
            go_wp2
            go_step3
            refine ⟨rfl, ⟨N, k + 1, t, q + 1, A', B', C', D', v', _, _, _, _, _, _, _, _, _, _, _, _, _, _, _, _, _, _, _, _, _, _, _, _, _, _, _, _, _, _, _, _, _, _, _, _, _, _, _, _, rfl, J10.out⟩, ?_⟩
            have hmu := MU0.out
            rw [hmu]
            unfold muR
            rw [Lib.cell_of_heap HK10.out]
            have hNN := HN.out
            simp [RowKit.intOf]
            omega
      · simp only [if_true] at dg0
        go_wp2_with (go_at_call 80; refine dg0.mono ?_)
        first | (rintro e W2 ⟨rfl, b2⟩; have zz := b2.size) | (rintro e W2 rfl b2; have zz := b2.size)
        try dsimp only
        have x2 := HX2.out.keep b2
        have t2 := HT2.out.keep b2
        have row2 := row_underN (k := 0) HR2.out b2
        have tk2 := HTK2.out.keep b2
        have bw2 := HB2.out.trans (b2.mono (Nat.le_trans HMW.out HB2.out.size))
        have HTD := Lib.hid (show tdM a b m0 k = E from by unfold tdM; rw [HS0.out]; rw [if_pos HH.out]; exact HED.out)
        have td := toldI P Q R S E W2 pos HOK.out hbd
        obtain ⟨A', B', C', D', hred⟩ : ∃ A' B' C' D', red (nxT ⟨P, Q, R, S⟩ E) = ⟨A', B', C', D'⟩ := ⟨_, _, _, _, rfl⟩
        rw [hred] at td
        simp only at td
        have HS1 := Lib.hid (show runM a b m0 (k + 1) = ⟨⟨A', B', C', D'⟩, t + 1, q⟩ from by
          show stp a b (runM a b m0 k) = _
          rw [HS0.out]; unfold stp; rw [if_pos HH.out]; simp only [HED.out, hred])
        have e1 : IntKind.i64.wrap (N - 1) = N - 1 := by have := HN.out; rw [IntKind.wrap_i64]; omega
        obtain ⟨c0, c1, c2, c3⟩ := x2.c
        have X3 := Lib.hid x2
        have T3 := Lib.hid t2
        have R3 := Lib.hid row2
        have B3 := Lib.hid bw2
        have K3 := Lib.hid tk2
        clear dg0 HX2 HT2 HR2 HTK2 HB2 b2 zz x2 t2 row2 tk2 bw2 hred
        go_wp2_with (go_at_call 81; refine td.mono ?_)
        first | (rintro e W5 ⟨rfl, b5⟩; have zz := b5.size) | (rintro e W5 rfl b5; have zz := b5.size)
        try dsimp only
        have t5 := T3.out.keep b5
        have x5 := X3.out.keep b5
        have row5 := row_underN (k := 0) R3.out b5
        have tk5 := K3.out.keep b5
        have bw5 := B3.out.trans (b5.mono (Nat.le_trans HMW.out B3.out.size))
        obtain ⟨W4, hW4, t4, o4⟩ := t5.all (.bool true) (.int .i8 E) (.int .i64 A') (.int .i64 B') (.int .i64 C') (.int .i64 D')
        have x4 := x5.only o4 NT.out
        have row4 := row_only row5 o4 (NR.out _ row5)
        have lt4 : Below w.heap.size W5 W4 := o4.bel _ (Nat.le_of_lt HWZ.out)
        have tk4 := tk5.under lt4 HNT.out.2.2 HNT.out.1 HNT.out.2.1 HL0.out HL1.out
        have bw4 := bw5.trans (lt4.mono HMW.out)
        obtain ⟨r0, r1, r2, r3, r4, r5⟩ := t5.c
        have s0 := t5.f 0
        have s1 := t5.f 1
        have s2 := t5.f 2
        have s3 := t5.f 3
        have s4 := t5.f 4
        have s5 := t5.f 5
        clear t5 x5 row5 tk5 bw5 o4 lt4 td b5 zz X3 T3 R3 B3 K3 c0 c1 c2 c3
        have wi := withinM A' B' C' D' 288230376151711744 W4 (by omega) (by omega)
        obtain ⟨ft, hft⟩ : ∃ p, fitM 288230376151711744 ⟨A', B', C', D'⟩ = p := ⟨_, rfl⟩
        rw [hft] at wi
        have HFT := Lib.hid hft
        have HX4 := Lib.hid x4
        have HT4 := Lib.hid t4
        have HR4 := Lib.hid row4
        have HK4 := Lib.hid tk4
        have HB4 := Lib.hid bw4
        obtain ⟨g0, g1, g2, g3, g4, g5⟩ := t4.c
        clear x4 t4 row4 tk4 bw4 hft
        go_wp2_with (go_at_call 77; refine wi.mono ?_)
        first | (rintro e W7 ⟨rfl, b7⟩; have zz := b7.size) | (rintro e W7 rfl b7; have zz := b7.size)
        try dsimp only
        have x7 := HX4.out.keep b7
        have t7 := HT4.out.keep b7
        have row7 := row_underN (k := 0) HR4.out b7
        have tk7 := HK4.out.keep b7
        have bw7 := HB4.out.trans (b7.mono (Nat.le_trans HMW.out HB4.out.size))
        clear wi g0 g1 g2 g3 g4 g5 b7 HX4 HT4 HR4 HK4 HB4 zz hV1 hV2 i0 i1 i2 i3 i4 i5 j0 j1 j2 j3 j4 j5
        cases ft
        · have hend : k = J := by
            rcases Nat.lt_or_eq_of_le hk with h3 | h3
            · have h4 := (HST.out k h3).f
              rw [HS1.out] at h4
              rw [HFT.out] at h4
              cases h4
            · exact h3
          subst hend
          obtain ⟨rfl, rfl⟩ := HE.out.at_limit (by rw [HS0.out]; exact htn) (by rw [HS0.out]; exact .inl HH.out) (by rw [HS1.out]; exact HFT.out)
          have BW := Lib.hid bw7
          clear x7 t7 row7 tk7 bw7
          go_wp2
          try simp only [Exit.jump]
          refine bodyPost_ret (v := .tuple #[.slice none 0 0, .int .i64 3]) (by simp [results, Try.results56, go_sem]) rfl ?_
          exact ⟨⟨_, _, rfl, World.ownsRow_nil _ _ _ _⟩, BW.out⟩
        · have hlt := HE.out.goes hk (by rw [HS0.out]; exact htn) (by rw [HS0.out]; exact .inl HH.out) (by rw [HS1.out]; exact HFT.out)
          obtain ⟨q0, q1, q2, q3, q4, q5⟩ := t7.c
          obtain ⟨XS, hXS⟩ : ∃ X, trL a b m0 k = X := ⟨_, rfl⟩
          have HR7 := Lib.hid row7
          rw [hXS] at row7
          have HXS := Lib.hid hXS
          have HX7 := Lib.hid x7
          have HT7 := Lib.hid t7
          have HK7 := Lib.hid tk7
          have HB7 := Lib.hid bw7
          obtain ⟨i6, ha, ha0, ha1, ha2⟩ := info_parts infoTurn
          have zb : w.heap.size ≤ W7.heap.size := bw7.size
          clear x7 t7 tk7 bw7 hXS
          go_wp2_with (at_builtin; refine wpList_append_own _ rfl _ _ 41 rfl w.heap.size 60 i6 (.agg #[.bool false, .int .i8 0, .int .i64 0, .int .i64 0, .int .i64 0, .int .i64 0]) 6 40 Try.underlying41 ha ha0 ha1 ha2 rfl (by decide) _ _ _ rfl (row7.alloc _) ⟨W7.heap.size, 0, none⟩ 1 1 [.bool true, .int .i8 E, .int .i64 A', .int .i64 B', .int .i64 C', .int .i64 D'] rfl rfl ?s1 ?s2 ?s3 ?s4 ?s5 ?_)
          try (case s1 => exact newN _ _ _)
          case s2 => simp [Value.oneCell']
          case s3 => unfold maxLen; omega
          case s4 => omega
          case s5 => first | omega | (simp; omega)
          intro v' w9 hown9 hgrow _
          have hgrow : (W7.alloc (.cells #[.bool true, .int .i8 E, .int .i64 A', .int .i64 B', .int .i64 C', .int .i64 D'] 60)).grownBy w9 (Value.slice so k co).ownBlock := hgrow
          have lowB : Below w.heap.size W7 w9 := ((Below.refl _ _).alloc zb _).grown hgrow (by simp; omega) fun m hm => (row7.lt m hm).1
          have bb9 := HB7.out.trans (lowB.mono HMW.out)
          have x9 : BM w9 w.heap.size P Q R S := (hgrow.block _ (by have := HX7.out.lt; simp; omega) (fun e => row_neM HR7.out HX7.out e.symm)).trans ((Below.heap_alloc _ _ _ HX7.out.lt).trans HX7.out)
          have t9 : T6 w9 wr.heap.size _ _ _ _ _ _ := (hgrow.block _ (by have := HT7.out.lt; simp; omega) (fun e => NR.out _ HR7.out e.symm)).trans ((Below.heap_alloc _ _ _ HT7.out.lt).trans HT7.out)
          have tk9 := HK7.out.under lowB HNT.out.2.2 HNT.out.1 HNT.out.2.1 HL0.out HL1.out
          have row9 : w9.ownsRow w.heap.size 60 6 v' (k + 1) (trL a b m0 (k + 1)) := by
            show w9.ownsRow _ _ _ _ _ (trL a b m0 k ++ trC a b m0 k)
            rw [HXS.out]
            unfold trC
            have e1 := HTD.out
            have e2 : hasM (runM a b m0 k).m = true := by rw [HS0.out]; exact HH.out
            rw [e1, e2, HS1.out]
            exact hown9
          obtain ⟨W10, hW10, x10, o10⟩ := x9.store A' B' C' D'
          obtain ⟨y0, y1, y2, y3, y4, y5⟩ := t9.c
          obtain ⟨z0, z1, z2, z3⟩ := x9.c
          have f0 := x9.f 0
          have f1 := x9.f 1
          have f2 := x9.f 2
          have f3 := x9.f 3
          have bb10 := bb9.trans (o10.bel _ HMW.out)
          have tk10 := tk9.under (o10.bel _ (Nat.le_refl _)) HNT.out.2.2 HNT.out.1 HNT.out.2.1 HL0.out HL1.out
          have J10 := Lib.hid (show JR w w.heap.size ns nt np m J n a b m0 v0 v1 (N - 1) (k + 1) (t + 1) (q) A' B' C' D' v' W10 from ⟨hlt, by have := HN.out; omega, HS1.out, row_only row9 o10 (row_neM row9 x9), x10, tk10, bb10, x10.lt⟩)
          have HK10 := Lib.hid tk10.tk
          clear hown9 hgrow lowB bb9 x9 t9 tk9 row9 x10 o10 bb10 tk10 row7 q0 q1 q2 q3 q4 q5 HX7 HT7 HK7 HB7 HR7
          go_wp2
          go_step3
          refine ⟨rfl, ⟨N - 1, k + 1, t + 1, q, A', B', C', D', v', _, _, _, _, _, _, _, _, _, _, _, _, _, _, _, _, _, _, _, _, _, _, _, _, _, _, _, _, _, _, _, _, _, _, _, _, _, _, _, _, rfl, J10.out⟩, ?_⟩
          have hmu := MU0.out
          rw [hmu]
          unfold muR
          rw [Lib.cell_of_heap HK10.out]
          have hNN := HN.out
          simp [RowKit.intOf]
          omega
    · have hk2 : t = n := by omega
      have nb0 : (N == 0) = true := by rw [beq_iff_eq]; have := HN.out; omega
      have hend : k = J := by
        rcases Nat.lt_or_eq_of_le hk with h3 | h3
        · have h4 := (HST.out k h3).t
          rw [HS0.out] at h4
          simp only at h4
          omega
        · exact h3
      subst hend
      obtain ⟨rfl, rfl⟩ := HE.out.at_done (by rw [HS0.out]; exact hk2)
      have HR := Lib.hid hrow
      have HB := Lib.hid hbl
      clear hrow hx htk hbl hsz hk2
      go_wp2
      try simp only [Exit.jump]
      refine bodyPost_ret (v := .tuple #[.slice so L co, .int .i64 0]) (by simp [results, Try.results56, go_sem]) rfl ?_
      exact ⟨⟨_, _, rfl, HR.out⟩, HB.out⟩
end Go.Proofs.Yteemkophifcimaa.Sx
