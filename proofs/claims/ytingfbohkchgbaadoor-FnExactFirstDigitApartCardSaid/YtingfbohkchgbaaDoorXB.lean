/-
  The first digit at which two trees differ, by the code.
-/
import Derived.Test.YtingfbohkchgbaaDoorXA
namespace Go.Proofs.YtingfbohkchgbaaDoor.Sx
open Go Go.RowKit
set_option linter.unusedVariables false
set_option linter.unusedSimpArgs false

set_option maxRecDepth 1000000 in
set_option maxHeartbeats 16000000 in
theorem apartI {w : World} {T U : List Fk} {a b : List Int} {t u v0 v1 : Value} {n : Int} {x c : Int} (hg : ErrG w) (hT : IsF w T t) (hU : IsF w U u) (i0 : IsL .i8 w a v0) (i1 : IsL .i8 w b v1) (b0 : ∀ q, v0.ownBlock = some q → q < w.heap.size) (b1 : ∀ q, v1.ownBlock = some q → q < w.heap.size) (lT : T.length ≤ 1048576) (lU : U.length ≤ 1048576) (wT : Wid T) (wU : Wid U) (la : a.length ≤ 9223372036854775807) (lb : b.length ≤ 9223372036854775807)
    (h : ((trB T && trB U && vsB a b) = false ∧ x = 0 ∧ c = 1) ∨ ((trB T && trB U && vsB a b) = true ∧ ¬ (0 ≤ n ∧ n ≤ 60) ∧ x = 0 ∧ c = 2) ∨ ((trB T && trB U && vsB a b) = true ∧ (0 ≤ n ∧ n ≤ 60) ∧ ∃ J1 l1 k1 c1 J2 l2 k2 c2, ((∀ i, i < J1 → OkT T a b n.toNat i) ∧ J1 ≤ n.toNat + 400 ∧ EndT T a b n.toNat J1 l1 k1 c1) ∧ ((∀ i, i < J2 → OkT U a b n.toNat i) ∧ J2 ≤ n.toNat + 400 ∧ EndT U a b n.toNat J2 l2 k2 c2) ∧ ((¬ (c1 = 0 ∧ c2 = 0) ∧ x = 0 ∧ c = 7) ∨ (c1 = 0 ∧ c2 = 0 ∧ ApE l1 l2 n.toNat x c)))) :
    Calls Tryd.prog 21 #[.agg #[t], .agg #[u], .agg #[v0, v1], .int .i64 n] w (TwoN w x c) := by
  obtain ⟨W, hW, hB, xt⟩ := boxN w #[t] 34
  obtain ⟨U0, hU0, hB2, xu⟩ := boxN W #[u] 34
  obtain ⟨V, hV, hB3, y⟩ := boxK U0 v0 v1 36
  have bU := hB.trans (hB2.mono hB.size)
  have bV := bU.trans (hB3.mono bU.size)
  have ht := at_keep (at_keep xt hB2) hB3
  have hu := at_keep xu hB3
  have m1 := okTI (hT.keep bV) lT wT
  have M2 := Lib.hid fun (W' : World) (hb : Below V.heap.size V W') => okTI ((hU.keep bV).keep hb) lU wU
  have VS := Lib.hid fun (W' : World) (hb : Below V.heap.size V W') => vsI ((i0.keep bV).keep hb) ((i1.keep bV).keep hb) la lb
  have CT := Lib.hid fun (W' : World) (hb : Below V.heap.size V W') => (show W'.cell? ⟨w.heap.size, 0, none⟩ = some t by rw [Lib.cell_of_heap (at_keep ht hb)]; rfl)
  have CU := Lib.hid fun (W' : World) (hb : Below V.heap.size V W') => (show W'.cell? ⟨W.heap.size, 0, none⟩ = some u by rw [Lib.cell_of_heap (at_keep hu hb)]; rfl)
  have CS := Lib.hid fun (W' : World) (hb : Below V.heap.size V W') => y.keep hb
  have RT := Lib.hid fun (W' : World) (hb : Below V.heap.size V W') (l : List Int) (k d : Int) (hd : DoesRI 12 T a b n l k d) => hd W' t v0 v1 (hg.keep (bV.trans (hb.mono bV.size))) ((hT.keep bV).keep hb) ((i0.keep bV).keep hb) ((i1.keep bV).keep hb) (fun q e => Nat.lt_of_lt_of_le (b0 q e) (Nat.le_trans bV.size hb.size)) (fun q e => Nat.lt_of_lt_of_le (b1 q e) (Nat.le_trans bV.size hb.size))
  have RU := Lib.hid fun (W' : World) (hb : Below V.heap.size V W') (l : List Int) (k d : Int) (hd : DoesRI 12 U a b n l k d) => hd W' u v0 v1 (hg.keep (bV.trans (hb.mono bV.size))) ((hU.keep bV).keep hb) ((i0.keep bV).keep hb) ((i1.keep bV).keep hb) (fun q e => Nat.lt_of_lt_of_le (b0 q e) (Nat.le_trans bV.size hb.size)) (fun q e => Nat.lt_of_lt_of_le (b1 q e) (Nat.le_trans bV.size hb.size))
  have BV := Lib.hid bV
  have WT := Lib.hid wT
  have WU := Lib.hid wU
  have q0 := CT.out V (Below.refl _ _)
  obtain ⟨st, kt, rfl⟩ := hT.form
  obtain ⟨su, ku, rfl⟩ := hU.form
  obtain ⟨s0, k0, rfl⟩ := i0.form
  obtain ⟨s1, k1, rfl⟩ := i1.form
  clear xt xu y ht hu hT hU i0 i1 hB hB2 hB3 bU bV b0 b1 hg wT wU
  cases hT : trB T
  · rw [hT] at m1 h
    obtain ⟨_, rfl, rfl⟩ : _ ∧ x = 0 ∧ c = 1 := by
      rcases h with h | h | h
      · exact h
      · exact absurd h.1 (by simp)
      · exact absurd h.1 (by simp)
    clear h
    go_enter Tryd.func21, Tryd.ntmps21
    go_wp2_with (go_at_call 36; refine m1.mono ?_)
    first | (rintro e W2 rfl b2) | (rintro e W2 ⟨rfl, b2⟩)
    try dsimp only
    have FB := Lib.hid (BV.out.trans (b2.mono BV.out.size))
    clear b2 m1
    go_wp2
    refine bodyPost_ret (v := .tuple #[.int .i64 0, .int .i64 1]) (by simp [results, Tryd.results21, go_sem]) rfl ?_
    exact ⟨rfl, FB.out⟩
  · rw [hT] at m1 h
    cases hU : trB U
    · rw [hU] at M2 h
      obtain ⟨_, rfl, rfl⟩ : _ ∧ x = 0 ∧ c = 1 := by
        rcases h with h | h | h
        · exact h
        · exact absurd h.1 (by simp)
        · exact absurd h.1 (by simp)
      clear h
      go_enter Tryd.func21, Tryd.ntmps21
      go_wp2_with (go_at_call 36; refine m1.mono ?_)
      first | (rintro e W2 rfl b2) | (rintro e W2 ⟨rfl, b2⟩)
      try dsimp only
      have m2 := M2.out W2 b2
      have c0 := CU.out W2 b2
      have HB2 := Lib.hid b2
      clear b2 m1 q0
      go_wp2_with (go_at_call 36; refine m2.mono ?_)
      first | (rintro e W3 rfl b3) | (rintro e W3 ⟨rfl, b3⟩)
      try dsimp only
      have HB3 := Lib.hid (HB2.out.trans (b3.mono HB2.out.size))
      clear b3 m2 c0
      have FB3 := Lib.hid (BV.out.trans (HB3.out.mono BV.out.size))
      go_wp2
      refine bodyPost_ret (v := .tuple #[.int .i64 0, .int .i64 1]) (by simp [results, Tryd.results21, go_sem]) rfl ?_
      exact ⟨rfl, FB3.out⟩
    · rw [hU] at M2 h
      cases hV2 : vsB a b
      · rw [hV2] at h VS
        obtain ⟨_, rfl, rfl⟩ : _ ∧ x = 0 ∧ c = 1 := by
          rcases h with h | h | h
          · exact h
          · exact absurd h.1 (by simp)
          · exact absurd h.1 (by simp)
        clear h
        go_enter Tryd.func21, Tryd.ntmps21
        go_wp2_with (go_at_call 36; refine m1.mono ?_)
        first | (rintro e W2 rfl b2) | (rintro e W2 ⟨rfl, b2⟩)
        try dsimp only
        have m2 := M2.out W2 b2
        have c0 := CU.out W2 b2
        have HB2 := Lib.hid b2
        clear b2 m1 q0
        go_wp2_with (go_at_call 36; refine m2.mono ?_)
        first | (rintro e W3 rfl b3) | (rintro e W3 ⟨rfl, b3⟩)
        try dsimp only
        have HB3 := Lib.hid (HB2.out.trans (b3.mono HB2.out.size))
        clear b3 m2 c0
        have m3 := VS.out W3 HB3.out
        have d0 := (CS.out W3 HB3.out).c0
        have d1 := (CS.out W3 HB3.out).c1
        go_wp2_with (go_at_call 37; refine m3.mono ?_)
        first | (rintro e W4 rfl b4) | (rintro e W4 ⟨rfl, b4⟩)
        try dsimp only
        have HB4 := Lib.hid (HB3.out.trans (b4.mono HB3.out.size))
        clear b4 m3 d0 d1
        have FB4 := Lib.hid (BV.out.trans (HB4.out.mono BV.out.size))
        go_wp2
        refine bodyPost_ret (v := .tuple #[.int .i64 0, .int .i64 1]) (by simp [results, Tryd.results21, go_sem]) rfl ?_
        exact ⟨rfl, FB4.out⟩
      · rw [hV2] at h VS
        by_cases hn : 0 ≤ n ∧ n ≤ 60
        · obtain ⟨J1, l1, k1', c1, J2, l2, k2, c2, ⟨hS1, hJ1, hE1⟩, ⟨hS2, hJ2, hE2⟩, hr⟩ : ∃ J1 l1 k1 c1 J2 l2 k2 c2, ((∀ i, i < J1 → OkT T a b n.toNat i) ∧ J1 ≤ n.toNat + 400 ∧ EndT T a b n.toNat J1 l1 k1 c1) ∧ ((∀ i, i < J2 → OkT U a b n.toNat i) ∧ J2 ≤ n.toNat + 400 ∧ EndT U a b n.toNat J2 l2 k2 c2) ∧ ((¬ (c1 = 0 ∧ c2 = 0) ∧ x = 0 ∧ c = 7) ∨ (c1 = 0 ∧ c2 = 0 ∧ ApE l1 l2 n.toNat x c)) := by
            rcases h with h | h | h
            · exact absurd h.1 (by simp)
            · exact absurd hn h.2.1
            · exact h.2.2
          have a1 : askR T a b n = 0 := by unfold askR; rw [hT, hV2, if_neg (by simp), if_neg (by omega)]
          have a2 : askR U a b n = 0 := by unfold askR; rw [hU, hV2, if_neg (by simp), if_neg (by omega)]
          have D1 := Lib.hid (treeI_yes T a b n a1 lT WT.out J1 l1 k1' c1 hS1 hJ1 hE1)
          have D2 := Lib.hid (treeI_yes U a b n a2 lU WU.out J2 l2 k2 c2 hS2 hJ2 hE2)
          obtain ⟨m, hm⟩ : ∃ m : Nat, n.toNat = m := ⟨_, rfl⟩
          rw [hm] at hr hE1 hE2
          have hL1 : c1 = 0 → l1.length = m := fun e => by
            cases hE1 with
            | done h => exact h
            | budget => cases e
          have hL2 : c2 = 0 → l2.length = m := fun e => by
            cases hE2 with
            | done h => exact h
            | budget => cases e
          have h07 : (c1 = 0 ∨ c1 = 7) ∧ (c2 = 0 ∨ c2 = 7) := ⟨by cases hE1 with
            | done h => exact .inl rfl
            | budget => exact .inr rfl, by cases hE2 with
            | done h => exact .inl rfl
            | budget => exact .inr rfl⟩
          have LL := Lib.hid (And.intro hL1 hL2)
          have HR := Lib.hid hr
          have H07 := Lib.hid h07
          clear hr h07
          have hm60 : m ≤ 60 := by omega
          have hlB : ∀ (s : Option Addr) (n k : Nat) (W : World), (Builtin.len_ #[25] 3 #[.slice s n k]).run Tryd.prog W = .ok (.int .i64 n) W := fun s n k W => rfl
          clear h hS1 hJ1 hE1 hS2 hJ2 hE2 hn hL1 hL2 a1 a2 hm
          go_enter Tryd.func21, Tryd.ntmps21
          go_wp2_with (go_at_call 36; refine m1.mono ?_)
          first | (rintro e W2 rfl b2) | (rintro e W2 ⟨rfl, b2⟩)
          try dsimp only
          have m2 := M2.out W2 b2
          have c0 := CU.out W2 b2
          have HB2 := Lib.hid b2
          clear b2 m1 q0
          go_wp2_with (go_at_call 36; refine m2.mono ?_)
          first | (rintro e W3 rfl b3) | (rintro e W3 ⟨rfl, b3⟩)
          try dsimp only
          have HB3 := Lib.hid (HB2.out.trans (b3.mono HB2.out.size))
          clear b3 m2 c0
          have m3 := VS.out W3 HB3.out
          have d0 := (CS.out W3 HB3.out).c0
          have d1 := (CS.out W3 HB3.out).c1
          go_wp2_with (go_at_call 37; refine m3.mono ?_)
          first | (rintro e W4 rfl b4) | (rintro e W4 ⟨rfl, b4⟩)
          try dsimp only
          have HB4 := Lib.hid (HB3.out.trans (b4.mono HB3.out.size))
          clear b4 m3 d0 d1
          have r1 := RT.out W4 HB4.out _ _ _ D1.out
          have c0 := CT.out W4 HB4.out
          have d0 := (CS.out W4 HB4.out).c0
          have d1 := (CS.out W4 HB4.out).c1
          go_wp2_with (go_at_call 12; refine r1.mono ?_)
          rintro e W5 ⟨⟨s3, k3, rfl, o3⟩, b5⟩
          try dsimp only
          have HB5 := Lib.hid (HB4.out.trans (b5.mono HB4.out.size))
          have HO3 := Lib.hid o3
          clear r1 o3 b5 c0 d0 d1
          obtain ⟨h01, h02⟩ := H07.out
          clear H07
          have H02 := Lib.hid h02
          clear h02
          rcases h01 with rfl | rfl
          · have r2 := RU.out W5 HB5.out _ _ _ D2.out
            have c0 := CU.out W5 HB5.out
            have d0 := (CS.out W5 HB5.out).c0
            have d1 := (CS.out W5 HB5.out).c1
            go_wp2_with (go_at_call 12; refine r2.mono ?_)
            rintro e W6 ⟨⟨s4, k4, rfl, o4⟩, b6⟩
            try dsimp only
            have HB6 := Lib.hid (BV.out.trans ((HB5.out.trans (b6.mono HB5.out.size)).mono BV.out.size))
            have I3 := Lib.hid (HO3.out.is.keep b6)
            have I4 := Lib.hid o4.is
            clear r2 o4 b6 c0 d0 d1
            rcases HR.out with ⟨hc, rfl, rfl⟩ | ⟨_, rfl, hap⟩
            · have h2 : (c2 == 0) = false := by rw [beq_eq_false_iff_ne]; exact fun e => hc ⟨by first | exact rfl | trivial, e⟩
              obtain rfl : c2 = 7 := H02.out.resolve_left (fun e => hc ⟨by first | exact rfl | trivial, e⟩)
              clear hc
              go_wp2
              refine bodyPost_ret (v := .tuple #[.int .i64 0, .int .i64 7]) (by simp [results, Tryd.results21, go_sem]) rfl ?_
              exact ⟨rfl, HB6.out⟩
            · have e1 := LL.out.1 (by first | exact rfl | trivial)
              have e2 := LL.out.2 (by first | exact rfl | trivial)
              rw [e1] at I3 ⊢
              rw [e2] at I4 ⊢
              have HAP := Lib.hid hap
              have HE := Lib.hid (And.intro e1 e2)
              clear hap e1 e2
              go_wp2
              go_loopw [53] (fun i wr => ∃ j : Nat, j ≤ m ∧ i = .int .i64 j ∧ Hid (∀ p, p < j → l1.getD p 0 = l2.getD p 0) ∧ Below W6.heap.size W6 wr) (fun i _ => m - (RowKit.intOf i).toNat)
              case atStart => exact ⟨0, Nat.zero_le _, rfl, fun p hp => absurd hp (Nat.not_lt_zero _), Below.refl _ _⟩
              case round =>
                obtain ⟨j, hj, rfl, hbf, hb⟩ := hrel
                by_cases hlt : j < m
                · obtain ⟨g1, o1, rfl, q1⟩ := ((show IsL .i8 W6 l1 (.slice s3 m k3) from I3.out).keep hb).cells (j := j) (by rw [HE.out.1]; exact hlt)
                  obtain ⟨g2, o2, rfl, q2⟩ := ((show IsL .i8 W6 l2 (.slice s4 m k4) from I4.out).keep hb).cells (j := j) (by rw [HE.out.2]; exact hlt)
                  obtain ⟨d1, hd1⟩ : ∃ d, l1.getD j 0 = d := ⟨_, rfl⟩
                  obtain ⟨d2, hd2⟩ : ∃ d, l2.getD j 0 = d := ⟨_, rfl⟩
                  rw [hd1] at q1
                  rw [hd2] at q2
                  have HDD := Lib.hid (And.intro hd1 hd2)
                  have HBF := Lib.hid hbf
                  have HBW := Lib.hid hb
                  have gj : (j : Int) < m := by omega
                  clear hd1 hd2 hbf hb
                  by_cases hd : d1 = d2
                  · subst hd
                    have ej : IntKind.i64.wrap ((j : Int) + 1) = (j : Int) + 1 := by rw [IntKind.wrap_i64]; omega
                    go_upto_region 12 with (fail)
                    go_quiet (fail)
                    go_wp2
                    exact ⟨⟨j + 1, by omega, rfl, show ∀ p, p < j + 1 → l1.getD p 0 = l2.getD p 0 from fun p hp => if hh : p < j then HBF.out p hh else by rw [show p = j by omega, HDD.out.1, HDD.out.2], HBW.out.trans ⟨rfl, rfl, rfl, Nat.le_refl _, fun _ _ => rfl⟩⟩, by simp [RowKit.intOf]; omega⟩
                  · have hne : (d1 == d2) = false := by rw [beq_eq_false_iff_ne]; exact hd
                    obtain ⟨hx, hc⟩ := HAP.out.at hlt HBF.out (by rw [HDD.out.1, HDD.out.2]; exact hd)
                    subst hx
                    subst hc
                    clear hd
                    go_upto_region 12 with (fail)
                    go_quiet (fail)
                    go_wp2
                    refine bodyPost_ret (v := .tuple #[.int .i64 j, .int .i64 0]) (by simp [results, Tryd.results21, go_sem]) rfl ?_
                    exact ⟨rfl, (HB6.out.trans (HBW.out.mono HB6.out.size)).trans ⟨rfl, rfl, rfl, Nat.le_refl _, fun _ _ => rfl⟩⟩
                · obtain rfl : j = m := by omega
                  obtain ⟨hx, hc⟩ := HAP.out.all hbf
                  subst hx
                  subst hc
                  have HBW := Lib.hid hb
                  clear hbf hb
                  go_wp2
                  refine bodyPost_ret (v := .tuple #[.int .i64 0, .int .i64 6]) (by simp [results, Tryd.results21, go_sem]) rfl ?_
                  exact ⟨rfl, HB6.out.trans (HBW.out.mono HB6.out.size)⟩
          · obtain ⟨rfl, rfl⟩ : x = 0 ∧ c = 7 := by
              rcases HR.out with ⟨_, h1, h2⟩ | ⟨h1, _⟩
              · exact ⟨h1, h2⟩
              · exact absurd h1 (by decide)
            have FB5 := Lib.hid (BV.out.trans (HB5.out.mono BV.out.size))
            clear HR
            go_wp2
            refine bodyPost_ret (v := .tuple #[.int .i64 0, .int .i64 7]) (by simp [results, Tryd.results21, go_sem]) rfl ?_
            exact ⟨rfl, FB5.out⟩
        · obtain ⟨rfl, rfl⟩ : x = 0 ∧ c = 2 := by
            rcases h with h | h | h
            · exact absurd h.1 (by simp)
            · exact h.2.2
            · exact absurd h.2.1 hn
          have a1 : askR T a b n = 2 := by unfold askR; rw [hT, hV2, if_neg (by simp), if_pos hn]
          have D1 := Lib.hid (treeI_no T a b n 2 a1 (by decide) lT WT.out la lb)
          clear h hn a1
          go_enter Tryd.func21, Tryd.ntmps21
          go_wp2_with (go_at_call 36; refine m1.mono ?_)
          first | (rintro e W2 rfl b2) | (rintro e W2 ⟨rfl, b2⟩)
          try dsimp only
          have m2 := M2.out W2 b2
          have c0 := CU.out W2 b2
          have HB2 := Lib.hid b2
          clear b2 m1 q0
          go_wp2_with (go_at_call 36; refine m2.mono ?_)
          first | (rintro e W3 rfl b3) | (rintro e W3 ⟨rfl, b3⟩)
          try dsimp only
          have HB3 := Lib.hid (HB2.out.trans (b3.mono HB2.out.size))
          clear b3 m2 c0
          have m3 := VS.out W3 HB3.out
          have d0 := (CS.out W3 HB3.out).c0
          have d1 := (CS.out W3 HB3.out).c1
          go_wp2_with (go_at_call 37; refine m3.mono ?_)
          first | (rintro e W4 rfl b4) | (rintro e W4 ⟨rfl, b4⟩)
          try dsimp only
          have HB4 := Lib.hid (HB3.out.trans (b4.mono HB3.out.size))
          clear b4 m3 d0 d1
          have r1 := RT.out W4 HB4.out _ _ _ D1.out
          have c0 := CT.out W4 HB4.out
          have d0 := (CS.out W4 HB4.out).c0
          have d1 := (CS.out W4 HB4.out).c1
          go_wp2_with (go_at_call 12; refine r1.mono ?_)
          rintro e W5 ⟨⟨s3, k3, rfl, o3⟩, b5⟩
          try dsimp only
          have FB5 := Lib.hid (BV.out.trans ((HB4.out.trans (b5.mono HB4.out.size)).mono BV.out.size))
          clear r1 o3 b5 c0 d0 d1
          go_wp2
          refine bodyPost_ret (v := .tuple #[.int .i64 0, .int .i64 2]) (by simp [results, Tryd.results21, go_sem]) rfl ?_
          exact ⟨rfl, FB5.out⟩
end Go.Proofs.YtingfbohkchgbaaDoor.Sx
