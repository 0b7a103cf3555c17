/-
  Machines, by the model: images.
-/
import Derived.Test.YteemkophifcimaaK3
import Derived.WalkSpells
import Derived.Deep.DeepCutAuto
namespace Go.Proofs.Yteemkophifcimaa.Sx
open Go Go.RowKit
set_option linter.unusedVariables false
set_option linter.unusedSimpArgs false

set_option maxRecDepth 1000000 in
set_option maxHeartbeats 16000000 in
theorem imageS {w : World} {b : Nat} {A B C D : Int} (x : BM w b A B C D) (hp : posM ⟨A, B, C, D⟩) (h0 : -1000000 ≤ A ∧ A ≤ 1000000) (h1 : -1000000 ≤ B ∧ B ≤ 1000000) (h2 : -1000000 ≤ C ∧ C ≤ 1000000) (h3 : -1000000 ≤ D ∧ D ≤ 1000000) : Calls Try.prog 61 #[.pointer (some ⟨b, 0, none⟩)] w (Img w A B C D) := by
  have q1 : 1 ≤ D - C := by have := hp.1; simp only at this; omega
  have q2 : 1 ≤ D + C := by have := hp.2; simp only at this; omega
  obtain ⟨g1, ap, aq, G1, k1, ea, eb, j1, t1, t2, n1, n2, l1⟩ := low_terms (p := B - A) q1
  obtain ⟨g2, bp, bq, G2, k2, ec, ed, j2, t3, t4, n3, n4, l2⟩ := low_terms (p := B + A) q2
  have M1 := Lib.hid fun W => makeS (B - A) (D - C) ap aq g1 W G1 k1 (by omega) (by omega) t1 t2 j1 n1 n2 l1
  have M2 := Lib.hid fun W => makeS (B + A) (D + C) bp bq g2 W G2 k2 (by omega) (by omega) t3 t4 j2 n3 n4 l2
  have a8 : -4000000 ≤ ap ∧ ap ≤ 4000000 := by omega
  have a9 : aq ≤ 4000000 := by omega
  have b8 : -4000000 ≤ bp ∧ bp ≤ 4000000 := by omega
  have b9 : bq ≤ 4000000 := by omega
  have w1 : IntKind.i64.wrap (B - A) = B - A := by rw [IntKind.wrap_i64]; omega
  have w2 : IntKind.i64.wrap (D - C) = D - C := by rw [IntKind.wrap_i64]; omega
  have w3 : IntKind.i64.wrap (B + A) = B + A := by rw [IntKind.wrap_i64]; omega
  have w4 : IntKind.i64.wrap (D + C) = D + C := by rw [IntKind.wrap_i64]; omega
  obtain ⟨W0, hW0, hB, y2⟩ := boxK w (.int .i64 0) (.int .i64 0) 36
  obtain ⟨Z, hZ, hB2, y3⟩ := boxK W0 (.int .i64 0) (.int .i64 0) 36
  have y2 := y2.keep hB2
  have x := (x.keep hB).keep hB2
  have bV := hB.trans (hB2.mono hB.size)
  have z1 : w.heap.size < W0.heap.size := by rw [← hW0]; simp
  have z2 : W0.heap.size < Z.heap.size := by rw [← hZ]; simp
  obtain ⟨c0, c1, c2, c3⟩ := x.c
  have KP := Lib.hid (show ∀ w', Below Z.heap.size Z w' → (w'.cell? ⟨b, 0, none⟩ = some (.int .i64 A) ∧ w'.cell? ⟨b, 1, none⟩ = some (.int .i64 B) ∧ w'.cell? ⟨b, 2, none⟩ = some (.int .i64 C) ∧ w'.cell? ⟨b, 3, none⟩ = some (.int .i64 D)) ∧ Below Z.heap.size Z w' from fun w' h => ⟨(x.keep h).c, h⟩)
  have HX := Lib.hid x
  have Y2 := Lib.hid y2
  have Y3 := Lib.hid y3
  have BV := Lib.hid bV
  have EA := Lib.hid (⟨ea, eb, ec, ed⟩ : _ ∧ _ ∧ _ ∧ _)
  clear G1 t1 t2 n1 n2 l1 G2 t3 t4 n3 n4 l2 hp h0 h1 h2 h3 q1 q2 ea eb ec ed x y2 y3 hB hB2 bV
  go_enter Try.func61, Try.ntmps61
  go_wp2
  go_cut [4, 5] (fun s c wx => c = .int .i64 0 ∧ BoxR Z wx s ap aq)
  case first =>
    go_region_held3 (fun w' => (w'.cell? ⟨b, 0, none⟩ = some (.int .i64 A) ∧ w'.cell? ⟨b, 1, none⟩ = some (.int .i64 B) ∧ w'.cell? ⟨b, 2, none⟩ = some (.int .i64 C) ∧ w'.cell? ⟨b, 3, none⟩ = some (.int .i64 D)) ∧ Below Z.heap.size Z w')
      (exact KP.out _ (by first | with_reducible exact hb3 | with_reducible exact (Below.refl _ _).drew | with_reducible exact Below.refl _ _ | with_reducible exact (Below.refl _ _).alloc (Nat.le_refl _) _ | with_reducible exact ((Below.refl _ _).alloc (Nat.le_refl _) _).drew | with_reducible exact hb3.alloc hb3.size _ | exact Below.setCell (Below.setCell hb3 (by first | exact Nat.le_refl _ | exact hb3.size | fail) _) (by first | exact Nat.le_refl _ | exact hb3.size | fail) _ | fail))
      (first
        | (go_at_call 88; (refine (M1.out _).mono ?_); rintro e w3 ⟨rfl, b3⟩; first | (have hb3 : Below Z.heap.size Z w3 := ((Below.refl Z.heap.size Z).drew).trans b3) | (have hb3 : Below Z.heap.size Z w3 := ((Below.refl Z.heap.size Z).alloc (Nat.le_refl _) _).drew.trans (b3.mono (by first | (simp; done) | fail)); have ys' : w3.heap[Z.heap.size]? = some (.cells #[.int .i64 0, .int .i64 0] (36 : Nat) (0, 0)) := (by first | exact at_below b3 (by first | (simp; done) | fail) (at_drew (at_new rfl)) | fail); have ys : Bk w3 Z.heap.size (.int .i64 0) (.int .i64 0) 36 := ys'; clear ys'; have k0 := ys.c0; have k1 := ys.c1; have t0 := ys.f 0; have t1 := ys.f 1))
        | fail)
    all_goals
      first
        | (obtain ⟨W5, hW5, y5, _⟩ := storedK6 ys (.int .i64 ap) (.int .i64 aq)
           obtain ⟨W5', hW5', _, _, r5, B5⟩ := stored ys (.int .i64 ap) (.int .i64 aq)
           obtain rfl : W5 = W5' := hW5.symm.trans hW5'
           rw [hW5]
           go_wp2_with fail
           go_meet
           exact ⟨rfl, ⟨_, rfl, y5, Nat.le_refl _⟩, hb3.trans (B5 _ (Nat.le_refl _))⟩)
        | (obtain ⟨W5, hW5, bS, y5⟩ := boxK w3 (.int .i64 ap) (.int .i64 aq) 36
           rw [hW5]
           go_wp2_with fail
           go_meet
           exact ⟨rfl, ⟨_, rfl, y5, hb3.size⟩, hb3.trans (bS.mono hb3.size)⟩)
  case rest =>
  obtain ⟨rfl, ⟨na, rfl, ya, hna⟩, b1⟩ := hcut
  obtain ⟨V, hV⟩ : ∃ V, V = wc := ⟨_, rfl⟩
  subst hV
  have x := HX.out.keep b1
  have bZ := BV.out.trans (b1.mono BV.out.size)
  have y2 := Y2.out.keep b1
  have y3 := Y3.out.keep b1
  obtain ⟨c0', c1', c2', c3'⟩ := x.c
  clear KP c0 c1 c2 c3
  have zV := b1.size
  have KP := Lib.hid (show ∀ w', Below V.heap.size V w' → (w'.cell? ⟨b, 0, none⟩ = some (.int .i64 A) ∧ w'.cell? ⟨b, 1, none⟩ = some (.int .i64 B) ∧ w'.cell? ⟨b, 2, none⟩ = some (.int .i64 C) ∧ w'.cell? ⟨b, 3, none⟩ = some (.int .i64 D)) ∧ Below V.heap.size V w' from fun w' h => ⟨(x.keep h).c, h⟩)
  have Y2 := Lib.hid y2
  have Y3 := Lib.hid y3
  have YA := Lib.hid ya
  have BV := Lib.hid bZ
  clear M1 HX b1 x bZ y2 y3 ya
  go_wp2
  go_cut [6, 7] (fun s c wx => c = .int .i64 0 ∧ BoxR V wx s bp bq)
  case first =>
    go_region_held3 (fun w' => (w'.cell? ⟨b, 0, none⟩ = some (.int .i64 A) ∧ w'.cell? ⟨b, 1, none⟩ = some (.int .i64 B) ∧ w'.cell? ⟨b, 2, none⟩ = some (.int .i64 C) ∧ w'.cell? ⟨b, 3, none⟩ = some (.int .i64 D)) ∧ Below V.heap.size V w')
      (exact KP.out _ (by first | with_reducible exact hb3 | with_reducible exact (Below.refl _ _).drew | with_reducible exact Below.refl _ _ | with_reducible exact (Below.refl _ _).alloc (Nat.le_refl _) _ | with_reducible exact ((Below.refl _ _).alloc (Nat.le_refl _) _).drew | with_reducible exact hb3.alloc hb3.size _ | exact Below.setCell (Below.setCell hb3 (by first | exact Nat.le_refl _ | exact hb3.size | fail) _) (by first | exact Nat.le_refl _ | exact hb3.size | fail) _ | fail))
      (first
        | (go_at_call 88; (refine (M2.out _).mono ?_); rintro e w3 ⟨rfl, b3⟩; first | (have hb3 : Below V.heap.size V w3 := ((Below.refl V.heap.size V).drew).trans b3) | (have hb3 : Below V.heap.size V w3 := ((Below.refl V.heap.size V).alloc (Nat.le_refl _) _).drew.trans (b3.mono (by first | (simp; done) | fail)); have ys' : w3.heap[V.heap.size]? = some (.cells #[.int .i64 0, .int .i64 0] (36 : Nat) (0, 0)) := (by first | exact at_below b3 (by first | (simp; done) | fail) (at_drew (at_new rfl)) | fail); have ys : Bk w3 V.heap.size (.int .i64 0) (.int .i64 0) 36 := ys'; clear ys'; have k0 := ys.c0; have k1 := ys.c1; have t0 := ys.f 0; have t1 := ys.f 1))
        | fail)
    all_goals
      first
        | (obtain ⟨W5, hW5, y5, _⟩ := storedK6 ys (.int .i64 bp) (.int .i64 bq)
           obtain ⟨W5', hW5', _, _, r5, B5⟩ := stored ys (.int .i64 bp) (.int .i64 bq)
           obtain rfl : W5 = W5' := hW5.symm.trans hW5'
           rw [hW5]
           go_wp2_with fail
           go_meet
           exact ⟨rfl, ⟨_, rfl, y5, Nat.le_refl _⟩, hb3.trans (B5 _ (Nat.le_refl _))⟩)
        | (obtain ⟨W5, hW5, bS, y5⟩ := boxK w3 (.int .i64 bp) (.int .i64 bq) 36
           rw [hW5]
           go_wp2_with fail
           go_meet
           exact ⟨rfl, ⟨_, rfl, y5, hb3.size⟩, hb3.trans (bS.mono hb3.size)⟩)
  case rest =>
  obtain ⟨rfl, ⟨nb, rfl, yb, hnb⟩, b2⟩ := hcut
  obtain ⟨V2, hV⟩ : ∃ V2, V2 = wc := ⟨_, rfl⟩
  subst hV
  have bV := BV.out.trans (b2.mono BV.out.size)
  have y2 := Y2.out.keep b2
  have y3 := Y3.out.keep b2
  have ya := YA.out.keep b2
  have zV2 := b2.size
  have o := orderS yb ya (by omega) ⟨j2, b9⟩ (by omega) ⟨j1, a9⟩
  obtain ⟨u, hu⟩ : ∃ u, bp * aq = u := ⟨_, rfl⟩
  obtain ⟨v, hv⟩ : ∃ u, ap * bq = u := ⟨_, rfl⟩
  rw [hu, hv] at o
  obtain ⟨z, hz⟩ : ∃ z : Int, (if u < v then -1 else if v < u then 1 else 0) = z := ⟨_, rfl⟩
  rw [hz] at o
  have U := Lib.hid hu
  have VV := Lib.hid hv
  obtain ⟨ea, eb, ec, ed⟩ := EA.out
  clear KP M2 Y2 Y3 YA BV c0' c1' c2' c3' b2 hu hv w1 w2 w3 w4
  go_wp2_with (go_at_call 89; refine o.mono ?_)
  rintro e W3 ⟨rfl, b3⟩
  dsimp only
  have bV := bV.trans (b3.mono bV.size)
  have y2 := y2.keep b3
  have y3 := y3.keep b3
  have ya := ya.keep b3
  have yb := yb.keep b3
  have zV3 := b3.size
  obtain ⟨V2, hV⟩ : ∃ V2, V2 = W3 := ⟨_, rfl⟩
  subst hV
  clear o b3
  by_cases huv : u < v
  · have hz1 : z = -1 := by rw [← hz, if_pos huv]
    subst hz1
    clear hz
    obtain ⟨W5, hW5, y52, _⟩ := storedK6 y2 (.int .i64 bp) (.int .i64 bq)
    obtain ⟨W5', hW5', _, _, r5, B5⟩ := stored y2 (.int .i64 bp) (.int .i64 bq)
    obtain rfl : W5 = W5' := hW5.symm.trans hW5'
    clear hW5'
    have y53 : Bk W5 W0.heap.size _ _ _ := (r5 _ (by omega)).trans y3
    obtain ⟨W6, hW6, _, _, r6, B6⟩ := stored y53 (.int .i64 ap) (.int .i64 aq)
    obtain ⟨W7, hW7, y73, _⟩ := storedK6 y3 (.int .i64 ap) (.int .i64 aq)
    obtain ⟨W7', hW7', _, _, r7, B7⟩ := stored y3 (.int .i64 ap) (.int .i64 aq)
    obtain rfl : W7 = W7' := hW7.symm.trans hW7'
    clear hW7'
    have y72 : Bk W7 w.heap.size _ _ _ := (r7 _ (by omega)).trans y2
    obtain ⟨W8, hW8, _, _, r8, B8⟩ := stored y72 (.int .i64 bp) (.int .i64 bq)
    have q5 : ∀ n x y, Bk V2 n x y 36 → w.heap.size ≠ n → W0.heap.size ≠ n → Bk W5 n x y 36 ∧ Bk W6 n x y 36 ∧ Bk W7 n x y 36 ∧ Bk W8 n x y 36 := fun n x y h h1 h2 => ⟨(r5 _ h1.symm).trans h, (r6 _ h2.symm).trans ((r5 _ h1.symm).trans h), (r7 _ h2.symm).trans h, (r8 _ h1.symm).trans ((r7 _ h2.symm).trans h)⟩
    obtain ⟨a5, a6, a7, a8⟩ := q5 _ _ _ ya (by omega) (by omega)
    obtain ⟨b5, b6, b7, b8⟩ := q5 _ _ _ yb (by omega) (by omega)
    have SS := Lib.hid (show ∀ w', w' = V2.drew ∨ w' = W5.drew ∨ w' = W6.drew ∨ w' = W7.drew ∨ w' = W8.drew → (w'.cell? ⟨na, 0, none⟩ = some (.int .i64 ap) ∧ w'.cell? ⟨na, 1, none⟩ = some (.int .i64 aq)) ∧ (w'.cell? ⟨nb, 0, none⟩ = some (.int .i64 bp) ∧ w'.cell? ⟨nb, 1, none⟩ = some (.int .i64 bq)) from fun w' h => by
      rcases h with rfl | rfl | rfl | rfl | rfl
      · exact ⟨⟨ya.c0, ya.c1⟩, yb.c0, yb.c1⟩
      · exact ⟨⟨a5.c0, a5.c1⟩, b5.c0, b5.c1⟩
      · exact ⟨⟨a6.c0, a6.c1⟩, b6.c0, b6.c1⟩
      · exact ⟨⟨a7.c0, a7.c1⟩, b7.c0, b7.c1⟩
      · exact ⟨⟨a8.c0, a8.c1⟩, b8.c0, b8.c1⟩)
    have E6 := Lib.hid (show Bk W6 w.heap.size (.int .i64 bp) (.int .i64 bq) 36 ∧ Bk W6 W0.heap.size (.int .i64 ap) (.int .i64 aq) 36 from ⟨(r6 _ (by omega)).trans y52, by obtain ⟨Wx, hWx, g, _⟩ := storedK6 y53 (.int .i64 ap) (.int .i64 aq); rw [← hW6, hWx]; exact g⟩)
    have E8 := Lib.hid (show Bk W8 w.heap.size (.int .i64 bp) (.int .i64 bq) 36 ∧ Bk W8 W0.heap.size (.int .i64 ap) (.int .i64 aq) 36 from ⟨by obtain ⟨Wx, hWx, g, _⟩ := storedK6 y72 (.int .i64 bp) (.int .i64 bq); rw [← hW8, hWx]; exact g, (r8 _ (by omega)).trans y73⟩)
    have B6' := Lib.hid (bV.trans ((B5 _ (Nat.le_refl _)).trans (B6 _ (by omega))))
    have B8' := Lib.hid (bV.trans ((B7 _ (by omega)).trans (B8 _ (Nat.le_refl _))))
    have c0 := ya.c0
    have c1 := ya.c1
    have d0 := yb.c0
    have d1 := yb.c1
    have p0 := y2.c0
    have p1 := y2.c1
    have p2 := y2.f 0
    have p3 := y2.f 1
    have q0 := y3.c0
    have q1 := y3.c1
    have q2 := y3.f 0
    have q3 := y3.f 1
    have u0 := y53.c0
    have u1 := y53.c1
    have u2 := y53.f 0
    have u3 := y53.f 1
    have v0 := y72.c0
    have v1 := y72.c1
    have v2 := y72.f 0
    have v3 := y72.f 1
    have hIMG := Lib.hid (img_bool k1 k2 ea eb ec ed j1 j2 (.inr ⟨by rw [U.out, VV.out]; omega, rfl, rfl, rfl, rfl⟩))
    clear q5 a5 a6 a7 a8 b5 b6 b7 b8 y2 y3 ya yb y52 y53 y72 y73 r5 r6 r7 r8 B5 B6 B7 B8 bV
    go_wp2
    go_region_held3 (fun w' => (w'.cell? ⟨na, 0, none⟩ = some (.int .i64 ap) ∧ w'.cell? ⟨na, 1, none⟩ = some (.int .i64 aq)) ∧ (w'.cell? ⟨nb, 0, none⟩ = some (.int .i64 bp) ∧ w'.cell? ⟨nb, 1, none⟩ = some (.int .i64 bq)))
      (first | exact SS.out _ (.inl rfl) | exact SS.out _ (.inr (.inl rfl)) | exact SS.out _ (.inr (.inr (.inl rfl))) | exact SS.out _ (.inr (.inr (.inr (.inl rfl)))) | exact SS.out _ (.inr (.inr (.inr (.inr rfl)))) | (simp only [hW5, hW6, hW7, hW8]; first | exact SS.out _ (.inr (.inl rfl)) | exact SS.out _ (.inr (.inr (.inl rfl))) | exact SS.out _ (.inr (.inr (.inr (.inl rfl)))) | exact SS.out _ (.inr (.inr (.inr (.inr rfl))))) | fail) (fail)
    all_goals
      first
        | (have e0 : W6.drew.cell? _ = _ := E6.out.1.c0
           have e1 : W6.drew.cell? _ = _ := E6.out.1.c1
           have e2 : W6.drew.cell? _ = _ := E6.out.2.c0
           have e3 : W6.drew.cell? _ = _ := E6.out.2.c1
           go_wp2
           refine bodyPost_ret (v := .tuple #[.agg #[.int .i64 bp, .int .i64 bq], .agg #[.int .i64 ap, .int .i64 aq]]) (by simp [results, Try.results61, go_sem, e0, e1, e2, e3]; done) rfl ?_
           exact ⟨⟨_, _, _, _, rfl, ⟨j2, b9⟩, ⟨j1, a9⟩, hIMG.out⟩, B6'.out.drew⟩)
        | (have e0 : W8.drew.cell? _ = _ := E8.out.1.c0
           have e1 : W8.drew.cell? _ = _ := E8.out.1.c1
           have e2 : W8.drew.cell? _ = _ := E8.out.2.c0
           have e3 : W8.drew.cell? _ = _ := E8.out.2.c1
           go_wp2
           refine bodyPost_ret (v := .tuple #[.agg #[.int .i64 bp, .int .i64 bq], .agg #[.int .i64 ap, .int .i64 aq]]) (by simp [results, Try.results61, go_sem, e0, e1, e2, e3]; done) rfl ?_
           exact ⟨⟨_, _, _, _, rfl, ⟨j2, b9⟩, ⟨j1, a9⟩, hIMG.out⟩, B8'.out.drew⟩)
  · have hz1 : ¬ z < 0 := by
      rw [← hz, if_neg huv]
      split <;> omega
    have hz2 := decide_eq_false hz1
    clear hz
    obtain ⟨W5, hW5, y52, _⟩ := storedK6 y2 (.int .i64 ap) (.int .i64 aq)
    obtain ⟨W5', hW5', _, _, r5, B5⟩ := stored y2 (.int .i64 ap) (.int .i64 aq)
    obtain rfl : W5 = W5' := hW5.symm.trans hW5'
    clear hW5'
    have y53 : Bk W5 W0.heap.size _ _ _ := (r5 _ (by omega)).trans y3
    obtain ⟨W6, hW6, _, _, r6, B6⟩ := stored y53 (.int .i64 bp) (.int .i64 bq)
    obtain ⟨W7, hW7, y73, _⟩ := storedK6 y3 (.int .i64 bp) (.int .i64 bq)
    obtain ⟨W7', hW7', _, _, r7, B7⟩ := stored y3 (.int .i64 bp) (.int .i64 bq)
    obtain rfl : W7 = W7' := hW7.symm.trans hW7'
    clear hW7'
    have y72 : Bk W7 w.heap.size _ _ _ := (r7 _ (by omega)).trans y2
    obtain ⟨W8, hW8, _, _, r8, B8⟩ := stored y72 (.int .i64 ap) (.int .i64 aq)
    have q5 : ∀ n x y, Bk V2 n x y 36 → w.heap.size ≠ n → W0.heap.size ≠ n → Bk W5 n x y 36 ∧ Bk W6 n x y 36 ∧ Bk W7 n x y 36 ∧ Bk W8 n x y 36 := fun n x y h h1 h2 => ⟨(r5 _ h1.symm).trans h, (r6 _ h2.symm).trans ((r5 _ h1.symm).trans h), (r7 _ h2.symm).trans h, (r8 _ h1.symm).trans ((r7 _ h2.symm).trans h)⟩
    obtain ⟨a5, a6, a7, a8⟩ := q5 _ _ _ ya (by omega) (by omega)
    obtain ⟨b5, b6, b7, b8⟩ := q5 _ _ _ yb (by omega) (by omega)
    have SS := Lib.hid (show ∀ w', w' = V2.drew ∨ w' = W5.drew ∨ w' = W6.drew ∨ w' = W7.drew ∨ w' = W8.drew → (w'.cell? ⟨na, 0, none⟩ = some (.int .i64 ap) ∧ w'.cell? ⟨na, 1, none⟩ = some (.int .i64 aq)) ∧ (w'.cell? ⟨nb, 0, none⟩ = some (.int .i64 bp) ∧ w'.cell? ⟨nb, 1, none⟩ = some (.int .i64 bq)) from fun w' h => by
      rcases h with rfl | rfl | rfl | rfl | rfl
      · exact ⟨⟨ya.c0, ya.c1⟩, yb.c0, yb.c1⟩
      · exact ⟨⟨a5.c0, a5.c1⟩, b5.c0, b5.c1⟩
      · exact ⟨⟨a6.c0, a6.c1⟩, b6.c0, b6.c1⟩
      · exact ⟨⟨a7.c0, a7.c1⟩, b7.c0, b7.c1⟩
      · exact ⟨⟨a8.c0, a8.c1⟩, b8.c0, b8.c1⟩)
    have E6 := Lib.hid (show Bk W6 w.heap.size (.int .i64 ap) (.int .i64 aq) 36 ∧ Bk W6 W0.heap.size (.int .i64 bp) (.int .i64 bq) 36 from ⟨(r6 _ (by omega)).trans y52, by obtain ⟨Wx, hWx, g, _⟩ := storedK6 y53 (.int .i64 bp) (.int .i64 bq); rw [← hW6, hWx]; exact g⟩)
    have E8 := Lib.hid (show Bk W8 w.heap.size (.int .i64 ap) (.int .i64 aq) 36 ∧ Bk W8 W0.heap.size (.int .i64 bp) (.int .i64 bq) 36 from ⟨by obtain ⟨Wx, hWx, g, _⟩ := storedK6 y72 (.int .i64 ap) (.int .i64 aq); rw [← hW8, hWx]; exact g, (r8 _ (by omega)).trans y73⟩)
    have B6' := Lib.hid (bV.trans ((B5 _ (Nat.le_refl _)).trans (B6 _ (by omega))))
    have B8' := Lib.hid (bV.trans ((B7 _ (by omega)).trans (B8 _ (Nat.le_refl _))))
    have c0 := ya.c0
    have c1 := ya.c1
    have d0 := yb.c0
    have d1 := yb.c1
    have p0 := y2.c0
    have p1 := y2.c1
    have p2 := y2.f 0
    have p3 := y2.f 1
    have q0 := y3.c0
    have q1 := y3.c1
    have q2 := y3.f 0
    have q3 := y3.f 1
    have u0 := y53.c0
    have u1 := y53.c1
    have u2 := y53.f 0
    have u3 := y53.f 1
    have v0 := y72.c0
    have v1 := y72.c1
    have v2 := y72.f 0
    have v3 := y72.f 1
    have hIMG := Lib.hid (img_bool k1 k2 ea eb ec ed j1 j2 (.inl ⟨by rw [U.out, VV.out]; omega, rfl, rfl, rfl, rfl⟩))
    clear q5 a5 a6 a7 a8 b5 b6 b7 b8 y2 y3 ya yb y52 y53 y72 y73 r5 r6 r7 r8 B5 B6 B7 B8 bV
    go_wp2
    go_region_held3 (fun w' => (w'.cell? ⟨na, 0, none⟩ = some (.int .i64 ap) ∧ w'.cell? ⟨na, 1, none⟩ = some (.int .i64 aq)) ∧ (w'.cell? ⟨nb, 0, none⟩ = some (.int .i64 bp) ∧ w'.cell? ⟨nb, 1, none⟩ = some (.int .i64 bq)))
      (first | exact SS.out _ (.inl rfl) | exact SS.out _ (.inr (.inl rfl)) | exact SS.out _ (.inr (.inr (.inl rfl))) | exact SS.out _ (.inr (.inr (.inr (.inl rfl)))) | exact SS.out _ (.inr (.inr (.inr (.inr rfl)))) | (simp only [hW5, hW6, hW7, hW8]; first | exact SS.out _ (.inr (.inl rfl)) | exact SS.out _ (.inr (.inr (.inl rfl))) | exact SS.out _ (.inr (.inr (.inr (.inl rfl)))) | exact SS.out _ (.inr (.inr (.inr (.inr rfl))))) | fail) (fail)
    all_goals
      first
        | (have e0 : W6.drew.cell? _ = _ := E6.out.1.c0
           have e1 : W6.drew.cell? _ = _ := E6.out.1.c1
           have e2 : W6.drew.cell? _ = _ := E6.out.2.c0
           have e3 : W6.drew.cell? _ = _ := E6.out.2.c1
           go_wp2
           refine bodyPost_ret (v := .tuple #[.agg #[.int .i64 ap, .int .i64 aq], .agg #[.int .i64 bp, .int .i64 bq]]) (by simp [results, Try.results61, go_sem, e0, e1, e2, e3]; done) rfl ?_
           exact ⟨⟨_, _, _, _, rfl, ⟨j1, a9⟩, ⟨j2, b9⟩, hIMG.out⟩, B6'.out.drew⟩)
        | (have e0 : W8.drew.cell? _ = _ := E8.out.1.c0
           have e1 : W8.drew.cell? _ = _ := E8.out.1.c1
           have e2 : W8.drew.cell? _ = _ := E8.out.2.c0
           have e3 : W8.drew.cell? _ = _ := E8.out.2.c1
           go_wp2
           refine bodyPost_ret (v := .tuple #[.agg #[.int .i64 ap, .int .i64 aq], .agg #[.int .i64 bp, .int .i64 bq]]) (by simp [results, Try.results61, go_sem, e0, e1, e2, e3]; done) rfl ?_
           exact ⟨⟨_, _, _, _, rfl, ⟨j1, a9⟩, ⟨j2, b9⟩, hIMG.out⟩, B8'.out.drew⟩)
end Go.Proofs.Yteemkophifcimaa.Sx
