/-
  Equal books, by the code; the law's walk.
-/
import Derived.Test.YtejmncldmnkakaaJ4
namespace Go.Proofs.Ytejmncldmnkakaa.Sx
open Go Go.RowKit
set_option linter.unusedVariables false
set_option linter.unusedSimpArgs false

set_option maxRecDepth 1000000 in
set_option maxHeartbeats 4000000 in
theorem equalL {w : World} {ls ms : List Ln} {v u : Value} (h : IsLn w ls v) (h' : IsLn w ms u) (hn : ls.length ≤ 1048576) (hm : ms.length ≤ 1048576) :
    Calls Try.prog 11 #[v, u] w fun e w' => e = .returned (.bool (sameL ls ms)) ∧ Below w.heap.size w w' := by
  obtain ⟨s0, k0, rfl⟩ := h.form
  obtain ⟨s1, k1, rfl⟩ := h'.form
  have hlB : ∀ (s : Option Addr) (n k : Nat) (W : World), (Builtin.len_ #[25] 3 #[.slice s n k]).run Try.prog W = .ok (.int .i64 n) W := fun s n k W => rfl
  obtain ⟨n, hnn⟩ : ∃ n, ls.length = n := ⟨_, rfl⟩
  obtain ⟨m, hmm⟩ : ∃ m, ms.length = m := ⟨_, rfl⟩
  rw [hnn] at h hn ⊢
  rw [hmm] at h' hm ⊢
  have H1 := Lib.hid h
  have H2 := Lib.hid h'
  have HN := Lib.hid hnn
  have HM := Lib.hid hmm
  clear h h' hnn hmm
  by_cases hl : n = m
  · subst hl
    obtain ⟨r, hr⟩ : ∃ r, sameL ls ms = r := ⟨_, rfl⟩
    have HR := Lib.hid hr
    rw [hr]
    clear hr
    go_enter Try.func11, Try.ntmps11
    go_wp2
    go_loopw [5, 13] (fun x i wr => ∃ j : Nat, j ≤ n ∧ i = .int .i64 j ∧ Below w.heap.size w wr ∧ Hid (∀ i, i < j → ls[i]? = ms[i]?)) (fun _ i _ => n - (RowKit.intOf i).toNat)
    case atStart => exact ⟨0, by omega, rfl, Below.refl _ _, fun i h => absurd h (Nat.not_lt_zero _)⟩
    case round =>
      obtain ⟨j, hj, rfl, hb, hE⟩ := hrel
      by_cases hlt : j < n
      · obtain ⟨L, hL⟩ : ∃ L, ls[j]? = some L := ⟨_, List.getElem?_eq_getElem (by have := HN.out; omega)⟩
        obtain ⟨M, hM⟩ : ∃ M, ms[j]? = some M := ⟨_, List.getElem?_eq_getElem (by have := HM.out; omega)⟩
        obtain ⟨g, o, rfl, A⟩ := (H1.out.keep hb).at6 hL
        obtain ⟨g', o', rfl, B⟩ := (H2.out.keep hb).at6 hM
        have a0 := A.c0
        have a1 := A.c1
        have a2 := A.c2
        have a3 := A.c3
        have a4 := A.c4
        have a5 := A.c5
        have b0 := B.c0
        have b1 := B.c1
        have b2 := B.c2
        have b3 := B.c3
        have b4 := B.c4
        have b5 := B.c5
        have gj : (j : Int) < n := by omega
        clear A B
        by_cases he : L = M
        · subst he
          have HE : Hid (∀ i, i < j + 1 → ls[i]? = ms[i]?) := fun i hi => by
            by_cases e : i = j
            · subst e; rw [hL, hM]
            · exact hE.out i (by omega)
          clear hL hM
          go_wp2
          go_region
          all_goals
            go_wp2
            go_roundw
            case rel => exact ⟨j + 1, by omega, by simp, hb.drew, HE⟩
            case measure => simp [RowKit.intOf]; omega
        · have HF := Lib.hid (sameL_at hL hM he)
          clear hL hM
          by_cases e0 : L.nm.toList = M.nm.toList
          · by_cases e1 : L.kd = M.kd
            · by_cases e2 : L.a.toList = M.a.toList
              · by_cases e3 : L.b.toList = M.b.toList
                · by_cases e4 : L.p = M.p
                  · by_cases e5 : L.q = M.q
                    · exact absurd (lnEq e0 e1 e2 e3 e4 e5) he
                    · go_wp2
                      go_region
                      all_goals
                        go_wp2
                        go_ret
                        exact ⟨by rw [← HR.out, HF.out]; rfl, hb.drew⟩
                  · go_wp2
                    go_region
                    all_goals
                      go_wp2
                      go_ret
                      exact ⟨by rw [← HR.out, HF.out]; rfl, hb.drew⟩
                · go_wp2
                  go_region
                  all_goals
                    go_wp2
                    go_ret
                    exact ⟨by rw [← HR.out, HF.out]; rfl, hb.drew⟩
              · go_wp2
                go_region
                all_goals
                  go_wp2
                  go_ret
                  exact ⟨by rw [← HR.out, HF.out]; rfl, hb.drew⟩
            · go_wp2
              go_region
              all_goals
                go_wp2
                go_ret
                exact ⟨by rw [← HR.out, HF.out]; rfl, hb.drew⟩
          · go_wp2
            go_region
            all_goals
              go_wp2
              go_ret
              exact ⟨by rw [← HR.out, HF.out]; rfl, hb.drew⟩
      · obtain rfl : j = n := by omega
        have HF := Lib.hid (sameL_all HN.out HM.out hE.out)
        go_wp2
        go_ret
        exact ⟨by rw [← HR.out, HF.out]; rfl, hb⟩
  · have HF := Lib.hid (sameL_len (ls := ls) (ms := ms) (by rw [HN.out, HM.out]; exact hl))
    have hb : ((n : Int) == (m : Int)) = false := by rw [beq_eq_false_iff_ne]; omega
    go_enter Try.func11, Try.ntmps11
    go_wp2
    go_ret
    exact ⟨by rw [HF.out]; rfl, Below.refl _ _⟩
set_option maxRecDepth 1000000 in
set_option maxHeartbeats 4000000 in
theorem sameI {w : World} {ls ms : List Ln} {v u : Value} (h : IsLn w ls v) (h' : IsLn w ms u) (hn : ls.length ≤ 1048576) (hm : ms.length ≤ 1048576) :
    Calls Try.prog 7 #[v, u] w fun e w' => e = .returned (.bool (sameL ls ms)) ∧ Below w.heap.size w w' := by
  have q := equalL h h' hn hm
  obtain ⟨s0, k0, rfl⟩ := h.form
  obtain ⟨s1, k1, rfl⟩ := h'.form
  clear h h'
  go_enter Try.func7, Try.ntmps7
  go_wp2_with (go_at_call 11; refine q.mono ?_)
  first | (rintro e W1 rfl b1) | (rintro e W1 ⟨rfl, b1⟩)
  go_wp2
  go_ret
  exact ⟨rfl, b1⟩
set_option maxRecDepth 1000000 in
set_option maxHeartbeats 4000000 in
theorem law_SameBook {w : World} {ls ms : List Ln} {v u : Value} (h : IsLn w ls v) (h' : IsLn w ms u) (hk : ∀ L ∈ ls, LnOk L) (hk' : ∀ L ∈ ms, LnOk L) (hl : ls.length ≤ 9223372036854775807) (hm : ms.length ≤ 9223372036854775807) :
    Calls Try.prog 3 #[v, u] w fun e w' => e = .returned (.bool true) ∧ Below w.heap.size w w' := by
  have m0 := szLnS h hk hl 1048576 (by omega) (by omega)
  obtain ⟨s0, k0, rfl⟩ := h.form
  obtain ⟨s1, k1, rfl⟩ := h'.form
  go_enter Try.func3, Try.ntmps3
  go_wp2_with (go_at_call 4; refine m0.mono ?_)
  rintro e W1 ⟨r1, rfl, hr1, b1⟩
  rcases hr1 with rfl | ⟨p1, p2, p3⟩
  · go_wp2
    go_ret
    exact ⟨rfl, b1⟩
  · have d1 : decide (r1 < 0) = false := decide_eq_false (by omega)
    have m1 := szLnS (h'.keep b1) hk' hm r1 p1 p2
    clear m0
    go_wp2_with (go_at_call 4; refine m1.mono ?_)
    rintro e W2 ⟨r2, rfl, hr2, b2⟩
    have B2 := b1.trans (b2.mono b1.size)
    rcases hr2 with rfl | ⟨q1, q2, q3⟩
    · go_wp2
      go_ret
      exact ⟨rfl, B2⟩
    · have d2 : decide (r2 < 0) = false := decide_eq_false (by omega)
      have l1 : ls.length ≤ 1048576 := by omega
      have l2 : ms.length ≤ 1048576 := by omega
      have t3 := toLnS (h.keep B2) l1
      clear m1 b1 b2 d1 hk hk' hl hm p3 q3
      go_wp2_with (go_at_call 6; refine t3.mono ?_)
      rintro e W3 ⟨⟨g3, cs3, rfl, z3, h3, e3, i3⟩, b3⟩
      have I3 := CopyL.is i3
      have B3 := B2.trans (b3.mono B2.size)
      have t4 := toLnS (h'.keep B3) l2
      clear t3 h3 e3 i3 b3 z3 B2
      go_wp2_with (go_at_call 6; refine t4.mono ?_)
      rintro e W4 ⟨⟨g4, cs4, rfl, z4, h4, e4, i4⟩, b4⟩
      have I3 := I3.keep b4
      have I4 := CopyL.is i4
      have B4 := B3.trans (b4.mono B3.size)
      have s5 := sameS I3 I4 l1 l2
      obtain ⟨bb, hbb⟩ : ∃ bb, sameL ls ms = bb := ⟨_, rfl⟩
      rw [hbb] at s5
      clear t4 h4 e4 i4 b4 z4 B3
      go_wp2_with (go_at_call 5; refine s5.mono ?_)
      first | (rintro e W5 rfl b5) | (rintro e W5 ⟨rfl, b5⟩)
      have B5 := B4.trans (b5.mono B4.size)
      have t6 := toLnS (h.keep B5) l1
      clear s5 I3 I4 b5 B4
      go_wp2_with (go_at_call 6; refine t6.mono ?_)
      rintro e W6 ⟨⟨g6, cs6, rfl, z6, h6, e6, i6⟩, b6⟩
      have I6 := CopyL.is i6
      have B6 := B5.trans (b6.mono B5.size)
      have t7 := toLnS (h'.keep B6) l2
      clear t6 h6 e6 i6 b6 z6 B5
      go_wp2_with (go_at_call 6; refine t7.mono ?_)
      rintro e W7 ⟨⟨g7, cs7, rfl, z7, h7, e7, i7⟩, b7⟩
      have I6 := I6.keep b7
      have I7 := CopyL.is i7
      have B7 := B6.trans (b7.mono B6.size)
      have s8 := sameI I6 I7 l1 l2
      rw [hbb] at s8
      clear t7 h7 e7 i7 b7 z7 B6 hbb
      go_wp2_with (go_at_call 7; refine s8.mono ?_)
      first | (rintro e W8 rfl b8) | (rintro e W8 ⟨rfl, b8⟩)
      have I6 := I6.keep b8
      have I7 := I7.keep b8
      have B8 := B7.trans (b8.mono B7.size)
      have t9 := toLnS (h.keep B8) l1
      clear s8 b8 B7
      go_wp2_with (go_at_call 6; refine t9.mono ?_)
      rintro e W9 ⟨⟨g9, cs9, rfl, z9, h9, e9, i9⟩, b9⟩
      have I6 := I6.keep b9
      have I7 := I7.keep b9
      have I9 := CopyL.is i9
      have B9 := B8.trans (b9.mono B8.size)
      have q9 := eqLnS I6 I9 l1
      clear t9 h9 e9 i9 b9 z9 B8
      go_wp2_with (go_at_call 8; refine q9.mono ?_)
      first | (rintro e W10 rfl b10) | (rintro e W10 ⟨rfl, b10⟩)
      have I7 := I7.keep b10
      have B10 := B9.trans (b10.mono B9.size)
      have t11 := toLnS (h'.keep B10) l2
      clear q9 I6 I9 b10 B9
      go_wp2_with (go_at_call 6; refine t11.mono ?_)
      rintro e W11 ⟨⟨g11, cs11, rfl, z11, h11, e11, i11⟩, b11⟩
      have I7 := I7.keep b11
      have I11 := CopyL.is i11
      have B11 := B10.trans (b11.mono B10.size)
      have q11 := eqLnS I7 I11 l2
      clear t11 h11 e11 i11 b11 z11 B10
      go_wp2_with (go_at_call 8; refine q11.mono ?_)
      first | (rintro e W12 rfl b12) | (rintro e W12 ⟨rfl, b12⟩)
      have B12 := B11.trans (b12.mono B11.size)
      go_wp2
      go_ret
      exact ⟨rfl, B12⟩
end Go.Proofs.Ytejmncldmnkakaa.Sx
