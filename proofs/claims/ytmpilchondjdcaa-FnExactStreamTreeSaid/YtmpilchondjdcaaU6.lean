/-
  The tree of a stream, by the model.
-/
import Derived.Test.YtmpilchondjdcaaU5
namespace Go.Proofs.Ytmpilchondjdcaa.Sx
open Go Go.RowKit
set_option linter.unusedVariables false
set_option linter.unusedSimpArgs false

theorem dg_in {a b : List Int} {j : Nat} (hj : j < a.length + b.length) : dg a b j = dgp a b j := by
  unfold dg plc
  by_cases h : j < a.length
  · rw [if_pos h]
  · rw [if_neg h, Nat.mod_eq_of_lt (by omega), show a.length + (j - a.length) = j by omega]
set_option maxRecDepth 1000000 in
set_option maxHeartbeats 8000000 in
theorem treeS_no (a b : List Int) (hv : vsB a b = false) (la : a.length ≤ 9223372036854775807) (lb : b.length ≤ 9223372036854775807) : DoesTr 15 a b [] 0 1 := by
  intro w v0 v1 h0 h1
  obtain ⟨s0, k0, rfl⟩ := h0.form
  obtain ⟨s1, k1, rfl⟩ := h1.form
  obtain ⟨W, hW, hB, x⟩ := boxK w (.slice s0 a.length k0) (.slice s1 b.length k1) 26
  obtain ⟨V, hV, hB2, r⟩ := boxN W #[.slice none 0 0] 35
  have hB3 := hB.trans (hB2.mono hB.size)
  have x := x.keep hB2
  have ok := okS x (h0.keep hB3) (h1.keep hB3) la lb
  rw [hv] at ok
  have R := Lib.hid r
  have z1 : w.heap.size ≤ W.heap.size := hB.size
  clear hv h0 h1 x r
  go_enter Try.func15, Try.ntmps15
  go_wp2_with (go_at_call 21; refine ok.mono ?_)
  first | (rintro e W1 rfl hs) | (rintro e W1 ⟨rfl, hs⟩)
  obtain rfl := hs.out
  clear hs ok
  obtain ⟨q0, f0⟩ := cell1 R.out
  obtain ⟨W9, hW9, h9, r9, z9, B9⟩ := set1 R.out (.slice none 0 0)
  obtain ⟨e0, _⟩ := cell1 h9
  go_wp2
  refine bodyPost_ret (v := .tuple #[.agg #[.slice none 0 0], .int .i64 1]) (by simp [results, Try.results15, go_sem, e0]) rfl ?_
  exact ⟨⟨_, _, rfl, World.ownsRow_nil _ _ _ _⟩, hB3.trans (B9 _ z1)⟩
set_option maxRecDepth 1000000 in
set_option maxHeartbeats 8000000 in
theorem treeS_yes (a b : List Int) (hv : vsB a b = true) : DoesTr 15 a b (rwL a b (a.length + b.length)) (a.length + b.length) 0 := by
  intro w v0 v1 h0 h1
  have hvv := (vsB_iff a b).1 hv
  obtain ⟨s0, k0, rfl⟩ := h0.form
  obtain ⟨s1, k1, rfl⟩ := h1.form
  obtain ⟨i0, hi, hz0, hz1, hz2⟩ := info_parts infoF
  obtain ⟨W, hW, hB, x⟩ := boxK w (.slice s0 a.length k0) (.slice s1 b.length k1) 26
  obtain ⟨V, hV, hB2, r⟩ := boxN W #[.slice none 0 0] 35
  have hB3 := hB.trans (hB2.mono hB.size)
  have x := x.keep hB2
  have ok := okS x (h0.keep hB3) (h1.keep hB3) (by omega) (by omega)
  rw [hv] at ok
  have c0 := x.c0
  have c1 := x.c1
  have z1 : W.heap.size = w.heap.size + 1 := by rw [← hW]; simp
  have z2 : V.heap.size = w.heap.size + 2 := by rw [← hV]; simp; omega
  rw [z1] at r
  have X := Lib.hid x
  have R := Lib.hid r
  have I0 := Lib.hid h0
  have I1 := Lib.hid h1
  have la : a.length ≤ 16 := hvv.1
  have lb : b.length ≤ 14 := hvv.2.2.1
  have lb1 : 1 ≤ b.length := hvv.2.1
  have hlB : ∀ (s : Option Addr) (n k : Nat) (W : World), (Builtin.len_ #[22] 3 #[.slice s n k]).run Try.prog W = .ok (.int .i64 n) W := fun s n k W => rfl
  obtain ⟨N, hN⟩ : ∃ N, a.length + b.length = N := ⟨_, rfl⟩
  have nN : (a.length : Int) + b.length = N := by omega
  have HNN := Lib.hid hN
  rw [hN]
  clear hv hvv h0 h1 x r
  go_enter Try.func15, Try.ntmps15
  go_wp2_with (go_at_call 21; refine ok.mono ?_)
  first | (rintro e W1 rfl hs) | (rintro e W1 ⟨rfl, hs⟩)
  obtain rfl := hs.out
  clear hs
  obtain ⟨U, hU, bU, tt⟩ := boxN W1 #[.slice none 0 0] 35
  obtain ⟨Tb, hTb⟩ : ∃ Tb, w.heap.size + 2 = Tb := ⟨_, rfl⟩
  rw [hTb] at z2
  rw [z2] at tt
  obtain ⟨U2, hU2, tt2, rU, zU2, BU⟩ := set1 tt (.slice none 0 0)
  obtain ⟨q0, f0⟩ := cell1 tt
  have x0 := X.out.keep bU
  have r0 := at_keep R.out bU
  have hB4 := hB3.trans (bU.mono hB3.size)
  have zU : U.heap.size = Tb + 1 := by rw [← hU, ← z2]; simp
  have x : Bk U2 w.heap.size (.slice s0 a.length k0) (.slice s1 b.length k1) 26 := (rU _ (by omega)).trans x0
  have r := (rU _ (by omega)).trans r0
  have hB5 := hB4.trans (BU _ (by omega))
  have c0 := x0.c0
  have c1 := x0.c1
  clear bU x0 r0 BU
  have T0 := Lib.hid (show Tm w a b (.slice s0 a.length k0) (.slice s1 b.length k1) Tb 0 (.slice none 0 0) U2 from ⟨x, r, tt2, World.ownsRow_nil _ _ _ _, hB5, by omega, by omega⟩)
  clear x r tt
  go_wp2
  go_loopw [6, 7] (fun i nxt wr => ∃ (j : Nat) (v : Value), j ≤ N ∧ i = .int .i64 j ∧ Tm w a b (.slice s0 a.length k0) (.slice s1 b.length k1) Tb j v wr) (fun i _ _ => N - (RowKit.intOf i).toNat)
  case atStart => exact ⟨0, _, Nat.zero_le _, rfl, T0.out⟩
  case round =>
    obtain ⟨j, v, hj, rfl, hT⟩ := hrel
    obtain ⟨sv, cv, rfl⟩ := own_formN hT.row
    have x := hT.sx
    have c0 := x.c0
    have c1 := x.c1
    obtain ⟨tc, tf⟩ := cell1 hT.tx
    have HT := Lib.hid hT
    have szT := hT.sz
    have gtT := hT.gt
    clear x hB hB2 hB3 hB4 ok hW hV hU T0 hT hU2 tt2 rU zU2
    by_cases hlt : j < N
    · have hp : j < a.length + b.length := by have := HNN.out; omega
      have ca := ats (w := wr.drew) (B := w.heap.size) (k := j) ⟨HT.out.sx.same (w' := wr.drew) rfl, (I0.out.keep HT.out.bl).same rfl, (I1.out.keep HT.out.bl).same rfl⟩ (by omega) (by omega) lb1 (by omega)
      rw [dg_in hp] at ca
      obtain ⟨d, hd⟩ : ∃ d, dgp a b j = d := ⟨_, rfl⟩
      rw [hd] at ca
      have HD := Lib.hid hd
      have dD : Below wr.heap.size wr wr.drew := (Below.refl _ _).drew
      clear hd
      by_cases he : j + 1 = N
      · have hb : ((j : Int) + 1 == (N : Int)) = true := by rw [beq_iff_eq]; omega
        obtain ⟨X9, hX9⟩ : ∃ X9, a.length = X9 := ⟨_, rfl⟩
        have HX9 := Lib.hid (show nx a b j = X9 by unfold nx; rw [if_neg (by omega)]; exact hX9)
        have e16 : IntKind.i16.wrap (X9 : Int) = X9 := wr16 (by omega)
        have KEY := Lib.hid (show rwL a b (j + 1) = rwL a b j ++ [.int .i8 2, .int .i8 d, .int .i16 X9, .int .i16 0, .int .i16 0] by rw [rwL_succ]; unfold fkL; rw [HD.out, HX9.out])
        have e17 : IntKind.i16.wrap (a.length : Int) = X9 := by rw [hX9]; exact e16
        clear hX9 he
        go_wp2
        refine wp_region_held_drew (S := fun _ => True) (by kernel_rfl) trivial (fun hS => ?_)
        refine takeH (i := 0) (.pointer (some ⟨Tb, 0, none⟩)) rfl (by kernel_rfl) (by kernel_rfl) (by kernel_rfl) (fun _ _ _ h => h) (by kernel_rfl) hS (fun w' hw' => ?_) ?_
        · go_simp
          try with_reducible rfl
        simp only [Act.put, List.getElem_toArray, List.getElem_cons_zero, List.getElem_cons_succ, List.setIfInBounds_toArray, List.set_cons_zero, List.set_cons_succ]
        refine takeH (i := 2) (.int .i64 j) rfl (by kernel_rfl) (by kernel_rfl) (by kernel_rfl) (fun _ _ _ h => h) (by kernel_rfl) hS (fun w' hw' => ?_) ?_
        · go_simp
          try with_reducible rfl
        simp only [Act.put, List.getElem_toArray, List.getElem_cons_zero, List.getElem_cons_succ, List.setIfInBounds_toArray, List.set_cons_zero, List.set_cons_succ]
        refine takeH (i := 4) (.int .i64 a.length) rfl (by kernel_rfl) (by kernel_rfl) (by kernel_rfl) (fun _ _ _ h => h) (by kernel_rfl) hS (fun w' hw' => ?_) ?_
        · go_simp
          try with_reducible rfl
        simp only [Act.put, List.getElem_toArray, List.getElem_cons_zero, List.getElem_cons_succ, List.setIfInBounds_toArray, List.set_cons_zero, List.set_cons_succ]
        refine takeH (i := 5) (.int .i16 X9) rfl (by kernel_rfl) (by kernel_rfl) (by kernel_rfl) (fun _ _ _ h => h) (by kernel_rfl) hS (fun w' hw' => ?_) ?_
        · go_simp
          try with_reducible rfl
        simp only [Act.put, List.getElem_toArray, List.getElem_cons_zero, List.getElem_cons_succ, List.setIfInBounds_toArray, List.set_cons_zero, List.set_cons_succ]
        refine takeH (i := 6) (.agg #[.int .i16 X9, .int .i16 0, .int .i16 0]) rfl (by kernel_rfl) (by kernel_rfl) (by kernel_rfl) (fun _ _ _ h => h) (by kernel_rfl) hS (fun w' hw' => ?_) ?_
        · go_simp
          try with_reducible rfl
        simp only [Act.put, List.getElem_toArray, List.getElem_cons_zero, List.getElem_cons_succ, List.setIfInBounds_toArray, List.set_cons_zero, List.set_cons_succ]
        refine wpAnyH_ready (rs := [1, 3]) (by kernel_rfl) (by simp) ?_
        refine AllReadyH.cons rfl (fun K hK => ?_) (AllReadyH.cons rfl (fun K hK => ?_) AllReadyH.nil)
        · go_simp
          refine hK.out _ _ hS (fun hS => ?_)
          clear hK K
          try simp only [Act.put, List.getElem_toArray, List.getElem_cons_zero, List.getElem_cons_succ, List.setIfInBounds_toArray, List.set_cons_zero, List.set_cons_succ]
          refine wpAnyH_ready (rs := [3]) (by kernel_rfl) (by simp) ?_
          refine AllReadyH.cons rfl (fun K hK => ?_) AllReadyH.nil
          go_simp
          go_at_call 30
          refine ca.mono ?_
          rintro e W4 ⟨rfl, b4⟩
          dsimp only
          have b4 := dD.trans b4
          have z4 := b4.size
          refine hK.out _ _ trivial (fun hS => ?_)
          clear hK K
          try simp only [Act.put, List.getElem_toArray, List.getElem_cons_zero, List.getElem_cons_succ, List.setIfInBounds_toArray, List.set_cons_zero, List.set_cons_succ]
          refine takeH (i := 7) (.agg #[.int .i8 2, .int .i8 d, .int .i16 X9, .int .i16 0, .int .i16 0]) rfl (by kernel_rfl) (by kernel_rfl) (by kernel_rfl) (fun _ _ _ h => h) (by kernel_rfl) hS (fun w' hw' => ?_) ?_
          · go_simp
            try with_reducible rfl
          simp only [Act.put, List.getElem_toArray, List.getElem_cons_zero, List.getElem_cons_succ, List.setIfInBounds_toArray, List.set_cons_zero, List.set_cons_succ]
          refine wpAnyH_ready (rs := [8]) (by kernel_rfl) (by simp) ?_
          refine AllReadyH.cons rfl (fun K hK => ?_) AllReadyH.nil
          go_simp
          obtain ⟨W5, hW5, bb5, x5⟩ := boxN W4 #[.int .i8 2, .int .i8 d, .int .i16 X9, .int .i16 0, .int .i16 0] 53
          rw [hW5]
          have b5 := b4.trans (bb5.mono b4.size)
          have z5 := bb5.size
          refine hK.out _ _ trivial (fun hS => ?_)
          clear hK K
          try simp only [Act.put, List.getElem_toArray, List.getElem_cons_zero, List.getElem_cons_succ, List.setIfInBounds_toArray, List.set_cons_zero, List.set_cons_succ]
          refine wpAnyH_ready (rs := [9]) (by kernel_rfl) (by simp) ?_
          refine AllReadyH.cons rfl (fun K hK => ?_) AllReadyH.nil
          refine step_ownN (by kernel_rfl) _ _ _ (by rfl) (Tb + 1) 53 i0 (.agg #[.int .i8 0, .int .i8 0, .int .i16 0, .int .i16 0, .int .i16 0]) 5 8 Try.underlying33 hi hz0 hz1 hz2 rfl (by decide) (.slice sv j cv) j (rwL a b j) (by rfl) (row_underN (k := 0) HT.out.row b5) ⟨W4.heap.size, 0, none⟩ 1 1 [.int .i8 2, .int .i8 d, .int .i16 X9, .int .i16 0, .int .i16 0] (by rfl) (by rfl) (by rw [← hW5]; exact newN _ _ _) (five1 _ _ _ _ _) (by unfold maxLen; omega) (by omega) (by omega) ?_
          intro v' w5 hown hgrow
          have hrow5 := row_underN (k := 0) HT.out.row b5
          have gb : ∀ k, k < Tb + 1 → w5.heap[k]? = W5.heap[k]? := fun k hk => hgrow.block k (by omega) (fun e => by have := (hrow5.lt k e.symm).1; omega)
          have bl5 : Below w.heap.size w w5 := (HT.out.bl.trans (b5.mono HT.out.bl.size)).grown hgrow (by omega) fun k hk => by have := (hrow5.lt k hk).1; omega
          obtain ⟨sv', cv', rfl⟩ := own_formN hown
          have tx5 := (gb Tb (by omega)).trans (at_keep HT.out.tx b5)
          have sx5 : Bk w5 w.heap.size (.slice s0 a.length k0) (.slice s1 b.length k1) 26 := (gb _ (by omega)).trans (HT.out.sx.keep b5)
          have rx5 := (gb (w.heap.size + 1) (by omega)).trans (at_keep HT.out.rx b5)
          obtain ⟨t5, f5⟩ := cell1 tx5
          have zz5 := hgrow.size
          refine hK.out _ _ trivial (fun hS => ?_)
          clear hK K
          try simp only [Act.put, List.getElem_toArray, List.getElem_cons_zero, List.getElem_cons_succ, List.setIfInBounds_toArray, List.set_cons_zero, List.set_cons_succ]
          refine takeH (i := 10) (.pointer (some ⟨Tb, 0, none⟩)) rfl (by kernel_rfl) (by kernel_rfl) (by kernel_rfl) (fun _ _ _ h => h) (by kernel_rfl) hS (fun w' hw' => ?_) ?_
          · go_simp
            try with_reducible rfl
          simp only [Act.put, List.getElem_toArray, List.getElem_cons_zero, List.getElem_cons_succ, List.setIfInBounds_toArray, List.set_cons_zero, List.set_cons_succ]
          refine wpAnyH_ready (rs := [11]) (by kernel_rfl) (by simp) ?_
          refine AllReadyH.cons rfl (fun K hK => ?_) AllReadyH.nil
          obtain ⟨W6, hW6, h6, r6, z6, B6⟩ := set1 tx5 (.slice sv' (j + 1) cv')
          have sx6 : Bk W6 w.heap.size (.slice s0 a.length k0) (.slice s1 b.length k1) 26 := (r6 _ (by omega)).trans sx5
          go_simp
          refine hK.out _ _ trivial (fun hS => ?_)
          clear hK K
          try simp only [Act.put, List.getElem_toArray, List.getElem_cons_zero, List.getElem_cons_succ, List.setIfInBounds_toArray, List.set_cons_zero, List.set_cons_succ]
          refine wpAnyH_done (by kernel_rfl) ?_ _
          have TM := Lib.hid (show Tm w a b (.slice s0 a.length k0) (.slice s1 b.length k1) Tb (j + 1) (.slice sv' (j + 1) cv') W6 from ⟨sx6, (r6 _ (by omega)).trans rx5, h6, row_rest (by rw [KEY.out]; exact hown) (Nat.lt_succ_self _) r6, bl5.trans (B6 _ (by omega)), by omega, gtT⟩)
          clear hown hgrow gb bl5 tx5 sx5 rx5 t5 f5 sx6 h6 r6 B6 hW6 hrow5
          go_wp2
          go_roundw
          case rel => exact ⟨j + 1, _, by omega, by simp, TM.out⟩
          case measure => simp [RowKit.intOf]; omega
        · go_simp
          go_at_call 30
          refine ca.mono ?_
          rintro e W4 ⟨rfl, b4⟩
          dsimp only
          have b4 := dD.trans b4
          have z4 := b4.size
          refine hK.out _ _ trivial (fun hS => ?_)
          clear hK K
          try simp only [Act.put, List.getElem_toArray, List.getElem_cons_zero, List.getElem_cons_succ, List.setIfInBounds_toArray, List.set_cons_zero, List.set_cons_succ]
          refine takeH (i := 7) (.agg #[.int .i8 2, .int .i8 d, .int .i16 X9, .int .i16 0, .int .i16 0]) rfl (by kernel_rfl) (by kernel_rfl) (by kernel_rfl) (fun _ _ _ h => h) (by kernel_rfl) hS (fun w' hw' => ?_) ?_
          · go_simp
            try with_reducible rfl
          simp only [Act.put, List.getElem_toArray, List.getElem_cons_zero, List.getElem_cons_succ, List.setIfInBounds_toArray, List.set_cons_zero, List.set_cons_succ]
          refine wpAnyH_ready (rs := [1, 8]) (by kernel_rfl) (by simp) ?_
          refine AllReadyH.cons rfl (fun K hK => ?_) (AllReadyH.cons rfl (fun K hK => ?_) AllReadyH.nil)
          · have t4 := (cell1 (at_keep HT.out.tx b4)).1
            go_simp
            refine hK.out _ _ hS (fun hS => ?_)
            clear hK K
            try simp only [Act.put, List.getElem_toArray, List.getElem_cons_zero, List.getElem_cons_succ, List.setIfInBounds_toArray, List.set_cons_zero, List.set_cons_succ]
            refine wpAnyH_ready (rs := [8]) (by kernel_rfl) (by simp) ?_
            refine AllReadyH.cons rfl (fun K hK => ?_) AllReadyH.nil
            go_simp
            obtain ⟨W5, hW5, bb5, x5⟩ := boxN W4 #[.int .i8 2, .int .i8 d, .int .i16 X9, .int .i16 0, .int .i16 0] 53
            rw [hW5]
            have b5 := b4.trans (bb5.mono b4.size)
            have z5 := bb5.size
            refine hK.out _ _ trivial (fun hS => ?_)
            clear hK K
            try simp only [Act.put, List.getElem_toArray, List.getElem_cons_zero, List.getElem_cons_succ, List.setIfInBounds_toArray, List.set_cons_zero, List.set_cons_succ]
            refine wpAnyH_ready (rs := [9]) (by kernel_rfl) (by simp) ?_
            refine AllReadyH.cons rfl (fun K hK => ?_) AllReadyH.nil
            refine step_ownN (by kernel_rfl) _ _ _ (by rfl) (Tb + 1) 53 i0 (.agg #[.int .i8 0, .int .i8 0, .int .i16 0, .int .i16 0, .int .i16 0]) 5 8 Try.underlying33 hi hz0 hz1 hz2 rfl (by decide) (.slice sv j cv) j (rwL a b j) (by rfl) (row_underN (k := 0) HT.out.row b5) ⟨W4.heap.size, 0, none⟩ 1 1 [.int .i8 2, .int .i8 d, .int .i16 X9, .int .i16 0, .int .i16 0] (by rfl) (by rfl) (by rw [← hW5]; exact newN _ _ _) (five1 _ _ _ _ _) (by unfold maxLen; omega) (by omega) (by omega) ?_
            intro v' w5 hown hgrow
            have hrow5 := row_underN (k := 0) HT.out.row b5
            have gb : ∀ k, k < Tb + 1 → w5.heap[k]? = W5.heap[k]? := fun k hk => hgrow.block k (by omega) (fun e => by have := (hrow5.lt k e.symm).1; omega)
            have bl5 : Below w.heap.size w w5 := (HT.out.bl.trans (b5.mono HT.out.bl.size)).grown hgrow (by omega) fun k hk => by have := (hrow5.lt k hk).1; omega
            obtain ⟨sv', cv', rfl⟩ := own_formN hown
            have tx5 := (gb Tb (by omega)).trans (at_keep HT.out.tx b5)
            have sx5 : Bk w5 w.heap.size (.slice s0 a.length k0) (.slice s1 b.length k1) 26 := (gb _ (by omega)).trans (HT.out.sx.keep b5)
            have rx5 := (gb (w.heap.size + 1) (by omega)).trans (at_keep HT.out.rx b5)
            obtain ⟨t5, f5⟩ := cell1 tx5
            have zz5 := hgrow.size
            refine hK.out _ _ trivial (fun hS => ?_)
            clear hK K
            try simp only [Act.put, List.getElem_toArray, List.getElem_cons_zero, List.getElem_cons_succ, List.setIfInBounds_toArray, List.set_cons_zero, List.set_cons_succ]
            refine takeH (i := 10) (.pointer (some ⟨Tb, 0, none⟩)) rfl (by kernel_rfl) (by kernel_rfl) (by kernel_rfl) (fun _ _ _ h => h) (by kernel_rfl) hS (fun w' hw' => ?_) ?_
            · go_simp
              try with_reducible rfl
            simp only [Act.put, List.getElem_toArray, List.getElem_cons_zero, List.getElem_cons_succ, List.setIfInBounds_toArray, List.set_cons_zero, List.set_cons_succ]
            refine wpAnyH_ready (rs := [11]) (by kernel_rfl) (by simp) ?_
            refine AllReadyH.cons rfl (fun K hK => ?_) AllReadyH.nil
            obtain ⟨W6, hW6, h6, r6, z6, B6⟩ := set1 tx5 (.slice sv' (j + 1) cv')
            have sx6 : Bk W6 w.heap.size (.slice s0 a.length k0) (.slice s1 b.length k1) 26 := (r6 _ (by omega)).trans sx5
            go_simp
            refine hK.out _ _ trivial (fun hS => ?_)
            clear hK K
            try simp only [Act.put, List.getElem_toArray, List.getElem_cons_zero, List.getElem_cons_succ, List.setIfInBounds_toArray, List.set_cons_zero, List.set_cons_succ]
            refine wpAnyH_done (by kernel_rfl) ?_ _
            have TM := Lib.hid (show Tm w a b (.slice s0 a.length k0) (.slice s1 b.length k1) Tb (j + 1) (.slice sv' (j + 1) cv') W6 from ⟨sx6, (r6 _ (by omega)).trans rx5, h6, row_rest (by rw [KEY.out]; exact hown) (Nat.lt_succ_self _) r6, bl5.trans (B6 _ (by omega)), by omega, gtT⟩)
            clear hown hgrow gb bl5 tx5 sx5 rx5 t5 f5 sx6 h6 r6 B6 hW6 hrow5
            go_wp2
            go_roundw
            case rel => exact ⟨j + 1, _, by omega, by simp, TM.out⟩
            case measure => simp [RowKit.intOf]; omega
          · go_simp
            obtain ⟨W5, hW5, bb5, x5⟩ := boxN W4 #[.int .i8 2, .int .i8 d, .int .i16 X9, .int .i16 0, .int .i16 0] 53
            rw [hW5]
            have b5 := b4.trans (bb5.mono b4.size)
            have z5 := bb5.size
            refine hK.out _ _ trivial (fun hS => ?_)
            clear hK K
            try simp only [Act.put, List.getElem_toArray, List.getElem_cons_zero, List.getElem_cons_succ, List.setIfInBounds_toArray, List.set_cons_zero, List.set_cons_succ]
            refine wpAnyH_ready (rs := [1]) (by kernel_rfl) (by simp) ?_
            refine AllReadyH.cons rfl (fun K hK => ?_) AllReadyH.nil
            have t5 := (cell1 (at_keep HT.out.tx b5)).1
            go_simp
            refine hK.out _ _ hS (fun hS => ?_)
            clear hK K
            try simp only [Act.put, List.getElem_toArray, List.getElem_cons_zero, List.getElem_cons_succ, List.setIfInBounds_toArray, List.set_cons_zero, List.set_cons_succ]
            refine wpAnyH_ready (rs := [9]) (by kernel_rfl) (by simp) ?_
            refine AllReadyH.cons rfl (fun K hK => ?_) AllReadyH.nil
            refine step_ownN (by kernel_rfl) _ _ _ (by rfl) (Tb + 1) 53 i0 (.agg #[.int .i8 0, .int .i8 0, .int .i16 0, .int .i16 0, .int .i16 0]) 5 8 Try.underlying33 hi hz0 hz1 hz2 rfl (by decide) (.slice sv j cv) j (rwL a b j) (by rfl) (row_underN (k := 0) HT.out.row b5) ⟨W4.heap.size, 0, none⟩ 1 1 [.int .i8 2, .int .i8 d, .int .i16 X9, .int .i16 0, .int .i16 0] (by rfl) (by rfl) (by rw [← hW5]; exact newN _ _ _) (five1 _ _ _ _ _) (by unfold maxLen; omega) (by omega) (by omega) ?_
            intro v' w5 hown hgrow
            have hrow5 := row_underN (k := 0) HT.out.row b5
            have gb : ∀ k, k < Tb + 1 → w5.heap[k]? = W5.heap[k]? := fun k hk => hgrow.block k (by omega) (fun e => by have := (hrow5.lt k e.symm).1; omega)
            have bl5 : Below w.heap.size w w5 := (HT.out.bl.trans (b5.mono HT.out.bl.size)).grown hgrow (by omega) fun k hk => by have := (hrow5.lt k hk).1; omega
            obtain ⟨sv', cv', rfl⟩ := own_formN hown
            have tx5 := (gb Tb (by omega)).trans (at_keep HT.out.tx b5)
            have sx5 : Bk w5 w.heap.size (.slice s0 a.length k0) (.slice s1 b.length k1) 26 := (gb _ (by omega)).trans (HT.out.sx.keep b5)
            have rx5 := (gb (w.heap.size + 1) (by omega)).trans (at_keep HT.out.rx b5)
            obtain ⟨t5, f5⟩ := cell1 tx5
            have zz5 := hgrow.size
            refine hK.out _ _ trivial (fun hS => ?_)
            clear hK K
            try simp only [Act.put, List.getElem_toArray, List.getElem_cons_zero, List.getElem_cons_succ, List.setIfInBounds_toArray, List.set_cons_zero, List.set_cons_succ]
            refine takeH (i := 10) (.pointer (some ⟨Tb, 0, none⟩)) rfl (by kernel_rfl) (by kernel_rfl) (by kernel_rfl) (fun _ _ _ h => h) (by kernel_rfl) hS (fun w' hw' => ?_) ?_
            · go_simp
              try with_reducible rfl
            simp only [Act.put, List.getElem_toArray, List.getElem_cons_zero, List.getElem_cons_succ, List.setIfInBounds_toArray, List.set_cons_zero, List.set_cons_succ]
            refine wpAnyH_ready (rs := [11]) (by kernel_rfl) (by simp) ?_
            refine AllReadyH.cons rfl (fun K hK => ?_) AllReadyH.nil
            obtain ⟨W6, hW6, h6, r6, z6, B6⟩ := set1 tx5 (.slice sv' (j + 1) cv')
            have sx6 : Bk W6 w.heap.size (.slice s0 a.length k0) (.slice s1 b.length k1) 26 := (r6 _ (by omega)).trans sx5
            go_simp
            refine hK.out _ _ trivial (fun hS => ?_)
            clear hK K
            try simp only [Act.put, List.getElem_toArray, List.getElem_cons_zero, List.getElem_cons_succ, List.setIfInBounds_toArray, List.set_cons_zero, List.set_cons_succ]
            refine wpAnyH_done (by kernel_rfl) ?_ _
            have TM := Lib.hid (show Tm w a b (.slice s0 a.length k0) (.slice s1 b.length k1) Tb (j + 1) (.slice sv' (j + 1) cv') W6 from ⟨sx6, (r6 _ (by omega)).trans rx5, h6, row_rest (by rw [KEY.out]; exact hown) (Nat.lt_succ_self _) r6, bl5.trans (B6 _ (by omega)), by omega, gtT⟩)
            clear hown hgrow gb bl5 tx5 sx5 rx5 t5 f5 sx6 h6 r6 B6 hW6 hrow5
            go_wp2
            go_roundw
            case rel => exact ⟨j + 1, _, by omega, by simp, TM.out⟩
            case measure => simp [RowKit.intOf]; omega
      · have hb : ((j : Int) + 1 == (N : Int)) = false := by rw [beq_eq_false_iff_ne]; omega
        obtain ⟨X9, hX9⟩ : ∃ X9, j + 1 = X9 := ⟨_, rfl⟩
        have HX9 := Lib.hid (show nx a b j = X9 by unfold nx; rw [if_pos (by omega)]; exact hX9)
        have e16 : IntKind.i16.wrap (X9 : Int) = X9 := wr16 (by omega)
        have KEY := Lib.hid (show rwL a b (j + 1) = rwL a b j ++ [.int .i8 2, .int .i8 d, .int .i16 X9, .int .i16 0, .int .i16 0] by rw [rwL_succ]; unfold fkL; rw [HD.out, HX9.out])
        have e17 : IntKind.i16.wrap ((j : Int) + 1) = X9 := by rw [show (j : Int) + 1 = (X9 : Int) by omega]; exact e16
        clear hX9
        go_wp2
        refine wp_region_held_drew (S := fun _ => True) (by kernel_rfl) trivial (fun hS => ?_)
        refine takeH (i := 0) (.pointer (some ⟨Tb, 0, none⟩)) rfl (by kernel_rfl) (by kernel_rfl) (by kernel_rfl) (fun _ _ _ h => h) (by kernel_rfl) hS (fun w' hw' => ?_) ?_
        · go_simp
          try with_reducible rfl
        simp only [Act.put, List.getElem_toArray, List.getElem_cons_zero, List.getElem_cons_succ, List.setIfInBounds_toArray, List.set_cons_zero, List.set_cons_succ]
        refine takeH (i := 2) (.int .i64 j) rfl (by kernel_rfl) (by kernel_rfl) (by kernel_rfl) (fun _ _ _ h => h) (by kernel_rfl) hS (fun w' hw' => ?_) ?_
        · go_simp
          try with_reducible rfl
        simp only [Act.put, List.getElem_toArray, List.getElem_cons_zero, List.getElem_cons_succ, List.setIfInBounds_toArray, List.set_cons_zero, List.set_cons_succ]
        refine takeH (i := 4) (.int .i64 ((j : Int) + 1)) rfl (by kernel_rfl) (by kernel_rfl) (by kernel_rfl) (fun _ _ _ h => h) (by kernel_rfl) hS (fun w' hw' => ?_) ?_
        · go_simp
          try with_reducible rfl
        simp only [Act.put, List.getElem_toArray, List.getElem_cons_zero, List.getElem_cons_succ, List.setIfInBounds_toArray, List.set_cons_zero, List.set_cons_succ]
        refine takeH (i := 5) (.int .i16 X9) rfl (by kernel_rfl) (by kernel_rfl) (by kernel_rfl) (fun _ _ _ h => h) (by kernel_rfl) hS (fun w' hw' => ?_) ?_
        · go_simp
          try with_reducible rfl
        simp only [Act.put, List.getElem_toArray, List.getElem_cons_zero, List.getElem_cons_succ, List.setIfInBounds_toArray, List.set_cons_zero, List.set_cons_succ]
        refine takeH (i := 6) (.agg #[.int .i16 X9, .int .i16 0, .int .i16 0]) rfl (by kernel_rfl) (by kernel_rfl) (by kernel_rfl) (fun _ _ _ h => h) (by kernel_rfl) hS (fun w' hw' => ?_) ?_
        · go_simp
          try with_reducible rfl
        simp only [Act.put, List.getElem_toArray, List.getElem_cons_zero, List.getElem_cons_succ, List.setIfInBounds_toArray, List.set_cons_zero, List.set_cons_succ]
        refine wpAnyH_ready (rs := [1, 3]) (by kernel_rfl) (by simp) ?_
        refine AllReadyH.cons rfl (fun K hK => ?_) (AllReadyH.cons rfl (fun K hK => ?_) AllReadyH.nil)
        · go_simp
          refine hK.out _ _ hS (fun hS => ?_)
          clear hK K
          try simp only [Act.put, List.getElem_toArray, List.getElem_cons_zero, List.getElem_cons_succ, List.setIfInBounds_toArray, List.set_cons_zero, List.set_cons_succ]
          refine wpAnyH_ready (rs := [3]) (by kernel_rfl) (by simp) ?_
          refine AllReadyH.cons rfl (fun K hK => ?_) AllReadyH.nil
          go_simp
          go_at_call 30
          refine ca.mono ?_
          rintro e W4 ⟨rfl, b4⟩
          dsimp only
          have b4 := dD.trans b4
          have z4 := b4.size
          refine hK.out _ _ trivial (fun hS => ?_)
          clear hK K
          try simp only [Act.put, List.getElem_toArray, List.getElem_cons_zero, List.getElem_cons_succ, List.setIfInBounds_toArray, List.set_cons_zero, List.set_cons_succ]
          refine takeH (i := 7) (.agg #[.int .i8 2, .int .i8 d, .int .i16 X9, .int .i16 0, .int .i16 0]) rfl (by kernel_rfl) (by kernel_rfl) (by kernel_rfl) (fun _ _ _ h => h) (by kernel_rfl) hS (fun w' hw' => ?_) ?_
          · go_simp
            try with_reducible rfl
          simp only [Act.put, List.getElem_toArray, List.getElem_cons_zero, List.getElem_cons_succ, List.setIfInBounds_toArray, List.set_cons_zero, List.set_cons_succ]
          refine wpAnyH_ready (rs := [8]) (by kernel_rfl) (by simp) ?_
          refine AllReadyH.cons rfl (fun K hK => ?_) AllReadyH.nil
          go_simp
          obtain ⟨W5, hW5, bb5, x5⟩ := boxN W4 #[.int .i8 2, .int .i8 d, .int .i16 X9, .int .i16 0, .int .i16 0] 53
          rw [hW5]
          have b5 := b4.trans (bb5.mono b4.size)
          have z5 := bb5.size
          refine hK.out _ _ trivial (fun hS => ?_)
          clear hK K
          try simp only [Act.put, List.getElem_toArray, List.getElem_cons_zero, List.getElem_cons_succ, List.setIfInBounds_toArray, List.set_cons_zero, List.set_cons_succ]
          refine wpAnyH_ready (rs := [9]) (by kernel_rfl) (by simp) ?_
          refine AllReadyH.cons rfl (fun K hK => ?_) AllReadyH.nil
          refine step_ownN (by kernel_rfl) _ _ _ (by rfl) (Tb + 1) 53 i0 (.agg #[.int .i8 0, .int .i8 0, .int .i16 0, .int .i16 0, .int .i16 0]) 5 8 Try.underlying33 hi hz0 hz1 hz2 rfl (by decide) (.slice sv j cv) j (rwL a b j) (by rfl) (row_underN (k := 0) HT.out.row b5) ⟨W4.heap.size, 0, none⟩ 1 1 [.int .i8 2, .int .i8 d, .int .i16 X9, .int .i16 0, .int .i16 0] (by rfl) (by rfl) (by rw [← hW5]; exact newN _ _ _) (five1 _ _ _ _ _) (by unfold maxLen; omega) (by omega) (by omega) ?_
          intro v' w5 hown hgrow
          have hrow5 := row_underN (k := 0) HT.out.row b5
          have gb : ∀ k, k < Tb + 1 → w5.heap[k]? = W5.heap[k]? := fun k hk => hgrow.block k (by omega) (fun e => by have := (hrow5.lt k e.symm).1; omega)
          have bl5 : Below w.heap.size w w5 := (HT.out.bl.trans (b5.mono HT.out.bl.size)).grown hgrow (by omega) fun k hk => by have := (hrow5.lt k hk).1; omega
          obtain ⟨sv', cv', rfl⟩ := own_formN hown
          have tx5 := (gb Tb (by omega)).trans (at_keep HT.out.tx b5)
          have sx5 : Bk w5 w.heap.size (.slice s0 a.length k0) (.slice s1 b.length k1) 26 := (gb _ (by omega)).trans (HT.out.sx.keep b5)
          have rx5 := (gb (w.heap.size + 1) (by omega)).trans (at_keep HT.out.rx b5)
          obtain ⟨t5, f5⟩ := cell1 tx5
          have zz5 := hgrow.size
          refine hK.out _ _ trivial (fun hS => ?_)
          clear hK K
          try simp only [Act.put, List.getElem_toArray, List.getElem_cons_zero, List.getElem_cons_succ, List.setIfInBounds_toArray, List.set_cons_zero, List.set_cons_succ]
          refine takeH (i := 10) (.pointer (some ⟨Tb, 0, none⟩)) rfl (by kernel_rfl) (by kernel_rfl) (by kernel_rfl) (fun _ _ _ h => h) (by kernel_rfl) hS (fun w' hw' => ?_) ?_
          · go_simp
            try with_reducible rfl
          simp only [Act.put, List.getElem_toArray, List.getElem_cons_zero, List.getElem_cons_succ, List.setIfInBounds_toArray, List.set_cons_zero, List.set_cons_succ]
          refine wpAnyH_ready (rs := [11]) (by kernel_rfl) (by simp) ?_
          refine AllReadyH.cons rfl (fun K hK => ?_) AllReadyH.nil
          obtain ⟨W6, hW6, h6, r6, z6, B6⟩ := set1 tx5 (.slice sv' (j + 1) cv')
          have sx6 : Bk W6 w.heap.size (.slice s0 a.length k0) (.slice s1 b.length k1) 26 := (r6 _ (by omega)).trans sx5
          go_simp
          refine hK.out _ _ trivial (fun hS => ?_)
          clear hK K
          try simp only [Act.put, List.getElem_toArray, List.getElem_cons_zero, List.getElem_cons_succ, List.setIfInBounds_toArray, List.set_cons_zero, List.set_cons_succ]
          refine wpAnyH_done (by kernel_rfl) ?_ _
          have TM := Lib.hid (show Tm w a b (.slice s0 a.length k0) (.slice s1 b.length k1) Tb (j + 1) (.slice sv' (j + 1) cv') W6 from ⟨sx6, (r6 _ (by omega)).trans rx5, h6, row_rest (by rw [KEY.out]; exact hown) (Nat.lt_succ_self _) r6, bl5.trans (B6 _ (by omega)), by omega, gtT⟩)
          clear hown hgrow gb bl5 tx5 sx5 rx5 t5 f5 sx6 h6 r6 B6 hW6 hrow5
          go_wp2
          go_roundw
          case rel => exact ⟨j + 1, _, by omega, by simp, TM.out⟩
          case measure => simp [RowKit.intOf]; omega
        · go_simp
          go_at_call 30
          refine ca.mono ?_
          rintro e W4 ⟨rfl, b4⟩
          dsimp only
          have b4 := dD.trans b4
          have z4 := b4.size
          refine hK.out _ _ trivial (fun hS => ?_)
          clear hK K
          try simp only [Act.put, List.getElem_toArray, List.getElem_cons_zero, List.getElem_cons_succ, List.setIfInBounds_toArray, List.set_cons_zero, List.set_cons_succ]
          refine takeH (i := 7) (.agg #[.int .i8 2, .int .i8 d, .int .i16 X9, .int .i16 0, .int .i16 0]) rfl (by kernel_rfl) (by kernel_rfl) (by kernel_rfl) (fun _ _ _ h => h) (by kernel_rfl) hS (fun w' hw' => ?_) ?_
          · go_simp
            try with_reducible rfl
          simp only [Act.put, List.getElem_toArray, List.getElem_cons_zero, List.getElem_cons_succ, List.setIfInBounds_toArray, List.set_cons_zero, List.set_cons_succ]
          refine wpAnyH_ready (rs := [1, 8]) (by kernel_rfl) (by simp) ?_
          refine AllReadyH.cons rfl (fun K hK => ?_) (AllReadyH.cons rfl (fun K hK => ?_) AllReadyH.nil)
          · have t4 := (cell1 (at_keep HT.out.tx b4)).1
            go_simp
            refine hK.out _ _ hS (fun hS => ?_)
            clear hK K
            try simp only [Act.put, List.getElem_toArray, List.getElem_cons_zero, List.getElem_cons_succ, List.setIfInBounds_toArray, List.set_cons_zero, List.set_cons_succ]
            refine wpAnyH_ready (rs := [8]) (by kernel_rfl) (by simp) ?_
            refine AllReadyH.cons rfl (fun K hK => ?_) AllReadyH.nil
            go_simp
            obtain ⟨W5, hW5, bb5, x5⟩ := boxN W4 #[.int .i8 2, .int .i8 d, .int .i16 X9, .int .i16 0, .int .i16 0] 53
            rw [hW5]
            have b5 := b4.trans (bb5.mono b4.size)
            have z5 := bb5.size
            refine hK.out _ _ trivial (fun hS => ?_)
            clear hK K
            try simp only [Act.put, List.getElem_toArray, List.getElem_cons_zero, List.getElem_cons_succ, List.setIfInBounds_toArray, List.set_cons_zero, List.set_cons_succ]
            refine wpAnyH_ready (rs := [9]) (by kernel_rfl) (by simp) ?_
            refine AllReadyH.cons rfl (fun K hK => ?_) AllReadyH.nil
            refine step_ownN (by kernel_rfl) _ _ _ (by rfl) (Tb + 1) 53 i0 (.agg #[.int .i8 0, .int .i8 0, .int .i16 0, .int .i16 0, .int .i16 0]) 5 8 Try.underlying33 hi hz0 hz1 hz2 rfl (by decide) (.slice sv j cv) j (rwL a b j) (by rfl) (row_underN (k := 0) HT.out.row b5) ⟨W4.heap.size, 0, none⟩ 1 1 [.int .i8 2, .int .i8 d, .int .i16 X9, .int .i16 0, .int .i16 0] (by rfl) (by rfl) (by rw [← hW5]; exact newN _ _ _) (five1 _ _ _ _ _) (by unfold maxLen; omega) (by omega) (by omega) ?_
            intro v' w5 hown hgrow
            have hrow5 := row_underN (k := 0) HT.out.row b5
            have gb : ∀ k, k < Tb + 1 → w5.heap[k]? = W5.heap[k]? := fun k hk => hgrow.block k (by omega) (fun e => by have := (hrow5.lt k e.symm).1; omega)
            have bl5 : Below w.heap.size w w5 := (HT.out.bl.trans (b5.mono HT.out.bl.size)).grown hgrow (by omega) fun k hk => by have := (hrow5.lt k hk).1; omega
            obtain ⟨sv', cv', rfl⟩ := own_formN hown
            have tx5 := (gb Tb (by omega)).trans (at_keep HT.out.tx b5)
            have sx5 : Bk w5 w.heap.size (.slice s0 a.length k0) (.slice s1 b.length k1) 26 := (gb _ (by omega)).trans (HT.out.sx.keep b5)
            have rx5 := (gb (w.heap.size + 1) (by omega)).trans (at_keep HT.out.rx b5)
            obtain ⟨t5, f5⟩ := cell1 tx5
            have zz5 := hgrow.size
            refine hK.out _ _ trivial (fun hS => ?_)
            clear hK K
            try simp only [Act.put, List.getElem_toArray, List.getElem_cons_zero, List.getElem_cons_succ, List.setIfInBounds_toArray, List.set_cons_zero, List.set_cons_succ]
            refine takeH (i := 10) (.pointer (some ⟨Tb, 0, none⟩)) rfl (by kernel_rfl) (by kernel_rfl) (by kernel_rfl) (fun _ _ _ h => h) (by kernel_rfl) hS (fun w' hw' => ?_) ?_
            · go_simp
              try with_reducible rfl
            simp only [Act.put, List.getElem_toArray, List.getElem_cons_zero, List.getElem_cons_succ, List.setIfInBounds_toArray, List.set_cons_zero, List.set_cons_succ]
            refine wpAnyH_ready (rs := [11]) (by kernel_rfl) (by simp) ?_
            refine AllReadyH.cons rfl (fun K hK => ?_) AllReadyH.nil
            obtain ⟨W6, hW6, h6, r6, z6, B6⟩ := set1 tx5 (.slice sv' (j + 1) cv')
            have sx6 : Bk W6 w.heap.size (.slice s0 a.length k0) (.slice s1 b.length k1) 26 := (r6 _ (by omega)).trans sx5
            go_simp
            refine hK.out _ _ trivial (fun hS => ?_)
            clear hK K
            try simp only [Act.put, List.getElem_toArray, List.getElem_cons_zero, List.getElem_cons_succ, List.setIfInBounds_toArray, List.set_cons_zero, List.set_cons_succ]
            refine wpAnyH_done (by kernel_rfl) ?_ _
            have TM := Lib.hid (show Tm w a b (.slice s0 a.length k0) (.slice s1 b.length k1) Tb (j + 1) (.slice sv' (j + 1) cv') W6 from ⟨sx6, (r6 _ (by omega)).trans rx5, h6, row_rest (by rw [KEY.out]; exact hown) (Nat.lt_succ_self _) r6, bl5.trans (B6 _ (by omega)), by omega, gtT⟩)
            clear hown hgrow gb bl5 tx5 sx5 rx5 t5 f5 sx6 h6 r6 B6 hW6 hrow5
            go_wp2
            go_roundw
            case rel => exact ⟨j + 1, _, by omega, by simp, TM.out⟩
            case measure => simp [RowKit.intOf]; omega
          · go_simp
            obtain ⟨W5, hW5, bb5, x5⟩ := boxN W4 #[.int .i8 2, .int .i8 d, .int .i16 X9, .int .i16 0, .int .i16 0] 53
            rw [hW5]
            have b5 := b4.trans (bb5.mono b4.size)
            have z5 := bb5.size
            refine hK.out _ _ trivial (fun hS => ?_)
            clear hK K
            try simp only [Act.put, List.getElem_toArray, List.getElem_cons_zero, List.getElem_cons_succ, List.setIfInBounds_toArray, List.set_cons_zero, List.set_cons_succ]
            refine wpAnyH_ready (rs := [1]) (by kernel_rfl) (by simp) ?_
            refine AllReadyH.cons rfl (fun K hK => ?_) AllReadyH.nil
            have t5 := (cell1 (at_keep HT.out.tx b5)).1
            go_simp
            refine hK.out _ _ hS (fun hS => ?_)
            clear hK K
            try simp only [Act.put, List.getElem_toArray, List.getElem_cons_zero, List.getElem_cons_succ, List.setIfInBounds_toArray, List.set_cons_zero, List.set_cons_succ]
            refine wpAnyH_ready (rs := [9]) (by kernel_rfl) (by simp) ?_
            refine AllReadyH.cons rfl (fun K hK => ?_) AllReadyH.nil
            refine step_ownN (by kernel_rfl) _ _ _ (by rfl) (Tb + 1) 53 i0 (.agg #[.int .i8 0, .int .i8 0, .int .i16 0, .int .i16 0, .int .i16 0]) 5 8 Try.underlying33 hi hz0 hz1 hz2 rfl (by decide) (.slice sv j cv) j (rwL a b j) (by rfl) (row_underN (k := 0) HT.out.row b5) ⟨W4.heap.size, 0, none⟩ 1 1 [.int .i8 2, .int .i8 d, .int .i16 X9, .int .i16 0, .int .i16 0] (by rfl) (by rfl) (by rw [← hW5]; exact newN _ _ _) (five1 _ _ _ _ _) (by unfold maxLen; omega) (by omega) (by omega) ?_
            intro v' w5 hown hgrow
            have hrow5 := row_underN (k := 0) HT.out.row b5
            have gb : ∀ k, k < Tb + 1 → w5.heap[k]? = W5.heap[k]? := fun k hk => hgrow.block k (by omega) (fun e => by have := (hrow5.lt k e.symm).1; omega)
            have bl5 : Below w.heap.size w w5 := (HT.out.bl.trans (b5.mono HT.out.bl.size)).grown hgrow (by omega) fun k hk => by have := (hrow5.lt k hk).1; omega
            obtain ⟨sv', cv', rfl⟩ := own_formN hown
            have tx5 := (gb Tb (by omega)).trans (at_keep HT.out.tx b5)
            have sx5 : Bk w5 w.heap.size (.slice s0 a.length k0) (.slice s1 b.length k1) 26 := (gb _ (by omega)).trans (HT.out.sx.keep b5)
            have rx5 := (gb (w.heap.size + 1) (by omega)).trans (at_keep HT.out.rx b5)
            obtain ⟨t5, f5⟩ := cell1 tx5
            have zz5 := hgrow.size
            refine hK.out _ _ trivial (fun hS => ?_)
            clear hK K
            try simp only [Act.put, List.getElem_toArray, List.getElem_cons_zero, List.getElem_cons_succ, List.setIfInBounds_toArray, List.set_cons_zero, List.set_cons_succ]
            refine takeH (i := 10) (.pointer (some ⟨Tb, 0, none⟩)) rfl (by kernel_rfl) (by kernel_rfl) (by kernel_rfl) (fun _ _ _ h => h) (by kernel_rfl) hS (fun w' hw' => ?_) ?_
            · go_simp
              try with_reducible rfl
            simp only [Act.put, List.getElem_toArray, List.getElem_cons_zero, List.getElem_cons_succ, List.setIfInBounds_toArray, List.set_cons_zero, List.set_cons_succ]
            refine wpAnyH_ready (rs := [11]) (by kernel_rfl) (by simp) ?_
            refine AllReadyH.cons rfl (fun K hK => ?_) AllReadyH.nil
            obtain ⟨W6, hW6, h6, r6, z6, B6⟩ := set1 tx5 (.slice sv' (j + 1) cv')
            have sx6 : Bk W6 w.heap.size (.slice s0 a.length k0) (.slice s1 b.length k1) 26 := (r6 _ (by omega)).trans sx5
            go_simp
            refine hK.out _ _ trivial (fun hS => ?_)
            clear hK K
            try simp only [Act.put, List.getElem_toArray, List.getElem_cons_zero, List.getElem_cons_succ, List.setIfInBounds_toArray, List.set_cons_zero, List.set_cons_succ]
            refine wpAnyH_done (by kernel_rfl) ?_ _
            have TM := Lib.hid (show Tm w a b (.slice s0 a.length k0) (.slice s1 b.length k1) Tb (j + 1) (.slice sv' (j + 1) cv') W6 from ⟨sx6, (r6 _ (by omega)).trans rx5, h6, row_rest (by rw [KEY.out]; exact hown) (Nat.lt_succ_self _) r6, bl5.trans (B6 _ (by omega)), by omega, gtT⟩)
            clear hown hgrow gb bl5 tx5 sx5 rx5 t5 f5 sx6 h6 r6 B6 hW6 hrow5
            go_wp2
            go_roundw
            case rel => exact ⟨j + 1, _, by omega, by simp, TM.out⟩
            case measure => simp [RowKit.intOf]; omega
    · obtain rfl : j = N := by omega
      have y := HT.out.rx
      obtain ⟨q0, f0⟩ := cell1 y
      obtain ⟨W9, hW9, h9, r9, z9, B9⟩ := set1 y (.slice sv j cv)
      obtain ⟨e0, _⟩ := cell1 h9
      go_wp2
      refine bodyPost_ret (v := .tuple #[.agg #[.slice sv j cv], .int .i64 0]) (by simp [results, Try.results15, go_sem, e0]) rfl ?_
      exact ⟨⟨_, _, rfl, row_base (row_rest HT.out.row (by omega) r9) (by omega)⟩, HT.out.bl.trans (B9 _ (by omega))⟩
end Go.Proofs.Ytmpilchondjdcaa.Sx
