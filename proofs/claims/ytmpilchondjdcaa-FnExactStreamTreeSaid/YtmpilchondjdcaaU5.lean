/-
  The tree of a stream, by the code.
-/
import Derived.Test.YtmpilchondjdcaaU4
import Derived.Deep.RegionHeld3
namespace Go.Proofs.Ytmpilchondjdcaa.Sx
open Go Go.RowKit
set_option linter.unusedVariables false
set_option linter.unusedSimpArgs false

theorem infoF : (Try.prog.info? 53).map (fun i => (i.zero, i.size, i.bytes)) = some (some (.agg #[.int .i8 0, .int .i8 0, .int .i16 0, .int .i16 0, .int .i16 0]), 5, 8) := by kernel_rfl
theorem takeH {P : Program} {ops : Array Oper} {Q : Exit → Act → World → Prop} {md : Region.Mode} {S : World → Prop} {i : Nat} {oi : Oper} (v : Value) {fuel : Nat} {listed : Array Bool} {a : Act} {w : World} (hi : ops[i]? = some oi)
    (hs : Region.noSelect ops = true) (hf : Region.free md ops listed i = true) (hr : (Region.ready md ops listed).contains i = true)
    (hQ : ∀ c a w, Q (.panic c) (a.put oi.dst v) w → Q (.panic c) a w) (hw : Region.wanted oi (yielded ops a.tmps) = true) (hS : S w) (hy : ∀ w, S w → (execOp a.eval oi).run P w = .ok (.value v) w)
    (h : wpAnyH P md ops Q S fuel (listed.setIfInBounds i true) (a.put oi.dst v) w) : wpAnyH P md ops Q S (fuel + 1) listed a w := wpAnyH_take hi hs hf hr hQ (.inl ⟨hw, hy⟩) hS h
/-- What a round finds. -/
structure Tm (w : World) (a b : List Int) (v0 v1 : Value) (Tb : Nat) (j : Nat) (v : Value) (W : World) : Prop where
  mk ::
  sx : Bk W w.heap.size v0 v1 26
  rx : W.heap[w.heap.size + 1]? = some (.cells #[.slice none 0 0] 35 (0, 0))
  tx : W.heap[Tb]? = some (.cells #[v] 35 (0, 0))
  row : W.ownsRow (Tb + 1) 53 5 v j (rwL a b j)
  bl : Below w.heap.size w W
  sz : Tb + 1 ≤ W.heap.size
  gt : w.heap.size + 2 ≤ Tb
theorem cell1 {w : World} {b : Nat} {v : Value} {t : TypeId} (h : w.heap[b]? = some (.cells #[v] t (0, 0))) : w.cell? ⟨b, 0, none⟩ = some v ∧ w.frozen? ⟨b, 0, none⟩ = false := ⟨by rw [Lib.cell_of_heap h]; rfl, Lib.frozen_of_heap h _⟩
theorem set1 {w : World} {b : Nat} {v : Value} {t : TypeId} (h : w.heap[b]? = some (.cells #[v] t (0, 0))) (u : Value) : ∃ W, w.setCell ⟨b, 0, none⟩ u = W ∧ W.heap[b]? = some (.cells #[u] t (0, 0)) ∧ (∀ k, k ≠ b → W.heap[k]? = w.heap[k]?) ∧ W.heap.size = w.heap.size ∧ ∀ n, n ≤ b → Below n w W :=
  ⟨_, rfl, by rw [heap_setCell_same _ _ _ _ _ _ h]; rfl, fun k hk => heap_setCell_other _ _ _ _ hk, by simp [World.setCell], fun n hn => (Below.refl _ _).setCell (p := ⟨b, 0, none⟩) hn _⟩
theorem row_rest {w w' : World} {B e s n b : Nat} {v : Value} {xs : List Value} (h : w.ownsRow B e s v n xs) (hb : b < B) (hr : ∀ k, k ≠ b → w'.heap[k]? = w.heap[k]?) : w'.ownsRow B e s v n xs := by
  obtain ⟨h1, h2 | ⟨g, cap, cur, h2, h3, h4, h5⟩⟩ := h
  · exact ⟨h1, .inl h2⟩
  · exact ⟨h1, .inr ⟨g, cap, cur, h2, h3, (hr g (by omega)).trans h4, h5⟩⟩
theorem row_base {w : World} {B B' e s n : Nat} {v : Value} {xs : List Value} (h : w.ownsRow B e s v n xs) (hb : B' ≤ B) : w.ownsRow B' e s v n xs := by
  obtain ⟨h1, h2 | ⟨g, cap, cur, h2, h3, h4⟩⟩ := h
  · exact ⟨h1, .inl h2⟩
  · exact ⟨h1, .inr ⟨g, cap, cur, h2, by omega, h4⟩⟩
theorem wr16 {x : Nat} (h : x ≤ 30) : IntKind.i16.wrap (x : Int) = x := by
  unfold IntKind.wrap IntKind.bits IntKind.signed
  simp
  omega
theorem five1 (x0 x1 x2 x3 x4 : Int) : ∀ u ∈ [Value.int .i8 x0, .int .i8 x1, .int .i16 x2, .int .i16 x3, .int .i16 x4], u.oneCell' = true := by simp [Value.oneCell']
set_option maxRecDepth 1000000 in
set_option maxHeartbeats 8000000 in
theorem treeI_no (a b : List Int) (hv : vsB a b = false) (la : a.length ≤ 9223372036854775807) (lb : b.length ≤ 9223372036854775807) : DoesTr 16 a b [] 0 1 := by
  intro w v0 v1 h0 h1
  obtain ⟨s0, k0, rfl⟩ := h0.form
  obtain ⟨s1, k1, rfl⟩ := h1.form
  obtain ⟨W, hW, hB, x⟩ := boxK w (.slice s0 a.length k0) (.slice s1 b.length k1) 26
  obtain ⟨V, hV, hB2, r⟩ := boxN W #[.slice none 0 0] 35
  have hB3 := hB.trans (hB2.mono hB.size)
  have ok := vsI (h0.keep hB3) (h1.keep hB3) la lb
  rw [hv] at ok
  have x := x.keep hB2
  have c0 := x.c0
  have c1 := x.c1
  have R := Lib.hid r
  have z1 : w.heap.size ≤ W.heap.size := hB.size
  clear hv h0 h1 x r
  go_enter Try.func16, Try.ntmps16
  go_wp2_with (go_at_call 24; refine ok.mono ?_)
  first | (rintro e W1 rfl b1) | (rintro e W1 ⟨rfl, b1⟩)
  obtain ⟨q0, f0⟩ := cell1 (at_keep R.out b1)
  obtain ⟨W9, hW9, h9, r9, z9, B9⟩ := set1 (at_keep R.out b1) (.slice none 0 0)
  obtain ⟨e0, _⟩ := cell1 h9
  go_wp2
  refine bodyPost_ret (v := .tuple #[.agg #[.slice none 0 0], .int .i64 1]) (by simp [results, Try.results16, go_sem, e0]) rfl ?_
  exact ⟨⟨_, _, rfl, World.ownsRow_nil _ _ _ _⟩, (hB3.trans (b1.mono hB3.size)).trans (B9 _ z1)⟩
set_option maxRecDepth 1000000 in
set_option maxHeartbeats 8000000 in
theorem treeI_yes (a b : List Int) (hv : vsB a b = true) : DoesTr 16 a b (rwL a b (a.length + b.length)) (a.length + b.length) 0 := by
  intro w v0 v1 h0 h1
  have hvv := (vsB_iff a b).1 hv
  obtain ⟨s0, k0, rfl⟩ := h0.form
  obtain ⟨s1, k1, rfl⟩ := h1.form
  obtain ⟨i0, hi, hz0, hz1, hz2⟩ := info_parts infoF
  obtain ⟨W, hW, hB, x⟩ := boxK w (.slice s0 a.length k0) (.slice s1 b.length k1) 26
  obtain ⟨V, hV, hB2, r⟩ := boxN W #[.slice none 0 0] 35
  have hB3 := hB.trans (hB2.mono hB.size)
  have ok := vsI (h0.keep hB3) (h1.keep hB3) (by omega) (by omega)
  rw [hv] at ok
  have x := x.keep hB2
  have c0 := x.c0
  have c1 := x.c1
  have z1 : W.heap.size = w.heap.size + 1 := by rw [← hW]; simp
  have z2 : V.heap.size = w.heap.size + 2 := by rw [← hV]; simp; omega
  rw [z1] at r
  have X := Lib.hid x
  have R := Lib.hid r
  have I0 := Lib.hid h0
  have I1 := Lib.hid h1
  have la : a.length ≤ 16 := hvv.1
  have lb : b.length ≤ 14 := hvv.2.2.1
  have lb1 : 1 ≤ b.length := hvv.2.1
  have hlB : ∀ (s : Option Addr) (n k : Nat) (W : World), (Builtin.len_ #[22] 3 #[.slice s n k]).run Try.prog W = .ok (.int .i64 n) W := fun s n k W => rfl
  obtain ⟨N, hN⟩ : ∃ N, a.length + b.length = N := ⟨_, rfl⟩
  have nN : (a.length : Int) + b.length = N := by omega
  have HNN := Lib.hid hN
  rw [hN]
  clear hv hvv h0 h1 x r
  go_enter Try.func16, Try.ntmps16
  go_wp2_with (go_at_call 24; refine ok.mono ?_)
  first | (rintro e W1 rfl b1) | (rintro e W1 ⟨rfl, b1⟩)
  obtain ⟨U, hU, bU, tt⟩ := boxN W1 #[.slice none 0 0] 35
  have b2 := b1.trans (bU.mono b1.size)
  have x := X.out.keep b2
  have r := at_keep R.out b2
  have hB4 := hB3.trans (b2.mono hB3.size)
  have z3 : V.heap.size ≤ W1.heap.size := b1.size
  have zU : U.heap.size = W1.heap.size + 1 := by rw [← hU]; simp
  have c0 := x.c0
  have c1 := x.c1
  clear b1 bU b2
  obtain ⟨Tb, hTb⟩ : ∃ Tb, W1.heap.size = Tb := ⟨_, rfl⟩
  rw [hTb] at tt z3 zU
  have HTB := Lib.hid hTb
  have T0 := Lib.hid (show Tm w a b (.slice s0 a.length k0) (.slice s1 b.length k1) Tb 0 (.slice none 0 0) U from ⟨x, r, tt, World.ownsRow_nil _ _ _ _, hB4, by omega, by omega⟩)
  clear x r tt
  go_wp2
  go_loopw [5, 17] (fun p i wr => ∃ (j : Nat) (v : Value), j ≤ N ∧ i = .int .i64 j ∧ Tm w a b (.slice s0 a.length k0) (.slice s1 b.length k1) Tb j v wr) (fun _ i _ => N - (RowKit.intOf i).toNat)
  case atStart => exact ⟨0, _, Nat.zero_le _, rfl, T0.out⟩
  case round =>
    obtain ⟨j, v, hj, rfl, hT⟩ := hrel
    obtain ⟨sv, cv, rfl⟩ := own_formN hT.row
    have x := hT.sx
    have c0 := x.c0
    have c1 := x.c1
    obtain ⟨tc, tf⟩ := cell1 hT.tx
    have HT := Lib.hid hT
    have szT := hT.sz
    have gtT := hT.gt
    clear x hB hB2 hB3 hB4 ok hW hV hU T0 hT
    by_cases hlt : j < N
    · have hp : j < a.length + b.length := by have := HNN.out; omega
      have ca := atI (w := wr.drew) ((I0.out.keep HT.out.bl).same rfl) ((I1.out.keep HT.out.bl).same rfl) (by omega) (by omega) hp
      have cb := Lib.hid fun W => behindI (w := W) (n := a.length) (m := b.length) (s0 := s0) (s1 := s1) (c0' := k0) (c1' := k1) (by omega) (by omega) hp
      obtain ⟨X9, hX9⟩ : ∃ X9, (if j + 1 < a.length + b.length then j + 1 else a.length) = X9 := ⟨_, rfl⟩
      have HX9 := Lib.hid (show nx a b j = X9 from hX9)
      have bX : X9 ≤ 30 := by rw [← hX9]; split <;> omega
      rw [hX9] at cb
      obtain ⟨d, hd⟩ : ∃ d, dgp a b j = d := ⟨_, rfl⟩
      rw [hd] at ca
      have HD := Lib.hid hd
      have e16 : IntKind.i16.wrap (X9 : Int) = X9 := wr16 bX
      have KEY := Lib.hid (show rwL a b (j + 1) = rwL a b j ++ [.int .i8 2, .int .i8 d, .int .i16 X9, .int .i16 0, .int .i16 0] by rw [rwL_succ]; unfold fkL; rw [HD.out, HX9.out])
      have dD : Below wr.heap.size wr wr.drew := (Below.refl _ _).drew
      clear hX9 hd
      go_wp2
      refine wp_region_held_drew (S := fun w' => w'.cell? ⟨w.heap.size, 0, none⟩ = some (.slice s0 a.length k0) ∧ w'.cell? ⟨w.heap.size, 1, none⟩ = some (.slice s1 b.length k1)) (by kernel_rfl) ⟨c0, c1⟩ (fun hS => ?_)
      refine takeH (i := 0) (.pointer (some ⟨Tb, 0, none⟩)) rfl (by kernel_rfl) (by kernel_rfl) (by kernel_rfl) (fun _ _ _ h => h) (by kernel_rfl) hS (fun w' hw' => ?_) ?_
      · obtain ⟨s0', s1'⟩ := hw'
        go_simp
        try with_reducible rfl
      simp only [Act.put, List.getElem_toArray, List.getElem_cons_zero, List.getElem_cons_succ, List.setIfInBounds_toArray, List.set_cons_zero, List.set_cons_succ]
      refine takeH (i := 2) (.agg #[.slice s0 a.length k0, .slice s1 b.length k1]) rfl (by kernel_rfl) (by kernel_rfl) (by kernel_rfl) (fun _ _ _ h => h) (by kernel_rfl) hS (fun w' hw' => ?_) ?_
      · obtain ⟨s0', s1'⟩ := hw'
        go_simp
        try with_reducible rfl
      simp only [Act.put, List.getElem_toArray, List.getElem_cons_zero, List.getElem_cons_succ, List.setIfInBounds_toArray, List.set_cons_zero, List.set_cons_succ]
      refine takeH (i := 3) (.int .i64 j) rfl (by kernel_rfl) (by kernel_rfl) (by kernel_rfl) (fun _ _ _ h => h) (by kernel_rfl) hS (fun w' hw' => ?_) ?_
      · obtain ⟨s0', s1'⟩ := hw'
        go_simp
        try with_reducible rfl
      simp only [Act.put, List.getElem_toArray, List.getElem_cons_zero, List.getElem_cons_succ, List.setIfInBounds_toArray, List.set_cons_zero, List.set_cons_succ]
      refine takeH (i := 5) (.agg #[.slice s0 a.length k0, .slice s1 b.length k1]) rfl (by kernel_rfl) (by kernel_rfl) (by kernel_rfl) (fun _ _ _ h => h) (by kernel_rfl) hS (fun w' hw' => ?_) ?_
      · obtain ⟨s0', s1'⟩ := hw'
        go_simp
        try with_reducible rfl
      simp only [Act.put, List.getElem_toArray, List.getElem_cons_zero, List.getElem_cons_succ, List.setIfInBounds_toArray, List.set_cons_zero, List.set_cons_succ]
      refine takeH (i := 6) (.int .i64 j) rfl (by kernel_rfl) (by kernel_rfl) (by kernel_rfl) (fun _ _ _ h => h) (by kernel_rfl) hS (fun w' hw' => ?_) ?_
      · obtain ⟨s0', s1'⟩ := hw'
        go_simp
        try with_reducible rfl
      simp only [Act.put, List.getElem_toArray, List.getElem_cons_zero, List.getElem_cons_succ, List.setIfInBounds_toArray, List.set_cons_zero, List.set_cons_succ]
      refine wpAnyH_ready (rs := [1, 4]) (by kernel_rfl) (by simp) ?_
      refine AllReadyH.cons rfl (fun K hK => ?_) (AllReadyH.cons rfl (fun K hK => ?_) AllReadyH.nil)
      · go_simp
        refine hK.out _ _ hS (fun hS => ?_)
        clear hK K
        try simp only [Act.put, List.getElem_toArray, List.getElem_cons_zero, List.getElem_cons_succ, List.setIfInBounds_toArray, List.set_cons_zero, List.set_cons_succ]
        refine wpAnyH_ready (rs := [4]) (by kernel_rfl) (by simp) ?_
        refine AllReadyH.cons rfl (fun K hK => ?_) AllReadyH.nil
        go_simp
        go_at_call 32
        refine ca.mono ?_
        rintro e W2 ⟨rfl, b2⟩
        dsimp only
        have b2 := dD.trans b2
        refine hK.out _ _ ⟨(HT.out.sx.keep b2).c0, (HT.out.sx.keep b2).c1⟩ (fun hS => ?_)
        clear hK K
        try simp only [Act.put, List.getElem_toArray, List.getElem_cons_zero, List.getElem_cons_succ, List.setIfInBounds_toArray, List.set_cons_zero, List.set_cons_succ]
        refine wpAnyH_ready (rs := [7]) (by kernel_rfl) (by simp) ?_
        refine AllReadyH.cons rfl (fun K hK => ?_) AllReadyH.nil
        go_simp
        go_at_call 33
        refine (cb.out W2).mono ?_
        rintro e W3 ⟨rfl, b3⟩
        dsimp only
        have b3 := b2.trans (b3.mono b2.size)
        refine hK.out _ _ ⟨(HT.out.sx.keep b3).c0, (HT.out.sx.keep b3).c1⟩ (fun hS => ?_)
        clear hK K
        try simp only [Act.put, List.getElem_toArray, List.getElem_cons_zero, List.getElem_cons_succ, List.setIfInBounds_toArray, List.set_cons_zero, List.set_cons_succ]
        refine takeH (i := 8) (.int .i16 X9) rfl (by kernel_rfl) (by kernel_rfl) (by kernel_rfl) (fun _ _ _ h => h) (by kernel_rfl) hS (fun w' hw' => ?_) ?_
        · obtain ⟨s0', s1'⟩ := hw'
          go_simp
          try with_reducible rfl
        simp only [Act.put, List.getElem_toArray, List.getElem_cons_zero, List.getElem_cons_succ, List.setIfInBounds_toArray, List.set_cons_zero, List.set_cons_succ]
        refine wpAnyH_ready (rs := [9]) (by kernel_rfl) (by simp) ?_
        refine AllReadyH.cons rfl (fun K hK => ?_) AllReadyH.nil
        go_simp
        go_at_call 31
        refine (tellC d X9 W3).mono ?_
        rintro e W4 ⟨rfl, b4⟩
        dsimp only
        have b4 := b3.trans (b4.mono b3.size)
        have z4 := b4.size
        have r4 := row_underN (k := 0) HT.out.row b4
        refine hK.out _ _ ⟨(HT.out.sx.keep b4).c0, (HT.out.sx.keep b4).c1⟩ (fun hS => ?_)
        clear hK K
        try simp only [Act.put, List.getElem_toArray, List.getElem_cons_zero, List.getElem_cons_succ, List.setIfInBounds_toArray, List.set_cons_zero, List.set_cons_succ]
        refine wpAnyH_ready (rs := [10]) (by kernel_rfl) (by simp) ?_
        refine AllReadyH.cons rfl (fun K hK => ?_) AllReadyH.nil
        go_simp
        obtain ⟨W5, hW5, bb5, x5⟩ := boxN W4 #[.int .i8 2, .int .i8 d, .int .i16 X9, .int .i16 0, .int .i16 0] 53
        rw [hW5]
        have b5 := b4.trans (bb5.mono b4.size)
        have z5 := bb5.size
        refine hK.out _ _ ⟨(HT.out.sx.keep b5).c0, (HT.out.sx.keep b5).c1⟩ (fun hS => ?_)
        clear hK K
        try simp only [Act.put, List.getElem_toArray, List.getElem_cons_zero, List.getElem_cons_succ, List.setIfInBounds_toArray, List.set_cons_zero, List.set_cons_succ]
        refine wpAnyH_ready (rs := [11]) (by kernel_rfl) (by simp) ?_
        refine AllReadyH.cons rfl (fun K hK => ?_) AllReadyH.nil
        refine step_ownN (by kernel_rfl) _ _ _ (by rfl) (Tb + 1) 53 i0 (.agg #[.int .i8 0, .int .i8 0, .int .i16 0, .int .i16 0, .int .i16 0]) 5 8 Try.underlying33 hi hz0 hz1 hz2 rfl (by decide) (.slice sv j cv) j (rwL a b j) (by rfl) (row_underN (k := 0) HT.out.row b5) ⟨W4.heap.size, 0, none⟩ 1 1 [.int .i8 2, .int .i8 d, .int .i16 X9, .int .i16 0, .int .i16 0] (by rfl) (by rfl) (by rw [← hW5]; exact newN _ _ _) (five1 _ _ _ _ _) (by unfold maxLen; omega) (by omega) (by omega) ?_
        intro v' w5 hown hgrow
        have hrow5 := row_underN (k := 0) HT.out.row b5
        have gb : ∀ k, k < Tb + 1 → w5.heap[k]? = W5.heap[k]? := fun k hk => hgrow.block k (by omega) (fun e => by have := (hrow5.lt k e.symm).1; omega)
        have bl5 : Below w.heap.size w w5 := (HT.out.bl.trans (b5.mono HT.out.bl.size)).grown hgrow (by omega) fun k hk => by have := (hrow5.lt k hk).1; omega
        obtain ⟨sv', cv', rfl⟩ := own_formN hown
        have tx5 := (gb Tb (by omega)).trans (at_keep HT.out.tx b5)
        have sx5 : Bk w5 w.heap.size (.slice s0 a.length k0) (.slice s1 b.length k1) 26 := (gb _ (by omega)).trans (HT.out.sx.keep b5)
        have rx5 := (gb (w.heap.size + 1) (by omega)).trans (at_keep HT.out.rx b5)
        obtain ⟨t5, f5⟩ := cell1 tx5
        have zz5 := hgrow.size
        refine hK.out _ _ ⟨sx5.c0, sx5.c1⟩ (fun hS => ?_)
        clear hK K
        try simp only [Act.put, List.getElem_toArray, List.getElem_cons_zero, List.getElem_cons_succ, List.setIfInBounds_toArray, List.set_cons_zero, List.set_cons_succ]
        refine takeH (i := 12) (.pointer (some ⟨Tb, 0, none⟩)) rfl (by kernel_rfl) (by kernel_rfl) (by kernel_rfl) (fun _ _ _ h => h) (by kernel_rfl) hS (fun w' hw' => ?_) ?_
        · obtain ⟨s0', s1'⟩ := hw'
          go_simp
          try with_reducible rfl
        simp only [Act.put, List.getElem_toArray, List.getElem_cons_zero, List.getElem_cons_succ, List.setIfInBounds_toArray, List.set_cons_zero, List.set_cons_succ]
        refine wpAnyH_ready (rs := [13]) (by kernel_rfl) (by simp) ?_
        refine AllReadyH.cons rfl (fun K hK => ?_) AllReadyH.nil
        obtain ⟨W6, hW6, h6, r6, z6, B6⟩ := set1 tx5 (.slice sv' (j + 1) cv')
        have sx6 : Bk W6 w.heap.size (.slice s0 a.length k0) (.slice s1 b.length k1) 26 := (r6 _ (by omega)).trans sx5
        go_simp
        refine hK.out _ _ ⟨sx6.c0, sx6.c1⟩ (fun hS => ?_)
        clear hK K
        try simp only [Act.put, List.getElem_toArray, List.getElem_cons_zero, List.getElem_cons_succ, List.setIfInBounds_toArray, List.set_cons_zero, List.set_cons_succ]
        refine wpAnyH_done (by kernel_rfl) ?_ _
        have TM := Lib.hid (show Tm w a b (.slice s0 a.length k0) (.slice s1 b.length k1) Tb (j + 1) (.slice sv' (j + 1) cv') W6 from ⟨sx6, (r6 _ (by omega)).trans rx5, h6, row_rest (by rw [KEY.out]; exact hown) (Nat.lt_succ_self _) r6, bl5.trans (B6 _ (by omega)), by omega, gtT⟩)
        clear hown hgrow gb bl5 tx5 sx5 rx5 t5 f5 sx6 h6 r6 B6 hW6 hrow5
        go_wp2
        go_roundw
        case rel => exact ⟨j + 1, _, by omega, by simp, TM.out⟩
        case measure => simp [RowKit.intOf]; omega
      · go_simp
        go_at_call 32
        refine ca.mono ?_
        rintro e W2 ⟨rfl, b2⟩
        dsimp only
        have b2 := dD.trans b2
        refine hK.out _ _ ⟨(HT.out.sx.keep b2).c0, (HT.out.sx.keep b2).c1⟩ (fun hS => ?_)
        clear hK K
        try simp only [Act.put, List.getElem_toArray, List.getElem_cons_zero, List.getElem_cons_succ, List.setIfInBounds_toArray, List.set_cons_zero, List.set_cons_succ]
        refine wpAnyH_ready (rs := [1, 7]) (by kernel_rfl) (by simp) ?_
        refine AllReadyH.cons rfl (fun K hK => ?_) (AllReadyH.cons rfl (fun K hK => ?_) AllReadyH.nil)
        · have t2 := (cell1 (at_keep HT.out.tx b2)).1
          go_simp
          refine hK.out _ _ hS (fun hS => ?_)
          clear hK K
          try simp only [Act.put, List.getElem_toArray, List.getElem_cons_zero, List.getElem_cons_succ, List.setIfInBounds_toArray, List.set_cons_zero, List.set_cons_succ]
          refine wpAnyH_ready (rs := [7]) (by kernel_rfl) (by simp) ?_
          refine AllReadyH.cons rfl (fun K hK => ?_) AllReadyH.nil
          go_simp
          go_at_call 33
          refine (cb.out W2).mono ?_
          rintro e W3 ⟨rfl, b3⟩
          dsimp only
          have b3 := b2.trans (b3.mono b2.size)
          refine hK.out _ _ ⟨(HT.out.sx.keep b3).c0, (HT.out.sx.keep b3).c1⟩ (fun hS => ?_)
          clear hK K
          try simp only [Act.put, List.getElem_toArray, List.getElem_cons_zero, List.getElem_cons_succ, List.setIfInBounds_toArray, List.set_cons_zero, List.set_cons_succ]
          refine takeH (i := 8) (.int .i16 X9) rfl (by kernel_rfl) (by kernel_rfl) (by kernel_rfl) (fun _ _ _ h => h) (by kernel_rfl) hS (fun w' hw' => ?_) ?_
          · obtain ⟨s0', s1'⟩ := hw'
            go_simp
            try with_reducible rfl
          simp only [Act.put, List.getElem_toArray, List.getElem_cons_zero, List.getElem_cons_succ, List.setIfInBounds_toArray, List.set_cons_zero, List.set_cons_succ]
          refine wpAnyH_ready (rs := [9]) (by kernel_rfl) (by simp) ?_
          refine AllReadyH.cons rfl (fun K hK => ?_) AllReadyH.nil
          go_simp
          go_at_call 31
          refine (tellC d X9 W3).mono ?_
          rintro e W4 ⟨rfl, b4⟩
          dsimp only
          have b4 := b3.trans (b4.mono b3.size)
          have z4 := b4.size
          have r4 := row_underN (k := 0) HT.out.row b4
          refine hK.out _ _ ⟨(HT.out.sx.keep b4).c0, (HT.out.sx.keep b4).c1⟩ (fun hS => ?_)
          clear hK K
          try simp only [Act.put, List.getElem_toArray, List.getElem_cons_zero, List.getElem_cons_succ, List.setIfInBounds_toArray, List.set_cons_zero, List.set_cons_succ]
          refine wpAnyH_ready (rs := [10]) (by kernel_rfl) (by simp) ?_
          refine AllReadyH.cons rfl (fun K hK => ?_) AllReadyH.nil
          go_simp
          obtain ⟨W5, hW5, bb5, x5⟩ := boxN W4 #[.int .i8 2, .int .i8 d, .int .i16 X9, .int .i16 0, .int .i16 0] 53
          rw [hW5]
          have b5 := b4.trans (bb5.mono b4.size)
          have z5 := bb5.size
          refine hK.out _ _ ⟨(HT.out.sx.keep b5).c0, (HT.out.sx.keep b5).c1⟩ (fun hS => ?_)
          clear hK K
          try simp only [Act.put, List.getElem_toArray, List.getElem_cons_zero, List.getElem_cons_succ, List.setIfInBounds_toArray, List.set_cons_zero, List.set_cons_succ]
          refine wpAnyH_ready (rs := [11]) (by kernel_rfl) (by simp) ?_
          refine AllReadyH.cons rfl (fun K hK => ?_) AllReadyH.nil
          refine step_ownN (by kernel_rfl) _ _ _ (by rfl) (Tb + 1) 53 i0 (.agg #[.int .i8 0, .int .i8 0, .int .i16 0, .int .i16 0, .int .i16 0]) 5 8 Try.underlying33 hi hz0 hz1 hz2 rfl (by decide) (.slice sv j cv) j (rwL a b j) (by rfl) (row_underN (k := 0) HT.out.row b5) ⟨W4.heap.size, 0, none⟩ 1 1 [.int .i8 2, .int .i8 d, .int .i16 X9, .int .i16 0, .int .i16 0] (by rfl) (by rfl) (by rw [← hW5]; exact newN _ _ _) (five1 _ _ _ _ _) (by unfold maxLen; omega) (by omega) (by omega) ?_
          intro v' w5 hown hgrow
          have hrow5 := row_underN (k := 0) HT.out.row b5
          have gb : ∀ k, k < Tb + 1 → w5.heap[k]? = W5.heap[k]? := fun k hk => hgrow.block k (by omega) (fun e => by have := (hrow5.lt k e.symm).1; omega)
          have bl5 : Below w.heap.size w w5 := (HT.out.bl.trans (b5.mono HT.out.bl.size)).grown hgrow (by omega) fun k hk => by have := (hrow5.lt k hk).1; omega
          obtain ⟨sv', cv', rfl⟩ := own_formN hown
          have tx5 := (gb Tb (by omega)).trans (at_keep HT.out.tx b5)
          have sx5 : Bk w5 w.heap.size (.slice s0 a.length k0) (.slice s1 b.length k1) 26 := (gb _ (by omega)).trans (HT.out.sx.keep b5)
          have rx5 := (gb (w.heap.size + 1) (by omega)).trans (at_keep HT.out.rx b5)
          obtain ⟨t5, f5⟩ := cell1 tx5
          have zz5 := hgrow.size
          refine hK.out _ _ ⟨sx5.c0, sx5.c1⟩ (fun hS => ?_)
          clear hK K
          try simp only [Act.put, List.getElem_toArray, List.getElem_cons_zero, List.getElem_cons_succ, List.setIfInBounds_toArray, List.set_cons_zero, List.set_cons_succ]
          refine takeH (i := 12) (.pointer (some ⟨Tb, 0, none⟩)) rfl (by kernel_rfl) (by kernel_rfl) (by kernel_rfl) (fun _ _ _ h => h) (by kernel_rfl) hS (fun w' hw' => ?_) ?_
          · obtain ⟨s0', s1'⟩ := hw'
            go_simp
            try with_reducible rfl
          simp only [Act.put, List.getElem_toArray, List.getElem_cons_zero, List.getElem_cons_succ, List.setIfInBounds_toArray, List.set_cons_zero, List.set_cons_succ]
          refine wpAnyH_ready (rs := [13]) (by kernel_rfl) (by simp) ?_
          refine AllReadyH.cons rfl (fun K hK => ?_) AllReadyH.nil
          obtain ⟨W6, hW6, h6, r6, z6, B6⟩ := set1 tx5 (.slice sv' (j + 1) cv')
          have sx6 : Bk W6 w.heap.size (.slice s0 a.length k0) (.slice s1 b.length k1) 26 := (r6 _ (by omega)).trans sx5
          go_simp
          refine hK.out _ _ ⟨sx6.c0, sx6.c1⟩ (fun hS => ?_)
          clear hK K
          try simp only [Act.put, List.getElem_toArray, List.getElem_cons_zero, List.getElem_cons_succ, List.setIfInBounds_toArray, List.set_cons_zero, List.set_cons_succ]
          refine wpAnyH_done (by kernel_rfl) ?_ _
          have TM := Lib.hid (show Tm w a b (.slice s0 a.length k0) (.slice s1 b.length k1) Tb (j + 1) (.slice sv' (j + 1) cv') W6 from ⟨sx6, (r6 _ (by omega)).trans rx5, h6, row_rest (by rw [KEY.out]; exact hown) (Nat.lt_succ_self _) r6, bl5.trans (B6 _ (by omega)), by omega, gtT⟩)
          clear hown hgrow gb bl5 tx5 sx5 rx5 t5 f5 sx6 h6 r6 B6 hW6 hrow5
          go_wp2
          go_roundw
          case rel => exact ⟨j + 1, _, by omega, by simp, TM.out⟩
          case measure => simp [RowKit.intOf]; omega
        · go_simp
          go_at_call 33
          refine (cb.out W2).mono ?_
          rintro e W3 ⟨rfl, b3⟩
          dsimp only
          have b3 := b2.trans (b3.mono b2.size)
          refine hK.out _ _ ⟨(HT.out.sx.keep b3).c0, (HT.out.sx.keep b3).c1⟩ (fun hS => ?_)
          clear hK K
          try simp only [Act.put, List.getElem_toArray, List.getElem_cons_zero, List.getElem_cons_succ, List.setIfInBounds_toArray, List.set_cons_zero, List.set_cons_succ]
          refine takeH (i := 8) (.int .i16 X9) rfl (by kernel_rfl) (by kernel_rfl) (by kernel_rfl) (fun _ _ _ h => h) (by kernel_rfl) hS (fun w' hw' => ?_) ?_
          · obtain ⟨s0', s1'⟩ := hw'
            go_simp
            try with_reducible rfl
          simp only [Act.put, List.getElem_toArray, List.getElem_cons_zero, List.getElem_cons_succ, List.setIfInBounds_toArray, List.set_cons_zero, List.set_cons_succ]
          refine wpAnyH_ready (rs := [1, 9]) (by kernel_rfl) (by simp) ?_
          refine AllReadyH.cons rfl (fun K hK => ?_) (AllReadyH.cons rfl (fun K hK => ?_) AllReadyH.nil)
          · have t3 := (cell1 (at_keep HT.out.tx b3)).1
            go_simp
            refine hK.out _ _ hS (fun hS => ?_)
            clear hK K
            try simp only [Act.put, List.getElem_toArray, List.getElem_cons_zero, List.getElem_cons_succ, List.setIfInBounds_toArray, List.set_cons_zero, List.set_cons_succ]
            refine wpAnyH_ready (rs := [9]) (by kernel_rfl) (by simp) ?_
            refine AllReadyH.cons rfl (fun K hK => ?_) AllReadyH.nil
            go_simp
            go_at_call 31
            refine (tellC d X9 W3).mono ?_
            rintro e W4 ⟨rfl, b4⟩
            dsimp only
            have b4 := b3.trans (b4.mono b3.size)
            have z4 := b4.size
            have r4 := row_underN (k := 0) HT.out.row b4
            refine hK.out _ _ ⟨(HT.out.sx.keep b4).c0, (HT.out.sx.keep b4).c1⟩ (fun hS => ?_)
            clear hK K
            try simp only [Act.put, List.getElem_toArray, List.getElem_cons_zero, List.getElem_cons_succ, List.setIfInBounds_toArray, List.set_cons_zero, List.set_cons_succ]
            refine wpAnyH_ready (rs := [10]) (by kernel_rfl) (by simp) ?_
            refine AllReadyH.cons rfl (fun K hK => ?_) AllReadyH.nil
            go_simp
            obtain ⟨W5, hW5, bb5, x5⟩ := boxN W4 #[.int .i8 2, .int .i8 d, .int .i16 X9, .int .i16 0, .int .i16 0] 53
            rw [hW5]
            have b5 := b4.trans (bb5.mono b4.size)
            have z5 := bb5.size
            refine hK.out _ _ ⟨(HT.out.sx.keep b5).c0, (HT.out.sx.keep b5).c1⟩ (fun hS => ?_)
            clear hK K
            try simp only [Act.put, List.getElem_toArray, List.getElem_cons_zero, List.getElem_cons_succ, List.setIfInBounds_toArray, List.set_cons_zero, List.set_cons_succ]
            refine wpAnyH_ready (rs := [11]) (by kernel_rfl) (by simp) ?_
            refine AllReadyH.cons rfl (fun K hK => ?_) AllReadyH.nil
            refine step_ownN (by kernel_rfl) _ _ _ (by rfl) (Tb + 1) 53 i0 (.agg #[.int .i8 0, .int .i8 0, .int .i16 0, .int .i16 0, .int .i16 0]) 5 8 Try.underlying33 hi hz0 hz1 hz2 rfl (by decide) (.slice sv j cv) j (rwL a b j) (by rfl) (row_underN (k := 0) HT.out.row b5) ⟨W4.heap.size, 0, none⟩ 1 1 [.int .i8 2, .int .i8 d, .int .i16 X9, .int .i16 0, .int .i16 0] (by rfl) (by rfl) (by rw [← hW5]; exact newN _ _ _) (five1 _ _ _ _ _) (by unfold maxLen; omega) (by omega) (by omega) ?_
            intro v' w5 hown hgrow
            have hrow5 := row_underN (k := 0) HT.out.row b5
            have gb : ∀ k, k < Tb + 1 → w5.heap[k]? = W5.heap[k]? := fun k hk => hgrow.block k (by omega) (fun e => by have := (hrow5.lt k e.symm).1; omega)
            have bl5 : Below w.heap.size w w5 := (HT.out.bl.trans (b5.mono HT.out.bl.size)).grown hgrow (by omega) fun k hk => by have := (hrow5.lt k hk).1; omega
            obtain ⟨sv', cv', rfl⟩ := own_formN hown
            have tx5 := (gb Tb (by omega)).trans (at_keep HT.out.tx b5)
            have sx5 : Bk w5 w.heap.size (.slice s0 a.length k0) (.slice s1 b.length k1) 26 := (gb _ (by omega)).trans (HT.out.sx.keep b5)
            have rx5 := (gb (w.heap.size + 1) (by omega)).trans (at_keep HT.out.rx b5)
            obtain ⟨t5, f5⟩ := cell1 tx5
            have zz5 := hgrow.size
            refine hK.out _ _ ⟨sx5.c0, sx5.c1⟩ (fun hS => ?_)
            clear hK K
            try simp only [Act.put, List.getElem_toArray, List.getElem_cons_zero, List.getElem_cons_succ, List.setIfInBounds_toArray, List.set_cons_zero, List.set_cons_succ]
            refine takeH (i := 12) (.pointer (some ⟨Tb, 0, none⟩)) rfl (by kernel_rfl) (by kernel_rfl) (by kernel_rfl) (fun _ _ _ h => h) (by kernel_rfl) hS (fun w' hw' => ?_) ?_
            · obtain ⟨s0', s1'⟩ := hw'
              go_simp
              try with_reducible rfl
            simp only [Act.put, List.getElem_toArray, List.getElem_cons_zero, List.getElem_cons_succ, List.setIfInBounds_toArray, List.set_cons_zero, List.set_cons_succ]
            refine wpAnyH_ready (rs := [13]) (by kernel_rfl) (by simp) ?_
            refine AllReadyH.cons rfl (fun K hK => ?_) AllReadyH.nil
            obtain ⟨W6, hW6, h6, r6, z6, B6⟩ := set1 tx5 (.slice sv' (j + 1) cv')
            have sx6 : Bk W6 w.heap.size (.slice s0 a.length k0) (.slice s1 b.length k1) 26 := (r6 _ (by omega)).trans sx5
            go_simp
            refine hK.out _ _ ⟨sx6.c0, sx6.c1⟩ (fun hS => ?_)
            clear hK K
            try simp only [Act.put, List.getElem_toArray, List.getElem_cons_zero, List.getElem_cons_succ, List.setIfInBounds_toArray, List.set_cons_zero, List.set_cons_succ]
            refine wpAnyH_done (by kernel_rfl) ?_ _
            have TM := Lib.hid (show Tm w a b (.slice s0 a.length k0) (.slice s1 b.length k1) Tb (j + 1) (.slice sv' (j + 1) cv') W6 from ⟨sx6, (r6 _ (by omega)).trans rx5, h6, row_rest (by rw [KEY.out]; exact hown) (Nat.lt_succ_self _) r6, bl5.trans (B6 _ (by omega)), by omega, gtT⟩)
            clear hown hgrow gb bl5 tx5 sx5 rx5 t5 f5 sx6 h6 r6 B6 hW6 hrow5
            go_wp2
            go_roundw
            case rel => exact ⟨j + 1, _, by omega, by simp, TM.out⟩
            case measure => simp [RowKit.intOf]; omega
          · go_simp
            go_at_call 31
            refine (tellC d X9 W3).mono ?_
            rintro e W4 ⟨rfl, b4⟩
            dsimp only
            have b4 := b3.trans (b4.mono b3.size)
            have z4 := b4.size
            have r4 := row_underN (k := 0) HT.out.row b4
            refine hK.out _ _ ⟨(HT.out.sx.keep b4).c0, (HT.out.sx.keep b4).c1⟩ (fun hS => ?_)
            clear hK K
            try simp only [Act.put, List.getElem_toArray, List.getElem_cons_zero, List.getElem_cons_succ, List.setIfInBounds_toArray, List.set_cons_zero, List.set_cons_succ]
            refine wpAnyH_ready (rs := [1, 10]) (by kernel_rfl) (by simp) ?_
            refine AllReadyH.cons rfl (fun K hK => ?_) (AllReadyH.cons rfl (fun K hK => ?_) AllReadyH.nil)
            · have t4 := (cell1 (at_keep HT.out.tx b4)).1
              go_simp
              refine hK.out _ _ hS (fun hS => ?_)
              clear hK K
              try simp only [Act.put, List.getElem_toArray, List.getElem_cons_zero, List.getElem_cons_succ, List.setIfInBounds_toArray, List.set_cons_zero, List.set_cons_succ]
              refine wpAnyH_ready (rs := [10]) (by kernel_rfl) (by simp) ?_
              refine AllReadyH.cons rfl (fun K hK => ?_) AllReadyH.nil
              go_simp
              obtain ⟨W5, hW5, bb5, x5⟩ := boxN W4 #[.int .i8 2, .int .i8 d, .int .i16 X9, .int .i16 0, .int .i16 0] 53
              rw [hW5]
              have b5 := b4.trans (bb5.mono b4.size)
              have z5 := bb5.size
              refine hK.out _ _ ⟨(HT.out.sx.keep b5).c0, (HT.out.sx.keep b5).c1⟩ (fun hS => ?_)
              clear hK K
              try simp only [Act.put, List.getElem_toArray, List.getElem_cons_zero, List.getElem_cons_succ, List.setIfInBounds_toArray, List.set_cons_zero, List.set_cons_succ]
              refine wpAnyH_ready (rs := [11]) (by kernel_rfl) (by simp) ?_
              refine AllReadyH.cons rfl (fun K hK => ?_) AllReadyH.nil
              refine step_ownN (by kernel_rfl) _ _ _ (by rfl) (Tb + 1) 53 i0 (.agg #[.int .i8 0, .int .i8 0, .int .i16 0, .int .i16 0, .int .i16 0]) 5 8 Try.underlying33 hi hz0 hz1 hz2 rfl (by decide) (.slice sv j cv) j (rwL a b j) (by rfl) (row_underN (k := 0) HT.out.row b5) ⟨W4.heap.size, 0, none⟩ 1 1 [.int .i8 2, .int .i8 d, .int .i16 X9, .int .i16 0, .int .i16 0] (by rfl) (by rfl) (by rw [← hW5]; exact newN _ _ _) (five1 _ _ _ _ _) (by unfold maxLen; omega) (by omega) (by omega) ?_
              intro v' w5 hown hgrow
              have hrow5 := row_underN (k := 0) HT.out.row b5
              have gb : ∀ k, k < Tb + 1 → w5.heap[k]? = W5.heap[k]? := fun k hk => hgrow.block k (by omega) (fun e => by have := (hrow5.lt k e.symm).1; omega)
              have bl5 : Below w.heap.size w w5 := (HT.out.bl.trans (b5.mono HT.out.bl.size)).grown hgrow (by omega) fun k hk => by have := (hrow5.lt k hk).1; omega
              obtain ⟨sv', cv', rfl⟩ := own_formN hown
              have tx5 := (gb Tb (by omega)).trans (at_keep HT.out.tx b5)
              have sx5 : Bk w5 w.heap.size (.slice s0 a.length k0) (.slice s1 b.length k1) 26 := (gb _ (by omega)).trans (HT.out.sx.keep b5)
              have rx5 := (gb (w.heap.size + 1) (by omega)).trans (at_keep HT.out.rx b5)
              obtain ⟨t5, f5⟩ := cell1 tx5
              have zz5 := hgrow.size
              refine hK.out _ _ ⟨sx5.c0, sx5.c1⟩ (fun hS => ?_)
              clear hK K
              try simp only [Act.put, List.getElem_toArray, List.getElem_cons_zero, List.getElem_cons_succ, List.setIfInBounds_toArray, List.set_cons_zero, List.set_cons_succ]
              refine takeH (i := 12) (.pointer (some ⟨Tb, 0, none⟩)) rfl (by kernel_rfl) (by kernel_rfl) (by kernel_rfl) (fun _ _ _ h => h) (by kernel_rfl) hS (fun w' hw' => ?_) ?_
              · obtain ⟨s0', s1'⟩ := hw'
                go_simp
                try with_reducible rfl
              simp only [Act.put, List.getElem_toArray, List.getElem_cons_zero, List.getElem_cons_succ, List.setIfInBounds_toArray, List.set_cons_zero, List.set_cons_succ]
              refine wpAnyH_ready (rs := [13]) (by kernel_rfl) (by simp) ?_
              refine AllReadyH.cons rfl (fun K hK => ?_) AllReadyH.nil
              obtain ⟨W6, hW6, h6, r6, z6, B6⟩ := set1 tx5 (.slice sv' (j + 1) cv')
              have sx6 : Bk W6 w.heap.size (.slice s0 a.length k0) (.slice s1 b.length k1) 26 := (r6 _ (by omega)).trans sx5
              go_simp
              refine hK.out _ _ ⟨sx6.c0, sx6.c1⟩ (fun hS => ?_)
              clear hK K
              try simp only [Act.put, List.getElem_toArray, List.getElem_cons_zero, List.getElem_cons_succ, List.setIfInBounds_toArray, List.set_cons_zero, List.set_cons_succ]
              refine wpAnyH_done (by kernel_rfl) ?_ _
              have TM := Lib.hid (show Tm w a b (.slice s0 a.length k0) (.slice s1 b.length k1) Tb (j + 1) (.slice sv' (j + 1) cv') W6 from ⟨sx6, (r6 _ (by omega)).trans rx5, h6, row_rest (by rw [KEY.out]; exact hown) (Nat.lt_succ_self _) r6, bl5.trans (B6 _ (by omega)), by omega, gtT⟩)
              clear hown hgrow gb bl5 tx5 sx5 rx5 t5 f5 sx6 h6 r6 B6 hW6 hrow5
              go_wp2
              go_roundw
              case rel => exact ⟨j + 1, _, by omega, by simp, TM.out⟩
              case measure => simp [RowKit.intOf]; omega
            · go_simp
              obtain ⟨W5, hW5, bb5, x5⟩ := boxN W4 #[.int .i8 2, .int .i8 d, .int .i16 X9, .int .i16 0, .int .i16 0] 53
              rw [hW5]
              have b5 := b4.trans (bb5.mono b4.size)
              have z5 := bb5.size
              refine hK.out _ _ ⟨(HT.out.sx.keep b5).c0, (HT.out.sx.keep b5).c1⟩ (fun hS => ?_)
              clear hK K
              try simp only [Act.put, List.getElem_toArray, List.getElem_cons_zero, List.getElem_cons_succ, List.setIfInBounds_toArray, List.set_cons_zero, List.set_cons_succ]
              refine wpAnyH_ready (rs := [1]) (by kernel_rfl) (by simp) ?_
              refine AllReadyH.cons rfl (fun K hK => ?_) AllReadyH.nil
              have t5 := (cell1 (at_keep HT.out.tx b5)).1
              go_simp
              refine hK.out _ _ hS (fun hS => ?_)
              clear hK K
              try simp only [Act.put, List.getElem_toArray, List.getElem_cons_zero, List.getElem_cons_succ, List.setIfInBounds_toArray, List.set_cons_zero, List.set_cons_succ]
              refine wpAnyH_ready (rs := [11]) (by kernel_rfl) (by simp) ?_
              refine AllReadyH.cons rfl (fun K hK => ?_) AllReadyH.nil
              refine step_ownN (by kernel_rfl) _ _ _ (by rfl) (Tb + 1) 53 i0 (.agg #[.int .i8 0, .int .i8 0, .int .i16 0, .int .i16 0, .int .i16 0]) 5 8 Try.underlying33 hi hz0 hz1 hz2 rfl (by decide) (.slice sv j cv) j (rwL a b j) (by rfl) (row_underN (k := 0) HT.out.row b5) ⟨W4.heap.size, 0, none⟩ 1 1 [.int .i8 2, .int .i8 d, .int .i16 X9, .int .i16 0, .int .i16 0] (by rfl) (by rfl) (by rw [← hW5]; exact newN _ _ _) (five1 _ _ _ _ _) (by unfold maxLen; omega) (by omega) (by omega) ?_
              intro v' w5 hown hgrow
              have hrow5 := row_underN (k := 0) HT.out.row b5
              have gb : ∀ k, k < Tb + 1 → w5.heap[k]? = W5.heap[k]? := fun k hk => hgrow.block k (by omega) (fun e => by have := (hrow5.lt k e.symm).1; omega)
              have bl5 : Below w.heap.size w w5 := (HT.out.bl.trans (b5.mono HT.out.bl.size)).grown hgrow (by omega) fun k hk => by have := (hrow5.lt k hk).1; omega
              obtain ⟨sv', cv', rfl⟩ := own_formN hown
              have tx5 := (gb Tb (by omega)).trans (at_keep HT.out.tx b5)
              have sx5 : Bk w5 w.heap.size (.slice s0 a.length k0) (.slice s1 b.length k1) 26 := (gb _ (by omega)).trans (HT.out.sx.keep b5)
              have rx5 := (gb (w.heap.size + 1) (by omega)).trans (at_keep HT.out.rx b5)
              obtain ⟨t5, f5⟩ := cell1 tx5
              have zz5 := hgrow.size
              refine hK.out _ _ ⟨sx5.c0, sx5.c1⟩ (fun hS => ?_)
              clear hK K
              try simp only [Act.put, List.getElem_toArray, List.getElem_cons_zero, List.getElem_cons_succ, List.setIfInBounds_toArray, List.set_cons_zero, List.set_cons_succ]
              refine takeH (i := 12) (.pointer (some ⟨Tb, 0, none⟩)) rfl (by kernel_rfl) (by kernel_rfl) (by kernel_rfl) (fun _ _ _ h => h) (by kernel_rfl) hS (fun w' hw' => ?_) ?_
              · obtain ⟨s0', s1'⟩ := hw'
                go_simp
                try with_reducible rfl
              simp only [Act.put, List.getElem_toArray, List.getElem_cons_zero, List.getElem_cons_succ, List.setIfInBounds_toArray, List.set_cons_zero, List.set_cons_succ]
              refine wpAnyH_ready (rs := [13]) (by kernel_rfl) (by simp) ?_
              refine AllReadyH.cons rfl (fun K hK => ?_) AllReadyH.nil
              obtain ⟨W6, hW6, h6, r6, z6, B6⟩ := set1 tx5 (.slice sv' (j + 1) cv')
              have sx6 : Bk W6 w.heap.size (.slice s0 a.length k0) (.slice s1 b.length k1) 26 := (r6 _ (by omega)).trans sx5
              go_simp
              refine hK.out _ _ ⟨sx6.c0, sx6.c1⟩ (fun hS => ?_)
              clear hK K
              try simp only [Act.put, List.getElem_toArray, List.getElem_cons_zero, List.getElem_cons_succ, List.setIfInBounds_toArray, List.set_cons_zero, List.set_cons_succ]
              refine wpAnyH_done (by kernel_rfl) ?_ _
              have TM := Lib.hid (show Tm w a b (.slice s0 a.length k0) (.slice s1 b.length k1) Tb (j + 1) (.slice sv' (j + 1) cv') W6 from ⟨sx6, (r6 _ (by omega)).trans rx5, h6, row_rest (by rw [KEY.out]; exact hown) (Nat.lt_succ_self _) r6, bl5.trans (B6 _ (by omega)), by omega, gtT⟩)
              clear hown hgrow gb bl5 tx5 sx5 rx5 t5 f5 sx6 h6 r6 B6 hW6 hrow5
              go_wp2
              go_roundw
              case rel => exact ⟨j + 1, _, by omega, by simp, TM.out⟩
              case measure => simp [RowKit.intOf]; omega
    · obtain rfl : j = N := by omega
      have y := HT.out.rx
      obtain ⟨q0, f0⟩ := cell1 y
      obtain ⟨W9, hW9, h9, r9, z9, B9⟩ := set1 y (.slice sv j cv)
      obtain ⟨e0, _⟩ := cell1 h9
      go_wp2
      refine bodyPost_ret (v := .tuple #[.agg #[.slice sv j cv], .int .i64 0]) (by simp [results, Try.results16, go_sem, e0]) rfl ?_
      exact ⟨⟨_, _, rfl, row_base (row_rest HT.out.row (by omega) r9) (by omega)⟩, HT.out.bl.trans (B9 _ (by omega))⟩
end Go.Proofs.Ytmpilchondjdcaa.Sx
