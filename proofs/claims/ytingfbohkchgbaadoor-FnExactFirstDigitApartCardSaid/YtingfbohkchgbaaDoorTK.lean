/-
  Digits that are taken, one by one, by the code.
-/
import Derived.Test.YtingfbohkchgbaaDoorT0r
import Derived.Test.YtingfbohkchgbaaDoorU0
import Derived.Test.YtingfbohkchgbaaDoorU2
import Derived.WalkSpells
namespace Go.Proofs.YtingfbohkchgbaaDoor.Sx
open Go Go.RowKit
set_option linter.unusedVariables false
set_option linter.unusedSimpArgs false

structure Only (w w' : World) (b : Nat) : Prop where
  mk ::
  bel : ∀ n, n ≤ b → Below n w w'
  rest : ∀ k, k ≠ b → w'.heap[k]? = w.heap[k]?
  siz : w'.heap.size = w.heap.size
/-- What takes digits has taken k. -/
structure Tk (w : World) (ns nt np : Nat) (a b : List Int) (v0 v1 : Value) (k : Nat) : Prop where
  mk ::
  here : Here w ns a b v0 v1
  tk : w.heap[nt]? = some (.cells #[.int .i64 k] 3 (0, 0))
  pl : w.heap[np]? = some (.cells #[.int .i64 (plc a b k)] 3 (0, 0))
  d0 : nt ≠ np
  d1 : ns ≠ nt
  d2 : ns ≠ np
theorem Tk.keep {w w' : World} {ns nt np : Nat} {a b : List Int} {v0 v1 : Value} {k : Nat} (h : Tk w ns nt np a b v0 v1 k) (hB : Below w.heap.size w w') : Tk w' ns nt np a b v0 v1 k := ⟨h.here.keep hB, at_keep h.tk hB, at_keep h.pl hB, h.d0, h.d1, h.d2⟩
/-- The world behind a taken digit. -/
structure Took (w w' : World) (nt np : Nat) : Prop where
  mk ::
  rest : ∀ q, q < w.heap.size → q ≠ nt → q ≠ np → w'.heap[q]? = w.heap[q]?
  bel : ∀ n, n ≤ nt → n ≤ np → n ≤ w.heap.size → Below n w w'
theorem isL_rest {K : IntKind} {w w' : World} {l : List Int} {v : Value} {m : Nat} (h : IsL K w l v) (hl : ∀ q, v.ownBlock = some q → q < m) (hB : Below m w w') : IsL K w' l v := by
  rcases h with h | ⟨b, o, c, rfl, h2, h3⟩
  · exact .inl h
  · refine .inr ⟨b, o, c, rfl, h2, fun i x hx => ?_⟩
    exact (hB.cell (p := ⟨b, o + i, none⟩) (hl b rfl)).trans (h3 i x hx)
set_option maxRecDepth 1000000 in
set_option maxHeartbeats 4000000 in
theorem takeI_no {w : World} {ns nt np : Nat} {a b : List Int} {v0 v1 : Value} (h : Tk w ns nt np a b v0 v1 400) : Calls Tryd.prog 62 #[.pointer (some ⟨nt, 0, none⟩), .pointer (some ⟨ns, 0, none⟩), .pointer (some ⟨np, 0, none⟩)] w fun e w' => e = .returned (.tuple #[.int .i8 0, .bool false]) ∧ Same w w' := by
  have c0 : w.cell? ⟨nt, 0, none⟩ = some (.int .i64 400) := by rw [Lib.cell_of_heap h.tk]; rfl
  clear h
  go_enter Tryd.func62, Tryd.ntmps62
  go_wp2
  refine bodyPost_ret (v := .tuple #[.int .i8 0, .bool false]) (by simp [results, Tryd.results62, go_sem]) rfl ?_
  exact ⟨rfl, rfl⟩
theorem oneS {w : World} {b : Nat} {x : Value} {t : TypeId} (h : w.heap[b]? = some (.cells #[x] t (0, 0))) (v : Value) : ∃ W, w.setCell ⟨b, 0, none⟩ v = W ∧ W.heap[b]? = some (.cells #[v] t (0, 0)) ∧ Only w W b := by
  refine ⟨_, rfl, ?_, fun n hn => (Below.refl _ _).setCell (p := ⟨b, 0, none⟩) hn _, fun k hk => heap_setCell_other _ _ _ _ hk, by simp [World.setCell]⟩
  rw [heap_setCell_same _ _ _ _ _ _ h]; rfl
set_option maxRecDepth 1000000 in
set_option maxHeartbeats 8000000 in
theorem takeI_yes {w : World} {ns nt np m : Nat} {a b : List Int} {v0 v1 : Value} {k : Nat} (h : Tk w ns nt np a b v0 v1 k) (hk : k < 400) (la : a.length ≤ 16) (lb : 1 ≤ b.length ∧ b.length ≤ 14) (hm : m ≤ nt ∧ m ≤ np) (l0 : ∀ q, v0.ownBlock = some q → q < m) (l1 : ∀ q, v1.ownBlock = some q → q < m) :
    Calls Tryd.prog 62 #[.pointer (some ⟨nt, 0, none⟩), .pointer (some ⟨ns, 0, none⟩), .pointer (some ⟨np, 0, none⟩)] w fun e w' => e = .returned (.tuple #[.int .i8 (dg a b k), .bool true]) ∧ Tk w' ns nt np a b v0 v1 (k + 1) ∧ Took w w' nt np := by
  have hp := plc_lt (a := a) lb.1 k
  have hs := plc_succ (a := a) lb.1 k
  have AT := atI h.here.i0 h.here.i1 (by omega) (by omega) hp
  obtain ⟨s0, k0, rfl⟩ := h.here.i0.form
  obtain ⟨s1, k1, rfl⟩ := h.here.i1.form
  have BH := Lib.hid fun W' => behindI (w := W') (s0 := s0) (s1 := s1) (c0' := k0) (c1' := k1) (n := a.length) (m := b.length) (by omega) (by omega) hp
  rw [← hs] at BH
  have hd : dgp a b (plc a b k) = dg a b k := rfl
  rw [hd] at AT
  obtain ⟨d, hdd⟩ : ∃ d, dg a b k = d := ⟨_, rfl⟩
  obtain ⟨p, hpp⟩ : ∃ p, plc a b k = p := ⟨_, rfl⟩
  obtain ⟨p', hpp'⟩ : ∃ p, plc a b (k + 1) = p := ⟨_, rfl⟩
  have hpl := h.pl
  rw [hdd, hpp] at AT
  rw [hpp] at hpl
  rw [hpp, hpp'] at BH
  rw [hdd]
  have c0 : w.cell? ⟨nt, 0, none⟩ = some (.int .i64 k) := by rw [Lib.cell_of_heap h.tk]; rfl
  have c1 : w.cell? ⟨np, 0, none⟩ = some (.int .i64 p) := by rw [Lib.cell_of_heap hpl]; rfl
  have d0 := h.here.bk.c0
  have d1 := h.here.bk.c1
  have kb : ((k : Int) == 400) = false := by rw [beq_eq_false_iff_ne]; omega
  have e1 : IntKind.i64.wrap ((k : Int) + 1) = (k : Int) + 1 := by rw [IntKind.wrap_i64]; omega
  have H := Lib.hid h
  have HPL := Lib.hid hpl
  have HP' := Lib.hid hpp'
  clear hs hd hdd hpp hpp' hp h hpl
  go_enter Tryd.func62, Tryd.ntmps62
  go_wp2_with (go_at_call 63; refine AT.mono ?_)
  rintro e W1 ⟨rfl, b1⟩
  try dsimp only
  have h1 := H.out.keep b1
  have bh := BH.out W1
  have pl1 := at_keep HPL.out b1
  have c1 : W1.cell? ⟨np, 0, none⟩ = some (.int .i64 p) := by rw [Lib.cell_of_heap pl1]; rfl
  have d0 := h1.here.bk.c0
  have d1 := h1.here.bk.c1
  clear AT
  go_wp2_with (go_at_call 64; refine bh.mono ?_)
  rintro e W2 ⟨rfl, b2⟩
  try dsimp only
  have b2 := b1.trans (b2.mono b1.size)
  have h2 := H.out.keep b2
  have pl2 := at_keep HPL.out b2
  obtain ⟨W3, hW3, g3, o3⟩ := oneS pl2 (.int .i64 p')
  have tk3 := (o3.rest _ h2.d0).trans h2.tk
  obtain ⟨W4, hW4, g4, o4⟩ := oneS tk3 (.int .i64 ((k : Int) + 1))
  have c1 : W2.cell? ⟨np, 0, none⟩ = some (.int .i64 p) := by rw [Lib.cell_of_heap pl2]; rfl
  have c2 : W2.frozen? ⟨np, 0, none⟩ = false := Lib.frozen_of_heap pl2 _
  have c3 : W3.cell? ⟨nt, 0, none⟩ = some (.int .i64 k) := by rw [Lib.cell_of_heap tk3]; rfl
  have c4 : W3.frozen? ⟨nt, 0, none⟩ = false := Lib.frozen_of_heap tk3 _
  have bel := Lib.hid (show ∀ n, n ≤ nt → n ≤ np → n ≤ w.heap.size → Below n w W4 from fun n h1 h2 h3 => (b2.mono h3).trans ((o3.bel n h2).trans (o4.bel n h1)))
  have TK := Lib.hid (show Tk W4 ns nt np a b (.slice s0 a.length k0) (.slice s1 b.length k1) (k + 1) from by
    have bm := bel.out m hm.1 hm.2 (Nat.le_trans hm.1 (Nat.le_of_lt (heap_lt H.out.tk)))
    refine ⟨⟨?_, isL_rest H.out.here.i0 l0 bm, isL_rest H.out.here.i1 l1 bm⟩, ?_, ?_, h2.d0, h2.d1, h2.d2⟩
    · exact (o4.rest _ h2.d1).trans ((o3.rest _ h2.d2).trans h2.here.bk)
    · rw [g4]; rfl
    · rw [HP'.out]; exact (o4.rest _ h2.d0.symm).trans g3)
  have TO := Lib.hid (show Took w W4 nt np from ⟨fun q h1 h2 h3 => (o4.rest _ h2).trans ((o3.rest _ h3).trans (b2.block _ h1)), bel.out⟩)
  clear h2 pl2 g3 o3 tk3 g4 o4 bel bh h1 pl1 b1 b2
  go_wp2
  refine bodyPost_ret (v := .tuple #[.int .i8 d, .bool true]) (by simp [results, Tryd.results62, go_sem]) rfl ?_
  exact ⟨rfl, TK.out, TO.out⟩
/-- What takes digits is made. -/
structure MadeT (w : World) (a b : List Int) (v0 v1 : Value) (e : Ending) (w' : World) : Prop where
  mk ::
  here : ∃ ns nt np, e = .returned (.func (.func 62) #[] #[.pointer (some ⟨nt, 0, none⟩), .pointer (some ⟨ns, 0, none⟩), .pointer (some ⟨np, 0, none⟩)]) ∧ Tk w' ns nt np a b v0 v1 0 ∧ w.heap.size ≤ nt ∧ w.heap.size ≤ np
  below : Below w.heap.size w w'
set_option maxRecDepth 1000000 in
set_option maxHeartbeats 8000000 in
theorem takerI {w : World} {a b : List Int} {v0 v1 : Value} (h0 : IsL .i8 w a v0) (h1 : IsL .i8 w b v1) (lb : 1 ≤ b.length) : Calls Tryd.prog 39 #[.agg #[v0, v1]] w (MadeT w a b v0 v1) := by
  obtain ⟨W, hW, hB, x⟩ := boxK w v0 v1 36
  obtain ⟨V, hV, hB2, y⟩ := boxN W #[.int .i64 0] 3
  obtain ⟨U, hU, hB3, u⟩ := boxN V #[.int .i64 0] 3
  have b2 := hB.trans (hB2.mono hB.size)
  have b3 := b2.trans (hB3.mono b2.size)
  have z1 : w.heap.size < W.heap.size := by rw [← hW]; simp
  have z2 : W.heap.size < V.heap.size := by rw [← hV]; simp
  have y := at_keep y hB3
  have TK : Tk U w.heap.size V.heap.size W.heap.size a b v0 v1 0 := ⟨⟨(x.keep hB2).keep hB3, h0.keep b3, h1.keep b3⟩, u, by rw [plc_zero a b lb]; exact y, by omega, by omega, by omega⟩
  have HT := Lib.hid TK
  have HB := Lib.hid b3
  have c0 : U.cell? ⟨W.heap.size, 0, none⟩ = some (.int .i64 0) := by rw [Lib.cell_of_heap y]; rfl
  have c1 : U.frozen? ⟨W.heap.size, 0, none⟩ = false := Lib.frozen_of_heap y _
  have c2 : U.cell? ⟨V.heap.size, 0, none⟩ = some (.int .i64 0) := by rw [Lib.cell_of_heap u]; rfl
  have c3 : U.frozen? ⟨V.heap.size, 0, none⟩ = false := Lib.frozen_of_heap u _
  obtain ⟨U1, hU1, g1, o1⟩ := oneS y (.int .i64 0)
  have u1 := (o1.rest _ (show V.heap.size ≠ W.heap.size by omega)).trans u
  obtain ⟨U2, hU2, g2, o2⟩ := oneS u1 (.int .i64 0)
  have c4 : U1.cell? ⟨V.heap.size, 0, none⟩ = some (.int .i64 0) := by rw [Lib.cell_of_heap u1]; rfl
  have c5 : U1.frozen? ⟨V.heap.size, 0, none⟩ = false := Lib.frozen_of_heap u1 _
  have HT2 := Lib.hid (show Tk U2 w.heap.size V.heap.size W.heap.size a b v0 v1 0 from by
    have hb : Below w.heap.size w U2 := b3.trans ((o1.bel _ (by omega)).trans (o2.bel _ (by omega)))
    exact ⟨⟨(o2.rest _ (by omega)).trans ((o1.rest _ (by omega)).trans TK.here.bk), h0.keep hb, h1.keep hb⟩, g2, by rw [plc_zero a b lb]; exact (o2.rest _ (by omega)).trans g1, by omega, by omega, by omega⟩)
  have HB2 := Lib.hid (show Below w.heap.size w U2 from b3.trans ((o1.bel _ (by omega)).trans (o2.bel _ (by omega))))
  clear TK x y u b2 b3 hB hB2 hB3 h0 h1 g1 o1 u1 g2 o2
  go_enter Tryd.func39, Tryd.ntmps39
  go_wp2
  go_ret
  exact ⟨⟨_, _, _, rfl, HT2.out, by omega, by omega⟩, HB2.out⟩
end Go.Proofs.YtingfbohkchgbaaDoor.Sx
