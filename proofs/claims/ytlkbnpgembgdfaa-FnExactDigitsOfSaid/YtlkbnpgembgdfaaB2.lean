/-
  The first digits of a stream, by the code.
-/
import Derived.Test.YtlkbnpgembgdfaaB0
namespace Go.Proofs.Ytlkbnpgembgdfaa.Sx
open Go Go.RowKit
set_option linter.unusedVariables false
set_option linter.unusedSimpArgs false
attribute [local go_sem] Oper.semAt_some

/-- The first digits. -/
def dgL (a b : List Int) (n : Nat) : List Int := (List.range n).map (dg a b)
theorem dgL_len (a b : List Int) (n : Nat) : (dgL a b n).length = n := by simp [dgL]
theorem dgL_succ (a b : List Int) (n : Nat) : dgL a b (n + 1) = dgL a b n ++ [dg a b n] := by unfold dgL; rw [List.range_succ, List.map_append]; rfl
/-- A list and a code are returned, in memory of the call's own. -/
structure GaveL (w w' : World) (l : List Int) (c : Int) (e : Ending) : Prop where
  mk ::
  here : ∃ s cp, e = .returned (.tuple #[.slice s l.length cp, .int .i64 c]) ∧ OwnL .i8 w.heap.size w' l (.slice s l.length cp)
  below : Below w.heap.size w w'
/-- What a function from a stream and a number to a list and a code does. -/
def DoesL (g : Nat) (a b : List Int) (n : Int) (l : List Int) (c : Int) : Prop := ∀ (w : World) (v0 v1 : Value), IsL .i8 w a v0 → IsL .i8 w b v1 → Calls Try.prog g #[.agg #[v0, v1], .int .i64 n] w fun e w' => GaveL w w' l c e
/-- The iterator. -/
def Iter (v0 v1 : Value) (w : World) (e : Ending) (w' : World) : Prop := e = .returned (.func (.func 69) #[] #[.pointer (some ⟨w.heap.size, 0, none⟩)]) ∧ Below w.heap.size w w' ∧ Bk w' w.heap.size v0 v1 26 ∧ w'.heap.size = w.heap.size + 1
theorem digitsF (w : World) (v0 v1 : Value) : Calls Try.prog 44 #[.agg #[v0, v1]] w (Iter v0 v1 w) := by
  obtain ⟨W, hW, hB, x⟩ := boxK w v0 v1 26
  go_enter Try.func44, Try.ntmps44
  go_wp2
  go_ret
  exact ⟨rfl, hB, x, by rw [← hW]; simp⟩
theorem row_below {w w' : World} {B k n : Nat} {e : TypeId} {v : Value} {xs : List Value} (h : w.ownsRow B e k v n xs) (hb : Below w.heap.size w w') : w'.ownsRow B e k v n xs := by
  obtain ⟨h1, h2 | ⟨g, cap, cur, h2, h3, h4, h5⟩⟩ := h
  · exact ⟨h1, .inl h2⟩
  · exact ⟨h1, .inr ⟨g, cap, cur, h2, h3, (hb.block g (heap_lt h4)).trans h4, h5⟩⟩
theorem madeK (w : World) (cnt : Nat) (hc : cnt ≤ 400) (t : TypeId) : ∃ W V, w.alloc (.cells (madeCells #[.int .i8 0] cnt) 53) = W ∧ W.alloc (.cells #[.slice (some ⟨w.heap.size, 0, none⟩) 0 cnt] t) = V ∧ Below w.heap.size w V ∧ V.heap[w.heap.size + 1]? = some (.cells #[.slice (some ⟨w.heap.size, 0, none⟩) 0 cnt] t (0, 0)) ∧ V.ownsRow w.heap.size 53 1 (.slice (some ⟨w.heap.size, 0, none⟩) 0 cnt) 0 [] ∧ V.heap.size = w.heap.size + 2 ∧ W.heap.size = w.heap.size + 1 := by
  refine ⟨_, _, rfl, rfl, ((Below.refl _ _).alloc (Nat.le_refl _) _).alloc (by simp) _, ?_, (World.ownsRow_made w (madeCells #[.int .i8 0] cnt) cnt (Nat.le_refl _) (by unfold maxLen; omega) (by simp [madeCells])).alloc _, by simp, by simp⟩
  have := World.alloc_heap_new (w.alloc (.cells (madeCells #[.int .i8 0] cnt) 53)) (.cells #[.slice (some ⟨w.heap.size, 0, none⟩) 0 cnt] t)
  rwa [World.size_alloc] at this
theorem oneK (w : World) (v : Value) (t : TypeId) : ∃ W, w.alloc (.cells #[v] t) = W ∧ Below w.heap.size w W ∧ W.heap[w.heap.size]? = some (.cells #[v] t (0, 0)) :=
  ⟨_, rfl, (Below.refl _ _).alloc (Nat.le_refl _) _, by show (w.heap.push _)[w.heap.size]? = _; simp⟩
/-- What a round of the loop finds: the list of the digits so far in its box, behind the world w0. -/
structure Dk (w0 : World) (a b : List Int) (v0 v1 : Value) (cnt k : Nat) (W : World) : Prop where
  mk ::
  df : W.heap[w0.heap.size + 3]? = some (.deferred (some []))
  bk : Bk W (w0.heap.size + 2) v0 v1 26
  ls : ∃ v, W.heap[w0.heap.size + 1]? = some (.cells #[v] 22 (0, 0)) ∧ W.ownsRow w0.heap.size 53 1 v k ((dgL a b k).map (Value.int .i8))
  le : k ≤ cnt
  bl : Below w0.heap.size w0 W
theorem own_ne {W : World} {base size k j : Nat} {e : TypeId} {v : Value} {xs : List Value} {o : Obj} (h : W.ownsRow base e size v k xs) (hj : W.heap[j]? = some o) (ho : ∀ cur, o ≠ .cells cur e (0, 0)) : some j ≠ v.ownBlock := by
  rcases h with ⟨_, ⟨rfl, _⟩ | ⟨g, cap, cur, rfl, _, h4, _⟩⟩
  · intro e; cases e
  · intro e
    cases e
    rw [hj] at h4
    cases h4
    exact ho _ rfl
theorem Dk.grow {w0 W W' : World} {a b : List Int} {v0 v1 : Value} {cnt k : Nat} {row : Nat} (h : Dk w0 a b v0 v1 cnt k W) (hg : W.grownBy W' (some row)) (hr : w0.heap.size + 4 ≤ row) {r : Loop} (hl : W.heap[row]? = some (.loop r)) : Dk w0 a b v0 v1 cnt k W' := by
  obtain ⟨h1, h2, ⟨v, h3, h4⟩, h5, h6⟩ := h
  have ne : ∀ j, j < w0.heap.size + 4 → some j ≠ some row := fun j hj e => by cases e; omega
  refine ⟨(hg.block _ (heap_lt h1) (ne _ (by omega))).trans h1, (hg.block _ h2.lt (ne _ (by omega))).trans h2, ⟨v, (hg.block _ (heap_lt h3) (ne _ (by omega))).trans h3, h4.kept hg ?_⟩, h5, h6.grown hg h6.size fun j e => by cases e; omega⟩
  exact .inr fun e => own_ne h4 hl (fun cur e => by cases e) e.symm
theorem Dk.keep {w0 W W' : World} {a b : List Int} {v0 v1 : Value} {cnt k : Nat} (h : Dk w0 a b v0 v1 cnt k W) (hB : Below W.heap.size W W') : Dk w0 a b v0 v1 cnt k W' := by
  obtain ⟨h1, h2, ⟨v, h3, h4⟩, h5, h6⟩ := h
  exact ⟨(hB.block _ (heap_lt h1)).trans h1, h2.keep hB, ⟨v, (hB.block _ (heap_lt h3)).trans h3, row_below h4 hB⟩, h5, h6.trans (hB.mono h6.size)⟩
/-- How many digits there are already. -/
def lenAt (W : World) (B : Nat) : Nat := match W.cell? ⟨B, 0, none⟩ with | some (.slice _ n _) => n | _ => 0
theorem Dk.lenAt {w0 W : World} {a b : List Int} {v0 v1 : Value} {cnt k : Nat} (h : Dk w0 a b v0 v1 cnt k W) : lenAt W (w0.heap.size + 1) = k := by
  obtain ⟨v, h3, h4⟩ := h.ls
  unfold Sx.lenAt
  rw [Lib.cell_of_heap h3]
  rcases h4 with ⟨_, ⟨rfl, h⟩ | ⟨g, cap, cur, rfl, _⟩⟩
  · exact h.symm
  · rfl
theorem nameRec {W : World} {j d : Nat} {fn : FuncId} {tmps : Array Value} {ps : Array Tmp} {assign body : Code} (h : W.heap[j]? = some (.loop (recL fn tmps ps assign body d .ready none))) : ∃ rr : LoopState → Option Code → Loop, rr = recL fn tmps ps assign body d ∧ W.heap[j]? = some (.loop (rr .ready none)) := ⟨_, rfl, h⟩
theorem zip1 (p : Tmp) (x : Value) (t : Array Value) : ((#[p] : Array Tmp).zip #[x]).foldl (fun tmps (y : Tmp × Value) => tmps.setIfInBounds y.1 y.2) t = t.setIfInBounds p x := by simp
/-- The loop is ready for a round. -/
def Jr (w0 : World) (a b : List Int) (v0 v1 : Value) (cnt : Nat) (r : LoopState → Option Code → Loop) (k : Nat) (W : World) : Prop := W.heap[w0.heap.size + 4]? = some (.loop (r .ready none)) ∧ Dk w0 a b v0 v1 cnt k W
/-- The loop has been left. -/
def Jd (w0 : World) (a b : List Int) (v0 v1 : Value) (cnt : Nat) (r : LoopState → Option Code → Loop) (W : World) : Prop := W.heap[w0.heap.size + 4]? = some (.loop (r .done (some (.exit 0)))) ∧ Dk w0 a b v0 v1 cnt cnt W
set_option maxRecDepth 1000000 in
set_option maxHeartbeats 8000000 in
theorem digitsI_yes (a b : List Int) (hv : vsB a b = true) (cnt : Nat) (hc : cnt ≤ 400) : DoesL 22 a b cnt (dgL a b cnt) 0 := by
  intro w v0 v1 h0 h1
  have hvv := (vsB_iff a b).1 hv
  obtain ⟨s0, k0, rfl⟩ := h0.form
  obtain ⟨s1, k1, rfl⟩ := h1.form
  obtain ⟨W, hW, hB, x⟩ := boxK w (.slice s0 a.length k0) (.slice s1 b.length k1) 26
  obtain ⟨V, hV, hB2, xn⟩ := oneK W (.int .i64 cnt) 2
  have ok := vsI ((h0.keep hB).keep hB2) ((h1.keep hB).keep hB2) (by omega) (by omega)
  rw [hv] at ok
  have y := x.keep hB2
  have c0 := y.c0
  have c1 := y.c1
  have zx := x.lt
  have g0 : ((cnt : Int) < 0) = False := by simp
  obtain ⟨i0, hi, hz0, hz1, hz2⟩ := info_parts info8
  have hmk : ∀ W : World, (Instr.makeSlice 22 (.int .i64 0) (.int .i64 cnt)).run Try.prog W = .ok (.slice (some ⟨W.heap.size, 0, none⟩) 0 cnt) (W.alloc (.cells (madeCells #[.int .i8 0] cnt) 53)) := fun W => by
    have := run_make W 22 53 i0 (.int .i8 0) Try.underlying22 hi hz0 .i64 .i64 0 cnt (by omega) (by omega) (by rw [hz2]; omega) (by omega)
    rw [this, hz1]
    simp [Value.cells]
  have hB3 := hB.trans (hB2.mono hB.size)
  have cn : V.cell? ⟨W.heap.size, 0, none⟩ = some (.int .i64 cnt) := by rw [Lib.cell_of_heap xn]; rfl
  have HH := Lib.hid h0
  have HH1 := Lib.hid h1
  clear hv h0 h1
  refine (callsIn_wide (n := 5)).1 ?_
  refine callsIn_of_wp_marks Try.func22 rfl trivial ?_ rfl
  simp only [Try.ntmps22, List.size_toArray, List.length_cons, List.length_nil, Nat.reduceAdd, Nat.reduceSub, Array.replicate_succ, Array.replicate_zero, List.push_toArray, List.append_toArray, List.nil_append, List.cons_append]
  gi_wp2_with (refine ⟨trivial, ?_⟩; gi_at_call 37; refine (callsIn_wide.2 ok).mono ?_; rintro e W3 ⟨rfl, b3⟩; have y3 := y.keep b3; have cn3 := (b3.cell (p := ⟨W.heap.size, 0, none⟩) (cell_lt cn)).trans cn; obtain ⟨W4, V4, hW4, hV4, b4, l4, o4, z4, z4'⟩ := madeK W3 cnt hc 22; have y4 := y3.keep b4; have cn4 := (b4.cell (p := ⟨W.heap.size, 0, none⟩) (cell_lt cn3)).trans cn3; have d0 := y4.c0; have d1 := y4.c1; have hB4 := hB3.trans ((b3.trans (b4.mono b3.size)).mono hB3.size); have df := digitsF V4 (.slice s0 a.length k0) (.slice s1 b.length k1); clear y3 ok)
  refine ⟨trivial, ?_⟩
  gi_at_call 44
  refine (callsIn_wide.2 df).mono ?_
  rintro e W5 ⟨rfl, b5, y5, z5⟩
  gi_wp2
  refine rangeTo (n := 5) (by omega) (gf := 69) (lb := #[.pointer (some ⟨V4.heap.size, 0, none⟩)]) ?eval (enters_of Try.func69 (by kernel_rfl) rfl) fun fn W6 b6 z6 l6 l7 => ?call
  case eval => rw [z4]; rfl
  case call =>
    obtain ⟨rr, hrr, l7⟩ := nameRec l7
    have zl : W5.heap.size + 1 = W3.heap.size + 4 := by omega
    have e0 := (HH.out.keep hB3).keep b3
    have e1 := (HH1.out.keep hB3).keep b3
    have zW : W.heap.size < V.heap.size := heap_lt xn
    have zV := b3.size
    have i5 : Dk W3 a b (.slice s0 a.length k0) (.slice s1 b.length k1) cnt 0 W6 := by
      have bb := b5.trans (b6.mono b5.size)
      have e3 : W3.heap.size + 3 = W5.heap.size := by omega
      refine ⟨by rw [e3]; exact l6, by have := y5.keep b6; rwa [z4] at this, ⟨_, (bb.block _ (heap_lt l4)).trans l4, ?_⟩, Nat.zero_le _, b4.trans (bb.mono b4.size)⟩
      exact row_below o4 bb
    refine (digits1_in (a := a) (b := b) (s0 := s0) (s1 := s1) (k0 := k0) (k1 := k1) (B := V4.heap.size) (N := cnt + 1) (5 - 1) (by omega) (by omega) (by omega) hvv.2.1 (Jr W3 a b (.slice s0 a.length k0) (.slice s1 b.length k1) cnt rr) (Jd W3 a b (.slice s0 a.length k0) (.slice s1 b.length k1) cnt rr) (fun W => cnt + 1 - lenAt W (W3.heap.size + 1)) ?G ?m ?J (W5.heap.size + 1) ?N ?Y W6 ?J0).mono ?post
    case G =>
      rintro k X ⟨h1, h2⟩
      exact ⟨by rw [z4]; exact h2.bk, e0.below (Nat.le_refl _) h2.bl, e1.below (Nat.le_refl _) h2.bl⟩
    case m =>
      rintro k X ⟨h1, h2⟩
      have := h2.le
      rw [h2.lenAt]
      omega
    case J =>
      rintro k X X' ⟨h1, h2⟩ hb
      exact ⟨(hb.block _ (heap_lt h1)).trans h1, h2.keep hb⟩
    case N =>
      rintro k X ⟨h1, h2⟩
      have := h2.le
      omega
    case J0 => exact ⟨by rw [← zl]; exact l7, i5⟩
    case Y =>
      rintro k X ⟨hl, hd⟩
      rw [← zl] at hl
      have hy := run_yield (P := Try.prog) (args := #[.int .i8 (dg a b k)]) hl (by rw [hrr]; rfl)
      rw [hrr] at hy
      refine ⟨_, _, _, _, hy, roundIn_of_wpIn trivial ?_⟩
      clear hy
      obtain ⟨W2, hW2⟩ : ∃ W2, X.putObj (W5.heap.size + 1) (.loop { rr .ready none with state := .busy }) = W2 := ⟨_, rfl⟩
      have hbr : (Instr.beginRound (W5.heap.size + 1)).run Try.prog X = .ok () W2 := by rw [← hW2]; exact run_beginRound hl (by rw [hrr]; rfl)
      have hl2 : W2.heap[W5.heap.size + 1]? = some (.loop { rr .ready none with state := .busy }) := by rw [← hW2]; exact World.putObj_heap_same (heap_lt hl)
      have hd2 : Dk W3 a b (.slice s0 a.length k0) (.slice s1 b.length k1) cnt k W2 := hd.grow (row := W5.heap.size + 1) (by rw [← hW2]; exact grownBy_putObj' _ _ _) (by omega) hl
      obtain ⟨v, hv, hown⟩ := hd2.ls
      obtain ⟨sv, cv, rfl⟩ : ∃ sv cv, v = .slice sv k cv := by
        rcases hown with ⟨_, ⟨rfl, rfl⟩ | ⟨g, cap, cur, rfl, _⟩⟩
        · exact ⟨_, _, rfl⟩
        · exact ⟨_, _, rfl⟩
      have cb : W2.cell? ⟨W3.heap.size + 1, 0, none⟩ = some (.slice sv k cv) := by rw [Lib.cell_of_heap hv]; rfl
      have fb : W2.frozen? ⟨W3.heap.size + 1, 0, none⟩ = false := Lib.frozen_of_heap hv _
      have cnn : W2.cell? ⟨W.heap.size, 0, none⟩ = some (.int .i64 cnt) := (hd2.bl.cell (p := ⟨W.heap.size, 0, none⟩) (cell_lt cn3)).trans cn3
      have hlB : ∀ (s : Option Addr) (n k : Nat) (W : World), (Builtin.len_ #[22] 3 #[.slice s n k]).run Try.prog W = .ok (.int .i64 n) W := fun s n k W => rfl
      have hle := hd2.le
      obtain ⟨L, hL⟩ : ∃ L, W5.heap.size + 1 = L := ⟨_, rfl⟩
      rw [hL] at hl2 hbr ⊢
      have Z4 := Lib.hid z4
      have Z4' := Lib.hid z4'
      have Z5 := Lib.hid z5
      have Z6 := Lib.hid z6
      have HQ := Lib.hid (hL.symm.trans zl)
      have HR := Lib.hid (show ∀ s j, ({ rr .ready none with state := s, pending := j } : Loop) = rr s j from fun s j => by rw [hrr]; rfl)
      dsimp only [recL]
      rw [zip1]
      clear z4 z4' z5 z6 hL zl hrr
      by_cases hk : k = cnt
      · have hkb : ((k : Int) == (cnt : Int)) = true := by rw [beq_iff_eq]; omega
        gi_wp2
        refine ⟨_, _, run_endRound (some (.exit 0)) hl2, .inr ⟨rfl, ?_, by subst hk; exact hd2.grow (row := L) (grownBy_putObj' _ _ _) (by have := HQ.out; omega) hl2⟩⟩
        rw [← HQ.out]
        exact (World.putObj_heap_same (heap_lt hl2)).trans (congrArg (fun r => some (Obj.loop r)) (HR.out .done (some (.exit 0))))
      · have hkb : ((k : Int) == (cnt : Int)) = false := by rw [beq_eq_false_iff_ne]; omega
        obtain ⟨yd, hyd⟩ : ∃ yd, dg a b k = yd := ⟨_, rfl⟩
        have HYD := Lib.hid hyd
        rw [hyd]
        clear hyd
        obtain ⟨xs, hxs⟩ : ∃ xs, (dgL a b k).map (Value.int .i8) = xs := ⟨_, rfl⟩
        rw [hxs] at hown
        have HXS := Lib.hid hxs
        clear hxs
        have hsz2 := hd2.bl.size
        have HH2 := Lib.hid hd2
        have HV := Lib.hid hv
        clear hd2 hd hl hv
        gi_wp2_with (gi_at_builtin; refine wpListIn_append_own _ rfl _ _ 22 rfl W3.heap.size 53 i0 (.int .i8 0) 1 1 Try.underlying22 hi hz0 hz1 hz2 rfl (by decide) _ _ _ rfl (hown.alloc _) ⟨W2.heap.size, 0, none⟩ 1 1 [.int .i8 yd] rfl rfl (new1 _ _ _) (by simp [Value.oneCell']) (by unfold maxLen; omega) (by omega) (by simp; omega) ?_)
        intro v' w3 hown' hgrow _
        have hgrow : (W2.alloc (.cells #[.int .i8 yd] 53)).grownBy w3 (Value.slice sv k cv).ownBlock := hgrow
        have old : ∀ (j : Nat) (o : Obj), W2.heap[j]? = some o → (∀ cur, o ≠ .cells cur 53 (0, 0)) → w3.heap[j]? = some o := fun j o h1 h2 =>
          (hgrow.block j (by have := heap_lt h1; simp; omega) (own_ne hown h1 h2)).trans ((Below.heap_alloc _ _ j (heap_lt h1)).trans h1)
        have hv3 := old _ _ HV.out (fun cur e => by cases e)
        have hl3 := old _ _ hl2 (fun cur e => by cases e)
        have df3 := old _ _ HH2.out.df (fun cur e => by cases e)
        have bk3 : Bk w3 (W3.heap.size + 2) _ _ _ := old _ _ HH2.out.bk (fun cur e => by cases e)
        have hB3' := own_grow hown HH2.out.bl hsz2 hgrow
        obtain ⟨sv', cv', rfl⟩ : ∃ sv cv, v' = .slice sv (k + 1) cv := by
          rcases hown' with ⟨_, ⟨rfl, h⟩ | ⟨g, cap, cur, rfl, _⟩⟩
          · omega
          · exact ⟨_, _, rfl⟩
        have cb3 : w3.cell? ⟨W3.heap.size + 1, 0, none⟩ = some (.slice sv k cv) := by rw [Lib.cell_of_heap hv3]; rfl
        have fb3 : w3.frozen? ⟨W3.heap.size + 1, 0, none⟩ = false := Lib.frozen_of_heap hv3 _
        obtain ⟨w4, hw4⟩ : ∃ w4, w3.setCell ⟨W3.heap.size + 1, 0, none⟩ (.slice sv' (k + 1) cv') = w4 := ⟨_, rfl⟩
        have hg4 : w3.grownBy w4 (some (W3.heap.size + 1)) := by rw [← hw4]; exact grownBy_setCell' _ _ _
        have hv4 : w4.heap[W3.heap.size + 1]? = some (.cells #[.slice sv' (k + 1) cv'] 22 (0, 0)) := by rw [← hw4]; exact heap_setCell_same _ _ _ _ _ _ hv3
        have hl4 : w4.heap[L]? = _ := (hg4.block L (heap_lt hl3) (fun e => by cases e; have := HQ.out; omega)).trans hl3
        have df4 : w4.heap[W3.heap.size + 3]? = _ := (hg4.block _ (heap_lt df3) (fun e => by have := Option.some.inj e; omega)).trans df3
        have bk4 : Bk w4 (W3.heap.size + 2) _ _ _ := (hg4.block _ bk3.lt (fun e => by have := Option.some.inj e; omega)).trans bk3
        have ow4 := hown'.kept hg4 (.inr fun e => own_ne hown' hv3 (fun cur e => by cases e) e.symm)
        have bl4 : Below W3.heap.size W3 w4 := by rw [← hw4]; exact hB3'.setCell (p := ⟨W3.heap.size + 1, 0, none⟩) (by show _ ≤ W3.heap.size + 1; omega) _
        have D4 := Lib.hid (show Dk W3 a b (.slice s0 a.length k0) (.slice s1 b.length k1) cnt (k + 1) w4 from ⟨df4, bk4, ⟨_, hv4, by rw [dgL_succ, List.map_append, HXS.out, HYD.out]; exact ow4⟩, by omega, bl4⟩)
        clear hown hown' hgrow old hv3 hl3 df3 bk3 hB3' hg4 hv4 df4 bk4 ow4 bl4 cb fb hbr
        gi_wp2
        refine ⟨_, _, run_endRound none hl4, .inl ⟨rfl, ?_, D4.out.grow (row := L) (grownBy_putObj' _ _ _) (by have := HQ.out; omega) hl4⟩⟩
        rw [← HQ.out]
        exact (World.putObj_heap_same (heap_lt hl4)).trans (congrArg (fun r => some (Obj.loop r)) (HR.out .ready none))
    case post =>
      rintro e X ⟨⟨vv, rfl⟩, hl, hd⟩
      rw [← zl] at hl
      obtain ⟨Y, hY⟩ : ∃ Y, X.putObj (W5.heap.size + 1) (.loop { rr .done (some (.exit 0)) with state := .exhausted }) = Y := ⟨_, rfl⟩
      have hel : (Instr.endLoop (W5.heap.size + 1)).run Try.prog X = .ok (some (.exit 0)) Y := by
        have := run_endLoop (P := Try.prog) hl (by rw [hrr]; intro h; cases h)
        rw [hY] at this
        rw [this, hrr]; rfl
      have dY : Dk W3 a b (.slice s0 a.length k0) (.slice s1 b.length k1) cnt cnt Y := hd.grow (row := W5.heap.size + 1) (by rw [← hY]; exact grownBy_putObj' _ _ _) (by omega) hl
      obtain ⟨v, hv, hown⟩ := dY.ls
      obtain ⟨sv, cv, rfl⟩ : ∃ sv cv, v = .slice sv cnt cv := by
        rcases hown with ⟨_, ⟨rfl, rfl⟩ | ⟨g, cap, cur, rfl, _⟩⟩
        · exact ⟨_, _, rfl⟩
        · exact ⟨_, _, rfl⟩
      have cb : Y.cell? ⟨W3.heap.size + 1, 0, none⟩ = some (.slice sv cnt cv) := by rw [Lib.cell_of_heap hv]; rfl
      have dfY := dY.df
      rw [show W3.heap.size + 3 = W5.heap.size by omega] at dfY
      refine ⟨some (.exit 0), Y, hel, ?_⟩
      have Z4 := Lib.hid z4
      have Z4' := Lib.hid z4'
      have Z5 := Lib.hid z5
      have Z6 := Lib.hid z6
      have ZL := Lib.hid zl
      clear hel hY hl hd hrr z4 z4' z5 z6 zl
      dsimp only
      gi_wp2
      refine ⟨by simp, .inl ⟨_, _, rfl, run_takeDeferred dfY, ?_⟩⟩
      refine ⟨.tuple #[.slice sv cnt cv, .int .i64 0], by simp [results, Try.results22, go_sem], ?_⟩
      have z1 := hB3.size
      have z2 := Z4.out
      have z3 := Z5.out
      have rw5 := hown.kept (grownBy_putObj' Y W5.heap.size (.deferred none)) (.inr fun e => own_ne hown dfY (fun cur e => by cases e) e.symm)
      have own5 : OwnL .i8 W3.heap.size _ (dgL a b cnt) _ := OwnL.of_row rw5 (dgL_len a b cnt).symm rfl
      have below5 : Below w.heap.size w Y := (hB3.trans (b3.mono hB3.size)).trans (dY.bl.mono (by omega))
      refine ⟨⟨sv, cv, by rw [dgL_len], ?_⟩, below5.grown (grownBy_putObj' Y W5.heap.size (.deferred none)) below5.size fun k e => by have := Option.some.inj e; omega⟩
      rw [dgL_len]
      exact own5.mono (by omega)
end Go.Proofs.Ytlkbnpgembgdfaa.Sx
