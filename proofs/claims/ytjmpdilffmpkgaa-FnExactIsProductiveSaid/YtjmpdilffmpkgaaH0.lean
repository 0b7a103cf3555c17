/-
  Rows of numbers in memory, of any integer kind: slices that hold a list, slices of the call's own, what is written into a row. No program is spoken of.
-/
import Derived.WalkKit
import Derived.BigCall
import Derived.Laws.Rows
import Derived.Laws.MakeOwn
import Derived.Lib.Builder
import Derived.Lib.Hide
import Derived.Deep.QuietTactic
import Derived.BigQuiet
namespace Go.Proofs.Ytjmpdilffmpkgaa.Sx
open Go Go.RowKit
set_option linter.unusedVariables false
set_option linter.unusedSimpArgs false

/-- Cells from o on hold numbers. -/
def RowAt (K : IntKind) (cs : Array Value) (o : Nat) (l : List Int) : Prop := ∀ i x, l[i]? = some x → cs[o + i]? = some (.int K x)
/-- A slice that holds a list. -/
def IsL (K : IntKind) (w : World) (l : List Int) (v : Value) : Prop :=
  (v = .slice none 0 0 ∧ l = []) ∨ ∃ b o c, v = .slice (some ⟨b, o, none⟩) l.length c ∧ l.length ≤ c ∧ ∀ i x, l[i]? = some x → w.cell? ⟨b, o + i, none⟩ = some (.int K x)
/-- A slice that holds a list, in blocks from n on, which may be written. -/
def OwnL (K : IntKind) (n : Nat) (w : World) (l : List Int) (v : Value) : Prop :=
  (v = .slice none 0 0 ∧ l = []) ∨ ∃ b o c cs ty, v = .slice (some ⟨b, o, none⟩) l.length c ∧ n ≤ b ∧ w.heap[b]? = some (.cells cs ty (0, 0)) ∧ l.length ≤ c ∧ o + l.length ≤ cs.size ∧ RowAt K cs o l
/-- No cell is of both. -/
def Apart (v u : Value) : Prop := ∀ b o len c b' o' len' c', v = .slice (some ⟨b, o, none⟩) len c → u = .slice (some ⟨b', o', none⟩) len' c' → b = b' → o + len ≤ o' ∨ o' + len' ≤ o
theorem Apart.symm {v u : Value} (h : Apart v u) : Apart u v := fun b o len c b' o' len' c' h1 h2 h3 => (h _ _ _ _ _ _ _ _ h2 h1 h3.symm).symm
theorem heap_lt {w : World} {b : Nat} {o : Obj} (h : w.heap[b]? = some o) : b < w.heap.size := by
  rcases Nat.lt_or_ge b w.heap.size with h' | h'
  · exact h'
  · simp [Array.getElem?_eq_none h'] at h
theorem cell_lt {w : World} {a : Addr} {v : Value} (h : w.cell? a = some v) : a.block < w.heap.size := by
  rcases Nat.lt_or_ge a.block w.heap.size with h' | h'
  · exact h'
  · simp [World.cell?, Array.getElem?_eq_none h'] at h
/-- The same world. -/
def Same (w w' : World) : Prop := w' = w
theorem Same.out {w w' : World} (h : Same w w') : w' = w := h

section
variable {K : IntKind} {n m : Nat} {w w' : World} {l l' : List Int} {v u : Value}
theorem IsL.nil : IsL K w [] (.slice none 0 0) := .inl ⟨rfl, rfl⟩
theorem IsL.below (h : IsL K w l v) (hn : w.heap.size ≤ n) (hB : Below n w w') : IsL K w' l v := by
  rcases h with h | ⟨b, o, c, h1, h2, h3⟩
  · exact .inl h
  · refine .inr ⟨b, o, c, h1, h2, fun i x hx => ?_⟩
    have := h3 i x hx
    rw [← this]
    exact hB.cell (p := ⟨b, o + i, none⟩) (Nat.lt_of_lt_of_le (cell_lt this) hn)
theorem IsL.keep (h : IsL K w l v) (hB : Below w.heap.size w w') : IsL K w' l v := h.below (Nat.le_refl _) hB
theorem IsL.same (h : IsL K w l v) (hh : w'.heap = w.heap) : IsL K w' l v := by
  rcases h with h | ⟨b, o, c, h1, h2, h3⟩
  · exact .inl h
  · exact .inr ⟨b, o, c, h1, h2, fun i x hx => by rw [← h3 i x hx]; unfold World.cell?; rw [hh]⟩
theorem OwnL.nil : OwnL K n w [] (.slice none 0 0) := .inl ⟨rfl, rfl⟩
theorem OwnL.is (h : OwnL K n w l v) : IsL K w l v := by
  rcases h with h | ⟨b, o, c, cs, ty, h1, h2, h3, h4, h5, h6⟩
  · exact .inl h
  · exact .inr ⟨b, o, c, h1, h4, fun i x hx => by rw [Lib.cell_of_heap h3]; exact h6 i x hx⟩
theorem OwnL.mono (h : OwnL K n w l v) (hm : m ≤ n) : OwnL K m w l v := by
  rcases h with h | ⟨b, o, c, cs, ty, h1, h2, h3⟩
  · exact .inl h
  · exact .inr ⟨b, o, c, cs, ty, h1, by omega, h3⟩
theorem OwnL.below (h : OwnL K n w l v) (hB : Below m w w') (hm : w.heap.size ≤ m) : OwnL K n w' l v := by
  rcases h with h | ⟨b, o, c, cs, ty, h1, h2, h3, h4⟩
  · exact .inl h
  · exact .inr ⟨b, o, c, cs, ty, h1, h2, by rw [hB.block b (Nat.lt_of_lt_of_le (heap_lt h3) hm)]; exact h3, h4⟩
theorem OwnL.keep (h : OwnL K n w l v) (hB : Below w.heap.size w w') : OwnL K n w' l v := h.below hB (Nat.le_refl _)
theorem OwnL.apart {J : IntKind} (h : OwnL K n w l v) (h' : OwnL J m w' l' u) (hm : w.heap.size ≤ m) : Apart v u := by
  intro b o len c b' o' len' c' e1 e2 e3
  rcases h with ⟨h, _⟩ | ⟨b1, o1, c1, cs, ty, h1, h2, h3, h4⟩
  · rw [h] at e1; cases e1
  · rcases h' with ⟨h', _⟩ | ⟨b2, o2, c2, cs2, ty2, k1, k2, k3, k4⟩
    · rw [h'] at e2; cases e2
    · rw [h1] at e1
      rw [k1] at e2
      cases e1
      cases e2
      have := heap_lt h3
      omega
theorem OwnL.form (h : OwnL K n w l v) : ∃ s c, v = .slice s l.length c := by
  rcases h with ⟨rfl, rfl⟩ | ⟨b, o, c, cs, ty, rfl, _⟩
  · exact ⟨_, _, rfl⟩
  · exact ⟨_, _, rfl⟩
theorem IsL.form (h : IsL K w l v) : ∃ s c, v = .slice s l.length c := by
  rcases h with ⟨rfl, rfl⟩ | ⟨b, o, c, rfl, _⟩
  · exact ⟨_, _, rfl⟩
  · exact ⟨_, _, rfl⟩
theorem OwnL.lt (h : OwnL K n w l v) : ∀ q, v.ownBlock = some q → n ≤ q ∧ q < w.heap.size := by
  rcases h with ⟨rfl, _⟩ | ⟨b, o, c, cs, ty, rfl, h2, h3, _⟩
  · intro q h; cases h
  · intro q h
    cases h
    exact ⟨h2, heap_lt h3⟩
theorem OwnL.not_new (h : OwnL K n w l v) : v.ownBlock ≠ some w.heap.size := by
  rcases h with ⟨rfl, _⟩ | ⟨b, o, c, cs, ty, rfl, _, h3, _⟩
  · intro h; cases h
  · intro h
    have := heap_lt h3
    simp [Value.ownBlock] at h
    omega
end

/-! ### What is written into a row -/
/-- All is as it was but block b, which holds cs. -/
structure Wr (w w' : World) (b : Nat) (cs : Array Value) (ty : TypeId) : Prop where
  os : w'.os = w.os
  tape : w'.tape = w.tape
  output : w'.output = w.output
  size : w'.heap.size = w.heap.size
  other : ∀ k, k ≠ b → w'.heap[k]? = w.heap[k]?
  here : w'.heap[b]? = some (.cells cs ty (0, 0))
theorem Wr.refl {w : World} {b : Nat} {cs : Array Value} {ty : TypeId} (h : w.heap[b]? = some (.cells cs ty (0, 0))) : Wr w w b cs ty := ⟨rfl, rfl, rfl, rfl, fun _ _ => rfl, h⟩
theorem Wr.step {w w' : World} {b : Nat} {cs : Array Value} {ty : TypeId} (h : Wr w w' b cs ty) (i : Nat) (v : Value) : Wr w (w'.setCell ⟨b, i, none⟩ v) b (cs.setIfInBounds i v) ty :=
  ⟨h.os, h.tape, h.output, by rw [← h.size]; simp [World.setCell], fun k hk => by rw [heap_setCell_other _ _ _ _ hk]; exact h.other k hk, heap_setCell_same _ _ _ _ _ _ h.here⟩
theorem Wr.drew {w w' : World} {b : Nat} {cs : Array Value} {ty : TypeId} (h : Wr w w' b cs ty) : Wr w w'.drew b cs ty := ⟨h.os, h.tape, h.output, h.size, h.other, h.here⟩
theorem Wr.below {w w' : World} {b n : Nat} {cs : Array Value} {ty : TypeId} (h : Wr w w' b cs ty) (hn : n ≤ b) : Below n w w' :=
  ⟨h.os, h.tape, h.output, Nat.le_of_eq h.size.symm, fun k hk => h.other k (by omega)⟩
def putF (f : Nat → Value) (cs : Array Value) (o : Nat) : Nat → Array Value
  | 0 => cs
  | j + 1 => (putF f cs o j).setIfInBounds (o + j) (f j)
theorem putF_size (f : Nat → Value) (cs : Array Value) (o : Nat) (j : Nat) : (putF f cs o j).size = cs.size := by
  induction j with
  | zero => rfl
  | succ j ih => unfold putF; simp [ih]
theorem putF_get (f : Nat → Value) (cs : Array Value) (o : Nat) (j i : Nat) : (putF f cs o j)[i]? = if o ≤ i ∧ i < o + j ∧ i < cs.size then some (f (i - o)) else cs[i]? := by
  induction j with
  | zero => unfold putF; rw [if_neg (by omega)]
  | succ j ih =>
    unfold putF
    rw [Array.getElem?_setIfInBounds, ih, putF_size]
    by_cases e : o + j = i
    · subst e
      rw [if_pos rfl]
      by_cases h : o + j < cs.size
      · rw [if_pos h, if_pos (by omega), show o + j - o = j by omega]
      · rw [if_neg h, if_neg (by omega), Array.getElem?_eq_none (by omega)]
    · rw [if_neg e]
      by_cases h : o ≤ i ∧ i < o + j ∧ i < cs.size
      · rw [if_pos h, if_pos (by omega)]
      · rw [if_neg h, if_neg (by omega)]
theorem putF_row {K : IntKind} {f : Nat → Value} {cs : Array Value} {o : Nat} {l : List Int} (h : o + l.length ≤ cs.size) (hf : ∀ i x, l[i]? = some x → f i = .int K x) : RowAt K (putF f cs o l.length) o l := fun i x hx => by
  have hi : i < l.length := (List.getElem?_eq_some_iff.1 hx).1
  rw [putF_get, if_pos ⟨by omega, by omega, by omega⟩, show o + i - o = i by omega, hf i x hx]
theorem OwnL.put {K : IntKind} {n : Nat} {w w' : World} {l : List Int} {v : Value} {b : Nat} {cs : Array Value} {ty : TypeId} {o : Nat} {f : Nat → Value} {len c : Nat} (hb : w.heap[b]? = some (.cells cs ty (0, 0))) (hW : Wr w w' b (putF f cs o len) ty)
    (h : OwnL K n w l v) (ha : Apart (.slice (some ⟨b, o, none⟩) len c) v) : OwnL K n w' l v := by
  rcases h with h | ⟨b1, o1, c1, cs1, ty1, h1, h2, h3, h4, h5, h6⟩
  · exact .inl h
  · by_cases e : b1 = b
    · subst e
      rw [hb] at h3
      cases h3
      refine .inr ⟨b1, o1, c1, _, _, h1, h2, hW.here, h4, by rw [putF_size]; exact h5, fun i x hx => ?_⟩
      rw [putF_get, if_neg]
      · exact h6 i x hx
      · have := ha _ _ _ _ _ _ _ _ rfl h1 rfl
        have hi : i < l.length := (List.getElem?_eq_some_iff.1 hx).1
        omega
    · exact .inr ⟨b1, o1, c1, cs1, ty1, h1, h2, by rw [hW.other _ e]; exact h3, h4, h5, h6⟩
/-- Marks. -/
def mkB (K : IntKind) (k : Int) : Value := .int K (K.wrap k)
def mks (K : IntKind) (k : Int) (n : Nat) : List Int := (List.range n).map fun i : Nat => K.wrap (k + (i : Int))
theorem mks_length (K : IntKind) (k : Int) (n : Nat) : (mks K k n).length = n := by simp [mks]
theorem mks_get {K : IntKind} {k : Int} {n i : Nat} {x : Int} (h : (mks K k n)[i]? = some x) : i < n ∧ x = K.wrap (k + i) := by
  unfold mks at h
  rw [List.getElem?_map] at h
  rcases Nat.lt_or_ge i n with hi | hi
  · rw [List.getElem?_range hi] at h
    exact ⟨hi, by simpa using h.symm⟩
  · rw [List.getElem?_eq_none (by simpa using hi)] at h; simp at h
theorem mks_at (K : IntKind) (k : Int) {n i : Nat} (h : i < n) : (mks K k n)[i]? = some (K.wrap (k + i)) := by
  unfold mks
  rw [List.getElem?_map, List.getElem?_range h]; rfl
def markF (K : IntKind) (k : Int) (j : Nat) : Value := mkB K (k + j)
def copyF (K : IntKind) (l : List Int) (j : Nat) : Value := .int K (l.getD j 0)
theorem copyF_at {K : IntKind} {l : List Int} {i : Nat} {x : Int} (h : l[i]? = some x) : copyF K l i = .int K x := by unfold copyF; rw [List.getD_eq_getElem?_getD, h]; rfl
/-- What marking a slice does. -/
structure Marked (K : IntKind) (n : Nat) (w w' : World) (v : Value) (k : Int) (len : Nat) : Prop where
  rest : ∀ q, v.ownBlock ≠ some q → w'.heap[q]? = w.heap[q]?
  below : Below n w w'
  own : OwnL K n w' (mks K k len) v
  keep : ∀ (J : IntKind) m l' u, OwnL J m w l' u → Apart v u → OwnL J m w' l' u
theorem Marked.of {K : IntKind} {n : Nat} {w w' : World} {b o c : Nat} {cs : Array Value} {ty : TypeId} {k : Int} {len : Nat} (h2 : n ≤ b) (h3 : w.heap[b]? = some (.cells cs ty (0, 0))) (h4 : len ≤ c) (h5 : o + len ≤ cs.size) (hW : Wr w w' b (putF (markF K k) cs o len) ty) :
    Marked K n w w' (.slice (some ⟨b, o, none⟩) len c) k len where
  rest := fun q hq => hW.other q (fun e => hq (by rw [e]; rfl))
  below := hW.below h2
  own := .inr ⟨b, o, c, _, _, by rw [mks_length], h2, hW.here, by rw [mks_length]; exact h4, by rw [mks_length, putF_size]; exact h5, by
    have := putF_row (K := K) (f := markF K k) (cs := cs) (o := o) (l := mks K k len) (by rw [mks_length]; exact h5) (fun i x hx => by obtain ⟨_, rfl⟩ := mks_get hx; rfl)
    rwa [mks_length] at this⟩
  keep := fun J m l' u hu ha => OwnL.put h3 hW hu ha
theorem Marked.nil (K : IntKind) (n : Nat) (w : World) (k : Int) : Marked K n w w (.slice none 0 0) k 0 :=
  ⟨fun _ _ => rfl, Below.refl _ _, .inl ⟨rfl, rfl⟩, fun _ _ _ _ h _ => h⟩
/-- Two slices of the call's own. -/
structure Own2 (K : IntKind) (n : Nat) (w : World) (a b : List Int) (v0 v1 : Value) : Prop where
  o0 : OwnL K n w a v0
  o1 : OwnL K n w b v1
  apart : Apart v0 v1
theorem Own2.keep {K : IntKind} {n : Nat} {w w' : World} {a b : List Int} {v0 v1 : Value} (h : Own2 K n w a b v0 v1) (hB : Below w.heap.size w w') : Own2 K n w' a b v0 v1 := ⟨h.o0.keep hB, h.o1.keep hB, h.apart⟩
theorem Own2.same {K : IntKind} {n : Nat} {w w' : World} {a b : List Int} {v0 v1 : Value} (h : Own2 K n w a b v0 v1) (hh : w'.heap = w.heap) : Own2 K n w' a b v0 v1 := by
  obtain ⟨h0, h1, h2⟩ := h
  refine ⟨?_, ?_, h2⟩
  · rcases h0 with h | ⟨b, o, c, cs, ty, h1, h2, h3, h4⟩
    · exact .inl h
    · exact .inr ⟨b, o, c, cs, ty, h1, h2, by rw [hh]; exact h3, h4⟩
  · rcases h1 with h | ⟨b, o, c, cs, ty, h1, h2, h3, h4⟩
    · exact .inl h
    · exact .inr ⟨b, o, c, cs, ty, h1, h2, by rw [hh]; exact h3, h4⟩
/-- No cell of the first two is one of the last two. -/
structure Apart2 (v0 v1 u0 u1 : Value) : Prop where
  a00 : Apart v0 u0
  a01 : Apart v0 u1
  a10 : Apart v1 u0
  a11 : Apart v1 u1
theorem Apart2.symm {v0 v1 u0 u1 : Value} (h : Apart2 v0 v1 u0 u1) : Apart2 u0 u1 v0 v1 := ⟨h.a00.symm, h.a10.symm, h.a01.symm, h.a11.symm⟩
theorem Own2.apart2 {K J : IntKind} {n m : Nat} {w w' : World} {a b A B : List Int} {v0 v1 u0 u1 : Value} (h : Own2 K n w a b v0 v1) (h' : Own2 J m w' A B u0 u1) (hm : w.heap.size ≤ m) : Apart2 v0 v1 u0 u1 :=
  ⟨h.o0.apart h'.o0 hm, h.o0.apart h'.o1 hm, h.o1.apart h'.o0 hm, h.o1.apart h'.o1 hm⟩
/-- What a mark of two slices keeps. -/
def Keeps (w w' : World) (v0 v1 : Value) : Prop :=
  (∀ (J : IntKind) m l u, OwnL J m w l u → Apart v0 u → Apart v1 u → OwnL J m w' l u) ∧ ∀ q, q < w.heap.size → v0.ownBlock ≠ some q → v1.ownBlock ≠ some q → w'.heap[q]? = w.heap[q]?
theorem Keeps.own {K : IntKind} {m : Nat} {w w' : World} {v0 v1 u0 u1 : Value} {A B : List Int} (h : Keeps w w' v0 v1) (o : Own2 K m w A B u0 u1) (ha : Apart2 v0 v1 u0 u1) : Own2 K m w' A B u0 u1 :=
  ⟨h.1 _ _ _ _ o.o0 ha.a00 ha.a10, h.1 _ _ _ _ o.o1 ha.a01 ha.a11, o.apart⟩
/-- Both lie below a block. -/
def Lows (q : Nat) (v0 v1 : Value) : Prop := ∀ k, q ≤ k → v0.ownBlock ≠ some k ∧ v1.ownBlock ≠ some k
theorem Own2.lows {K : IntKind} {n : Nat} {w : World} {a b : List Int} {v0 v1 : Value} (h : Own2 K n w a b v0 v1) : Lows w.heap.size v0 v1 := fun k hk =>
  ⟨fun e => by have := (h.o0.lt k e).2; omega, fun e => by have := (h.o1.lt k e).2; omega⟩
end Go.Proofs.Ytjmpdilffmpkgaa.Sx
