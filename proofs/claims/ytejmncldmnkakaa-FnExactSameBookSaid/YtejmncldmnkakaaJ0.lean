/-
  Rows of lines (structs with texts and numbers): how they lie. No program is spoken of.
-/
import Derived.Test.YtejmncldmnkakaaH0
import Derived.Laws.AppendOwn
namespace Go.Proofs.Ytejmncldmnkakaa.Sx
open Go Go.RowKit
set_option linter.unusedVariables false

/-- A line. -/
structure Ln where
  mk ::
  nm : ByteArray
  kd : Int
  a : ByteArray
  b : ByteArray
  p : Int
  q : Int
def lnC (L : Ln) : Array Value := #[.string L.nm, .int .i8 L.kd, .string L.a, .string L.b, .int .i64 L.p, .int .i64 L.q]
/-- A line lies at a place. -/
structure At6 (w : World) (b p : Nat) (L : Ln) : Prop where
  mk ::
  c0 : w.cell? ⟨b, p, none⟩ = some (.string L.nm)
  c1 : w.cell? ⟨b, p + 1, none⟩ = some (.int .i8 L.kd)
  c2 : w.cell? ⟨b, p + 2, none⟩ = some (.string L.a)
  c3 : w.cell? ⟨b, p + 3, none⟩ = some (.string L.b)
  c4 : w.cell? ⟨b, p + 4, none⟩ = some (.int .i64 L.p)
  c5 : w.cell? ⟨b, p + 5, none⟩ = some (.int .i64 L.q)
theorem At6.keep {w w' : World} {b p : Nat} {L : Ln} (h : At6 w b p L) (hB : Below w.heap.size w w') : At6 w' b p L :=
  ⟨(hB.cell (cell_lt h.c0)).trans h.c0, (hB.cell (cell_lt h.c1)).trans h.c1, (hB.cell (cell_lt h.c2)).trans h.c2, (hB.cell (cell_lt h.c3)).trans h.c3, (hB.cell (cell_lt h.c4)).trans h.c4, (hB.cell (cell_lt h.c5)).trans h.c5⟩
/-- A slice that holds lines. -/
def IsLn (w : World) (ls : List Ln) (v : Value) : Prop := (v = .slice none 0 0 ∧ ls = []) ∨ ∃ b o c, v = .slice (some ⟨b, o, none⟩) ls.length c ∧ ∀ i L, ls[i]? = some L → At6 w b (o + i * 6) L
theorem IsLn.keep {w w' : World} {ls : List Ln} {v : Value} (h : IsLn w ls v) (hB : Below w.heap.size w w') : IsLn w' ls v := by
  rcases h with h | ⟨b, o, c, h1, h2⟩
  · exact .inl h
  · exact .inr ⟨b, o, c, h1, fun i L hL => (h2 i L hL).keep hB⟩
theorem IsLn.same {w w' : World} {ls : List Ln} {v : Value} (h : IsLn w ls v) (hh : w'.heap = w.heap) : IsLn w' ls v := by
  rcases h with h | ⟨b, o, c, h1, h2⟩
  · exact .inl h
  · refine .inr ⟨b, o, c, h1, fun i L hL => ?_⟩
    have := h2 i L hL
    have e : ∀ a, w'.cell? a = w.cell? a := fun a => by unfold World.cell?; rw [hh]
    exact ⟨(e _).trans this.c0, (e _).trans this.c1, (e _).trans this.c2, (e _).trans this.c3, (e _).trans this.c4, (e _).trans this.c5⟩
theorem IsLn.form {w : World} {ls : List Ln} {v : Value} (h : IsLn w ls v) : ∃ s c, v = .slice s ls.length c := by
  rcases h with ⟨rfl, rfl⟩ | ⟨b, o, c, rfl, _⟩
  · exact ⟨_, _, rfl⟩
  · exact ⟨_, _, rfl⟩
/-- What stands at a place of a slice that is not empty. -/
theorem IsLn.at6 {w : World} {ls : List Ln} {s : Option Addr} {n c i : Nat} {L : Ln} (h : IsLn w ls (.slice s n c)) (hL : ls[i]? = some L) : ∃ b o, s = some ⟨b, o, none⟩ ∧ At6 w b (o + i * 6) L := by
  rcases h with ⟨_, rfl⟩ | ⟨b, o, c', h1, h2⟩
  · simp at hL
  · simp at h1
    exact ⟨b, o, h1.1, h2 i L hL⟩
/-- All texts are as long as a text may be. -/
def LnOk (L : Ln) : Prop := L.nm.size ≤ 9223372036854775807 ∧ L.a.size ≤ 9223372036854775807 ∧ L.b.size ≤ 9223372036854775807
def lnF (ls : List Ln) (j : Nat) : Value := match ls[j / 6]? with
  | some L => (lnC L).getD (j % 6) undef
  | none => undef
theorem lnF_at {ls : List Ln} {i r : Nat} {L : Ln} (h : ls[i]? = some L) (hr : r < 6) : lnF ls (i * 6 + r) = (lnC L).getD r undef := by
  unfold lnF
  rw [show (i * 6 + r) / 6 = i by omega, h, show (i * 6 + r) % 6 = r by omega]
theorem boxN (w : World) (cs : Array Value) (t : TypeId) : ∃ W, w.alloc (.cells cs t) = W ∧ Below w.heap.size w W ∧ W.heap[w.heap.size]? = some (.cells cs t (0, 0)) := ⟨_, rfl, (Below.refl _ _).alloc (Nat.le_refl _) _, heap_alloc_new w _⟩
theorem at_keep {w w' : World} {b : Nat} {x : Obj} (h : w.heap[b]? = some x) (hB : Below w.heap.size w w') : w'.heap[b]? = some x := (hB.block b (heap_lt h)).trans h
theorem at6_of {w : World} {b : Nat} {L : Ln} {t : TypeId} (h : w.heap[b]? = some (.cells (lnC L) t (0, 0))) : At6 w b 0 L :=
  ⟨by rw [Lib.cell_of_heap h]; rfl, by rw [Lib.cell_of_heap h]; rfl, by rw [Lib.cell_of_heap h]; rfl, by rw [Lib.cell_of_heap h]; rfl, by rw [Lib.cell_of_heap h]; rfl, by rw [Lib.cell_of_heap h]; rfl⟩
/-- A copied row. -/
structure CopyL (w w' : World) (ls : List Ln) (t : TypeId) (e : Ending) : Prop where
  mk ::
  here : ∃ g cs, e = .returned (.slice (some ⟨g, 0, none⟩) ls.length ls.length) ∧ w.heap.size ≤ g ∧ w'.heap[g]? = some (.cells cs t (0, 0)) ∧ cs.size = ls.length * 6 ∧ ∀ i L, ls[i]? = some L → At6 w' g (i * 6) L
  below : Below w.heap.size w w'
theorem CopyL.is {w' : World} {ls : List Ln} {g : Nat} (h : ∀ i L, ls[i]? = some L → At6 w' g (i * 6) L) : IsLn w' ls (.slice (some ⟨g, 0, none⟩) ls.length ls.length) := .inr ⟨g, 0, _, rfl, fun i L hL => by rw [Nat.zero_add]; exact h i L hL⟩
end Go.Proofs.Ytejmncldmnkakaa.Sx
