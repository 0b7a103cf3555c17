/-
  A stream out of a row of digits.
-/
import Derived.Test.YtlkbnpgembgdfaaG1
import Derived.Test.YtlkbnpgembgdfaaN2
import Derived.WalkSpells
namespace Go.Proofs.Ytlkbnpgembgdfaa.Sx
open Go Go.RowKit Go.Lib
set_option linter.unusedVariables false
set_option linter.unusedSimpArgs false

set_option maxRecDepth 1000000 in
set_option maxHeartbeats 4000000 in
theorem cutS (b n cp f e : Nat) (w : World) (hf : f < e) (he : e ≤ cp) (hen : n ≤ cp) (hcp : cp ≤ 9223372036854775807) :
    Calls Try.prog 39 #[.slice (some ⟨b, 0, none⟩) n cp, .int .i64 f, .int .i64 e] w fun r w' => r = .returned (.agg #[.slice (some ⟨b, 0, none⟩) f f, .slice (some ⟨b, f, none⟩) (e - f) (e - f)]) ∧ Below w.heap.size w w' := by
  obtain ⟨W, hW, hB, x⟩ := boxK w (.slice none 0 0) (.slice none 0 0) 26
  have c0 := x.c0
  have c1 := x.c1
  have f0 := x.f 0
  have f1 := x.f 1
  have h1 : (f : Int) ≤ e := by omega
  have h2 : (e : Int) ≤ cp := by omega
  have h3 : (f : Int) ≤ cp := by omega
  have h4 : (0 : Int) ≤ f := by omega
  have X := Lib.hid x
  clear x
  go_enter Try.func39, Try.ntmps39
  go_wp2
  go_region
  go_wp2
  obtain ⟨W9, hW9, e0, e1, r9, B9⟩ := stored X.out (.slice (some ⟨b, 0, none⟩) f f) (.slice (some ⟨b, f, none⟩) (e - f) (e - f))
  rw [hW9]
  refine bodyPost_ret (v := .agg #[.slice (some ⟨b, 0, none⟩) f f, .slice (some ⟨b, f, none⟩) (e - f) (e - f)]) (by simp [results, Try.results39, go_sem, e0, e1]) rfl ?_
  exact ⟨rfl, (hB.trans (B9 _ (Nat.le_refl _))).drew⟩
theorem RowAt.left {K : IntKind} {cs : Array Value} {o : Nat} {a b : List Int} (h : RowAt K cs o (a ++ b)) : RowAt K cs o a := fun i x hx => h i x (by
  have hi : i < a.length := (List.getElem?_eq_some_iff.1 hx).1
  rw [List.getElem?_append_left hi]; exact hx)
theorem RowAt.right {K : IntKind} {cs : Array Value} {o : Nat} {a b : List Int} (h : RowAt K cs o (a ++ b)) : RowAt K cs (o + a.length) b := fun i x hx => by
  have := h (a.length + i) x (by rw [List.getElem?_append_right (by omega)]; rw [show a.length + i - a.length = i by omega]; exact hx)
  rwa [Nat.add_assoc]
/-- Two neighbouring parts of one row. -/
theorem own2_row {n b : Nat} {w : World} {cs : Array Value} {ty : TypeId} {x y : List Int} (hn : n ≤ b) (hb : w.heap[b]? = some (.cells cs ty (0, 0))) (hz : x.length + y.length ≤ cs.size) (hr : RowAt .i8 cs 0 (x ++ y)) :
    Own2 .i8 n w x y (.slice (some ⟨b, 0, none⟩) x.length x.length) (.slice (some ⟨b, x.length, none⟩) y.length y.length) :=
  ⟨.inr ⟨b, 0, _, cs, ty, rfl, hn, hb, Nat.le_refl _, by omega, hr.left⟩, .inr ⟨b, x.length, _, cs, ty, rfl, hn, hb, Nat.le_refl _, hz, by have := hr.right; rwa [Nat.zero_add] at this⟩, by
    intro b1 o1 l1 c1 b2 o2 l2 c2 e1 e2 _
    cases e1
    cases e2
    exact .inl (by omega)⟩
/-- The two slices that are put together. -/
theorem parts2 {w : World} {g : Nat} {a b : List Int} {p q : Addr} {m n : Nat} (h0 : IsL .i8 w a (.slice (some p) a.length m)) (h1 : IsL .i8 w b (.slice (some q) b.length n)) (hg : w.heap[g]? = some (.cells #[.slice (some p) a.length m, .slice (some q) b.length n] 22 (0, 0))) : Parts w g [a, b] := ⟨fun j hj => by
  match j, hj with
  | 0, _ =>
    rcases h0 with ⟨h, _⟩ | ⟨b', o, c, h, _, h3⟩
    · cases h
    · cases h
      exact ⟨b', o, _, by rw [Lib.cell_of_heap hg]; rfl, h3⟩
  | 1, _ =>
    rcases h1 with ⟨h, _⟩ | ⟨b', o, c, h, _, h3⟩
    · cases h
    · cases h
      exact ⟨b', o, _, by rw [Lib.cell_of_heap hg]; rfl, h3⟩
  | n + 2, h => simp at h; omega⟩
end Go.Proofs.Ytlkbnpgembgdfaa.Sx
