/-
  Rows of forks: compared.
-/
import Derived.Test.YtjmpdilffmpkgaaU1
import Derived.Deep.AppendLies
namespace Go.Proofs.Ytjmpdilffmpkgaa.Sx
open Go Go.RowKit
set_option linter.unusedVariables false
set_option linter.unusedSimpArgs false

/-- Cells of forks. -/
def Forky (xs : List Value) (n : Nat) : Prop := ∀ i, i < n → ∃ k d a b c : Int, xs[i * 5]? = some (.int .i8 k) ∧ xs[i * 5 + 1]? = some (.int .i8 d) ∧ xs[i * 5 + 2]? = some (.int .i16 a) ∧ xs[i * 5 + 3]? = some (.int .i16 b) ∧ xs[i * 5 + 4]? = some (.int .i16 c)
theorem own_formN {w : World} {B : Nat} {e : TypeId} {s : Nat} {v : Value} {n : Nat} {xs : List Value} (h : w.ownsRow B e s v n xs) : ∃ p c, v = .slice p n c := by
  obtain ⟨_, ⟨rfl, rfl⟩ | ⟨g, cap, cur, rfl, _⟩⟩ := h
  · exact ⟨_, _, rfl⟩
  · exact ⟨_, _, rfl⟩
theorem row_underN {w w' : World} {B k n s : Nat} {e : TypeId} {v : Value} {xs : List Value} (h : w.ownsRow B e s v n xs) (hb : Below w.heap.size w w') : w'.ownsRow B e s v n xs := by
  obtain ⟨h1, h2 | ⟨g, cap, cur, h2, h3, h4, h5⟩⟩ := h
  · exact ⟨h1, .inl h2⟩
  · exact ⟨h1, .inr ⟨g, cap, cur, h2, h3, (hb.block g (heap_lt h4)).trans h4, h5⟩⟩
theorem row_cell {w : World} {B n s g c j : Nat} {e : TypeId} {xs : List Value} {u : Value} (h : w.ownsRow B e s (.slice (some ⟨g, 0, none⟩) n c) n xs) (hu : xs[j]? = some u) : w.cell? ⟨g, j, none⟩ = some u := by
  have := h.cells (g := g) rfl j u hu
  rwa [show ((⟨g, 0, none⟩ : Addr).add j) = ⟨g, j, none⟩ by unfold Addr.add; split <;> simp_all] at this
set_option maxRecDepth 1000000 in
set_option maxHeartbeats 4000000 in
theorem eqFkS {w : World} {B B' n : Nat} {v u : Value} {xs : List Value} (h : w.ownsRow B 62 5 v n xs) (h' : w.ownsRow B' 62 5 u n xs) (F : Forky xs n) (hn : n ≤ 1048576) :
    Calls Try.prog 32 #[v, u] w fun e w' => e = .returned (.bool true) ∧ Below w.heap.size w w' := by
  obtain ⟨s0, k0, rfl⟩ := own_formN h
  obtain ⟨s1, k1, rfl⟩ := own_formN h'
  have hlB : ∀ (s : Option Addr) (n k : Nat) (W : World), (Builtin.len_ #[28] 3 #[.slice s n k]).run Try.prog W = .ok (.int .i64 n) W := fun s n k W => rfl
  have H1 := Lib.hid (fun W hb => row_underN (w' := W) (k := 0) h hb)
  have H2 := Lib.hid (fun W hb => row_underN (w' := W) (k := 0) h' hb)
  clear h h'
  go_enter Try.func32, Try.ntmps32
  go_wp2
  go_loopw [5] (fun i wr => ∃ j : Nat, j ≤ n ∧ i = .int .i64 j ∧ Below w.heap.size w wr) (fun i _ => n - (RowKit.intOf i).toNat)
  case atStart => exact ⟨0, by omega, rfl, Below.refl _ _⟩
  case round =>
    obtain ⟨j, hj, rfl, hb⟩ := hrel
    by_cases hlt : j < n
    · obtain ⟨k, d, a, b, c, e0, e1, e2, e3, e4⟩ := F j hlt
      have r1 := H1.out _ hb
      have r2 := H2.out _ hb
      obtain ⟨g, cp, hf, _, _⟩ := r1.form (by omega)
      obtain ⟨g', cp', hf', _, _⟩ := r2.form (by omega)
      obtain rfl : s0 = some ⟨g, 0, none⟩ := by simp at hf; exact hf.1
      obtain rfl : s1 = some ⟨g', 0, none⟩ := by simp at hf'; exact hf'.1
      have a0 := row_cell r1 e0
      have a1 := row_cell r1 e1
      have a2 := row_cell r1 e2
      have a3 := row_cell r1 e3
      have a4 := row_cell r1 e4
      have b0 := row_cell r2 e0
      have b1 := row_cell r2 e1
      have b2 := row_cell r2 e2
      have b3 := row_cell r2 e3
      have b4 := row_cell r2 e4
      have q := eqFk k d a b c wr.drew
      clear r1 r2 hf hf' e0 e1 e2 e3 e4
      go_wp2
      go_region_held3 (fun w' => w'.cell? ⟨g, j * 5, none⟩ = some (.int .i8 k) ∧ w'.cell? ⟨g, j * 5 + 1, none⟩ = some (.int .i8 d) ∧ w'.cell? ⟨g, j * 5 + 2, none⟩ = some (.int .i16 a) ∧ w'.cell? ⟨g, j * 5 + 3, none⟩ = some (.int .i16 b) ∧ w'.cell? ⟨g, j * 5 + 4, none⟩ = some (.int .i16 c) ∧ w'.cell? ⟨g', j * 5, none⟩ = some (.int .i8 k) ∧ w'.cell? ⟨g', j * 5 + 1, none⟩ = some (.int .i8 d) ∧ w'.cell? ⟨g', j * 5 + 2, none⟩ = some (.int .i16 a) ∧ w'.cell? ⟨g', j * 5 + 3, none⟩ = some (.int .i16 b) ∧ w'.cell? ⟨g', j * 5 + 4, none⟩ = some (.int .i16 c))
        (first | exact ⟨a0, a1, a2, a3, a4, b0, b1, b2, b3, b4⟩ | exact ⟨(q1.cell (cell_lt a0)).trans a0, (q1.cell (cell_lt a1)).trans a1, (q1.cell (cell_lt a2)).trans a2, (q1.cell (cell_lt a3)).trans a3, (q1.cell (cell_lt a4)).trans a4, (q1.cell (cell_lt b0)).trans b0, (q1.cell (cell_lt b1)).trans b1, (q1.cell (cell_lt b2)).trans b2, (q1.cell (cell_lt b3)).trans b3, (q1.cell (cell_lt b4)).trans b4⟩)
        (first | (go_at_call 55; refine q.mono ?_; rintro e W1 ⟨rfl, q1⟩))
      all_goals
        go_wp2
        go_roundw
        case rel => exact ⟨j + 1, by omega, by simp, hb.trans (Below.trans (Below.refl _ _).drew (q1.mono hb.size))⟩
        case measure => simp [RowKit.intOf]; omega
    · obtain rfl : j = n := by omega
      go_wp2
      go_ret
      exact ⟨rfl, hb⟩
/-- Comparing trees. -/
theorem eqTr {w : World} {B B' n : Nat} {v u : Value} {xs : List Value} (h : w.ownsRow B 62 5 v n xs) (h' : w.ownsRow B' 62 5 u n xs) (F : Forky xs n) (hn : n ≤ 1048576) :
    Calls Try.prog 12 #[.agg #[v], .agg #[u]] w fun e w' => e = .returned (.bool true) ∧ Below w.heap.size w w' := by
  obtain ⟨W, hW, hB, x⟩ := boxN w #[v] 30
  obtain ⟨V, hV, hB2, y⟩ := boxN W #[u] 30
  have x := at_keep x hB2
  have hB3 := hB.trans (hB2.mono hB.size)
  have q := eqFkS (row_underN (k := 0) h hB3) (row_underN (k := 0) h' hB3) F hn
  obtain ⟨s0, k0, rfl⟩ := own_formN h
  obtain ⟨s1, k1, rfl⟩ := own_formN h'
  have a0 : V.cell? ⟨w.heap.size, 0, none⟩ = some (.slice s0 n k0) := by rw [Lib.cell_of_heap x]; rfl
  have b0 : V.cell? ⟨W.heap.size, 0, none⟩ = some (.slice s1 n k1) := by rw [Lib.cell_of_heap y]; rfl
  clear x y h h'
  go_enter Try.func12, Try.ntmps12
  go_wp2_with (go_at_call 32; refine q.mono ?_)
  first | (rintro e W1 rfl h1) | (rintro e W1 ⟨rfl, h1⟩)
  go_wp2
  go_ret
  exact ⟨rfl, hB3.trans (h1.mono hB3.size)⟩
end Go.Proofs.Ytjmpdilffmpkgaa.Sx
