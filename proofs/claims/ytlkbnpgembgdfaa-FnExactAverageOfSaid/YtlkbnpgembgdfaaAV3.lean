/-
  Averages: the closure that gives a digit and the next state.
-/
import Derived.Test.YtlkbnpgembgdfaaAV2
namespace Go.Proofs.Ytlkbnpgembgdfaa.Sx
open Go Go.RowKit
set_option linter.unusedVariables false
set_option linter.unusedSimpArgs false

theorem cell1 {w : World} {b : Nat} {v : Value} {t : TypeId} (h : w.heap[b]? = some (.cells #[v] t (0, 0))) : w.cell? ⟨b, 0, none⟩ = some v ∧ w.frozen? ⟨b, 0, none⟩ = false := ⟨by rw [Lib.cell_of_heap h]; rfl, Lib.frozen_of_heap h _⟩
theorem crD_in {x : Int} (h : -6 ≤ x ∧ x ≤ 6) : -2 ≤ x - 4 * crD x ∧ x - 4 * crD x ≤ 2 := by
  unfold crD
  split
  · omega
  · split <;> omega
/-- A digit and a state are returned. -/
def Nx (D C : Int) (i k : Nat) (w : World) (e : Ending) (w' : World) : Prop := e = .returned (.tuple #[.int .i8 D, .agg #[.int .i64 C, .int .i64 i, .int .i64 k]]) ∧ Below w.heap.size w w'
/-- Both closures lie in boxes. -/
structure Clo (w : World) (Bs Bt Fs Fb : Nat) (t1 t2 : TypeId) : Prop where
  mk ::
  f1 : w.heap[Fs]? = some (.cells #[.func (.func 56) #[] #[.pointer (some ⟨Bs, 0, none⟩), .pointer (some ⟨Bt, 0, none⟩)]] t1 (0, 0))
  f2 : w.heap[Fb]? = some (.cells #[.func (.func 58) #[] #[.pointer (some ⟨Bs, 0, none⟩), .pointer (some ⟨Bt, 0, none⟩)]] t2 (0, 0))
theorem Clo.keep {w w' : World} {Bs Bt Fs Fb : Nat} {t1 t2 : TypeId} (h : Clo w Bs Bt Fs Fb t1 t2) (hB : Below w.heap.size w w') : Clo w' Bs Bt Fs Fb t1 t2 := ⟨at_keep h.f1 hB, at_keep h.f2 hB⟩
set_option maxRecDepth 1000000 in
set_option maxHeartbeats 4000000 in
theorem nextI {w : World} {Bs Bt Fs Fb : Nat} {t1 t2 : TypeId} {a b c d : List Int} {v0 v1 u0 u1 : Value} (h : Two w Bs Bt a b c d v0 v1 u0 u1) (hc : Clo w Bs Bt Fs Fb t1 t2) (la : a.length ≤ 16) (lb : b.length ≤ 14) (lc : c.length ≤ 16) (ld : d.length ≤ 14) (cy : Int) (hcy : -2 ≤ cy ∧ cy ≤ 2) (i k : Nat) (hi : i < a.length + b.length) (hk : k < c.length + d.length)
    (b1 : -1 ≤ dgp a b i ∧ dgp a b i ≤ 1) (b2 : -1 ≤ dgp c d k ∧ dgp c d k ≤ 1) :
    Calls Try.prog 61 #[.agg #[.int .i64 cy, .int .i64 i, .int .i64 k], .pointer (some ⟨Fs, 0, none⟩), .pointer (some ⟨Fb, 0, none⟩)] w (Nx (crD (2 * cy + (dgp a b i + dgp c d k))) (2 * cy + (dgp a b i + dgp c d k) - 4 * crD (2 * cy + (dgp a b i + dgp c d k))) (bh a.length b.length i) (bh c.length d.length k) w) := by
  obtain ⟨W, hW, hB, x⟩ := boxN w #[.int .i64 cy, .int .i64 i, .int .i64 k] 84
  obtain ⟨V, hV, hB2, y⟩ := boxN W #[.int .i64 0, .int .i64 0, .int .i64 0] 84
  have hB3 := hB.trans (hB2.mono hB.size)
  have T := h.keep hB3
  have C := hc.keep hB3
  have x := at_keep x hB2
  have dD : Below V.heap.size V V.drew := (Below.refl _ _).drew
  have sm := sumAtI (T.keep dD) la lb lc ld cy i k hi hk b1 b2
  have bb := Lib.hid fun W' hb cn => behind2I (T.keep (w' := W') hb) la lb lc ld cy cn i k hi hk
  obtain ⟨s, hs⟩ : ∃ s, dgp a b i + dgp c d k = s := ⟨_, rfl⟩
  have bs : -2 ≤ s ∧ s ≤ 2 := by omega
  rw [hs] at sm ⊢
  obtain ⟨x1, hx1⟩ : ∃ x1, bh a.length b.length i = x1 := ⟨_, rfl⟩
  obtain ⟨x2, hx2⟩ : ∃ x2, bh c.length d.length k = x2 := ⟨_, rfl⟩
  rw [hx1, hx2] at bb ⊢
  have e1 : IntKind.i64.wrap (2 * cy) = 2 * cy := by rw [IntKind.wrap_i64]; omega
  have e2 : IntKind.i64.wrap (2 * cy + s) = 2 * cy + s := by rw [IntKind.wrap_i64]; omega
  have cr := Lib.hid fun W' => carriedI (2 * cy + s) W' (by omega) (by omega)
  obtain ⟨D, hD⟩ : ∃ D, crD (2 * cy + s) = D := ⟨_, rfl⟩
  rw [hD] at cr ⊢
  obtain ⟨E, hE⟩ : ∃ E, 2 * cy + s - 4 * D = E := ⟨_, rfl⟩
  rw [hE] at cr ⊢
  have p1 := (cell1 C.f1).1
  have p2 := (cell1 C.f2).1
  have a0 : V.cell? ⟨w.heap.size, 0, none⟩ = some (.int .i64 cy) := by rw [Lib.cell_of_heap x]; rfl
  have a1 : V.cell? ⟨w.heap.size, 1, none⟩ = some (.int .i64 i) := by rw [Lib.cell_of_heap x]; rfl
  have a2 : V.cell? ⟨w.heap.size, 2, none⟩ = some (.int .i64 k) := by rw [Lib.cell_of_heap x]; rfl
  have zw : w.heap.size < W.heap.size := by rw [← hW]; simp
  have CC := Lib.hid (fun W' hb => C.keep (w' := W') hb)
  have XX := Lib.hid (fun W' hb => at_keep (w' := W') x hb)
  have YY := Lib.hid (fun W' hb => at_keep (w' := W') y hb)
  clear h hc T C x y hs hx1 hx2 hD hE hi hk b1 b2
  go_enter Try.func61, Try.ntmps61
  go_wp2
  go_region_held3 (fun w' => w'.cell? ⟨w.heap.size, 0, none⟩ = some (.int .i64 cy) ∧ w'.cell? ⟨w.heap.size, 1, none⟩ = some (.int .i64 i) ∧ w'.cell? ⟨w.heap.size, 2, none⟩ = some (.int .i64 k) ∧ w'.cell? ⟨Fs, 0, none⟩ = some (.func (.func 56) #[] #[.pointer (some ⟨Bs, 0, none⟩), .pointer (some ⟨Bt, 0, none⟩)]))
    (first
      | exact ⟨by rw [Lib.cell_of_heap (XX.out _ g1)]; rfl, by rw [Lib.cell_of_heap (XX.out _ g1)]; rfl, by rw [Lib.cell_of_heap (XX.out _ g1)]; rfl, (cell1 (CC.out _ g1).f1).1⟩
      | exact ⟨a0, a1, a2, p1⟩)
    (first
      | (go_at_call 56; refine sm.mono ?_; rintro e W2 ⟨rfl, g1⟩; have g1 := dD.trans g1)
      | (go_at_call 62; refine (cr.out W2).mono ?_; rintro e W3 ⟨rfl, hs⟩; obtain rfl := hs.out; clear hs))
  all_goals
    have y3 := YY.out _ g1
    have x3 := XX.out _ g1
    have q2 := (cell1 (CC.out _ g1).f2).1
    have m0 : W3.cell? ⟨w.heap.size, 0, none⟩ = some (.int .i64 cy) := by rw [Lib.cell_of_heap x3]; rfl
    have m1 : W3.cell? ⟨w.heap.size, 1, none⟩ = some (.int .i64 i) := by rw [Lib.cell_of_heap x3]; rfl
    have m2 : W3.cell? ⟨w.heap.size, 2, none⟩ = some (.int .i64 k) := by rw [Lib.cell_of_heap x3]; rfl
    have b5 := bb.out W3 g1 E
    have zz := g1.size
    have GG := Lib.hid g1
    clear y3 x3 sm
    go_wp2_with (go_at_call 58; refine b5.mono ?_)
    rintro e W5 ⟨rfl, g5⟩
    have g5 := GG.out.trans (g5.mono GG.out.size)
    have y5 := YY.out _ g5
    have o0 : W5.cell? ⟨W.heap.size, 0, none⟩ = some (.int .i64 0) := by rw [Lib.cell_of_heap y5]; rfl
    have o1 : W5.cell? ⟨W.heap.size, 1, none⟩ = some (.int .i64 0) := by rw [Lib.cell_of_heap y5]; rfl
    have o2 : W5.cell? ⟨W.heap.size, 2, none⟩ = some (.int .i64 0) := by rw [Lib.cell_of_heap y5]; rfl
    have f0 : W5.frozen? ⟨W.heap.size, 0, none⟩ = false := Lib.frozen_of_heap y5 _
    have f1 : W5.frozen? ⟨W.heap.size, 1, none⟩ = false := Lib.frozen_of_heap y5 _
    have f2 : W5.frozen? ⟨W.heap.size, 2, none⟩ = false := Lib.frozen_of_heap y5 _
    obtain ⟨W6, hW6, h6, r6, z6, B6⟩ := stored3 y5 (.int .i64 E) (.int .i64 x1) (.int .i64 x2)
    have e0' : W6.cell? ⟨W.heap.size, 0, none⟩ = some (.int .i64 E) := by rw [Lib.cell_of_heap h6]; rfl
    have e1' : W6.cell? ⟨W.heap.size, 1, none⟩ = some (.int .i64 x1) := by rw [Lib.cell_of_heap h6]; rfl
    have e2' : W6.cell? ⟨W.heap.size, 2, none⟩ = some (.int .i64 x2) := by rw [Lib.cell_of_heap h6]; rfl
    have BB6 := Lib.hid ((hB3.trans (g5.mono hB3.size)).trans (B6 _ (by omega)))
    clear y5 h6 r6 z6 B6 g5 b5
    go_wp2
    refine bodyPost_ret (v := .tuple #[.int .i8 D, .agg #[.int .i64 E, .int .i64 x1, .int .i64 x2]]) (by simp [results, Try.results61, go_sem, e0', e1', e2']) rfl ?_
    exact ⟨rfl, BB6.out⟩
end Go.Proofs.Ytlkbnpgembgdfaa.Sx
