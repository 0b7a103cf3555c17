/-
  Averages: what is carried, the sum at two places, the places behind.
-/
import Derived.Test.YtlkbnpgembgdfaaA1
import Derived.Test.YtlkbnpgembgdfaaY1
import Derived.Deep.RegionHeld3
namespace Go.Proofs.Ytlkbnpgembgdfaa.Sx
open Go Go.RowKit
set_option linter.unusedVariables false
set_option linter.unusedSimpArgs false

def crD (x : Int) : Int := if 2 < x then 1 else if x < -2 then -1 else 0
set_option maxRecDepth 100000 in
set_option maxHeartbeats 1000000 in
theorem carriedI (x : Int) (w : World) (h0 : -100 ≤ x) (h1 : x ≤ 100) : Calls Try.prog 62 #[.int .i64 x] w fun e w' => e = .returned (.tuple #[.int .i8 (crD x), .int .i64 (x - 4 * crD x)]) ∧ Same w w' := by
  by_cases g1 : 2 < x
  · have d1 := decide_eq_true g1
    have er : crD x = 1 := if_pos g1
    have ew : IntKind.i64.wrap (x - 4) = x - 4 := by rw [IntKind.wrap_i64]; omega
    have ER := Lib.hid er
    clear er g1
    go_enter Try.func62, Try.ntmps62
    go_wp2
    refine bodyPost_ret (v := .tuple #[.int .i8 1, .int .i64 (x - 4)]) (by simp [results, Try.results62, go_sem]) rfl ?_
    exact ⟨by rw [ER.out]; rfl, rfl⟩
  · have d1 := decide_eq_false g1
    by_cases g2 : x < -2
    · have d2 := decide_eq_true g2
      have er : crD x = -1 := by unfold crD; rw [if_neg g1, if_pos g2]
      have ew : IntKind.i64.wrap (x + 4) = x + 4 := by rw [IntKind.wrap_i64]; omega
      have ER := Lib.hid er
      clear er g1 g2
      go_enter Try.func62, Try.ntmps62
      go_wp2
      refine bodyPost_ret (v := .tuple #[.int .i8 (-1), .int .i64 (x + 4)]) (by simp [results, Try.results62, go_sem]) rfl ?_
      exact ⟨by rw [ER.out]; simp, rfl⟩
    · have d2 := decide_eq_false g2
      have er : crD x = 0 := by unfold crD; rw [if_neg g1, if_neg g2]
      have ER := Lib.hid er
      clear er g1 g2
      go_enter Try.func62, Try.ntmps62
      go_wp2
      refine bodyPost_ret (v := .tuple #[.int .i8 0, .int .i64 x]) (by simp [results, Try.results62, go_sem]) rfl ?_
      exact ⟨by rw [ER.out]; simp, rfl⟩
/-- Both streams lie in boxes. -/
structure Two (w : World) (Bs Bt : Nat) (a b c d : List Int) (v0 v1 u0 u1 : Value) : Prop where
  mk ::
  s : Bk w Bs v0 v1 26
  t : Bk w Bt u0 u1 26
  ia : IsL .i8 w a v0
  ib : IsL .i8 w b v1
  ic : IsL .i8 w c u0
  id : IsL .i8 w d u1
theorem Two.keep {w w' : World} {Bs Bt : Nat} {a b c d : List Int} {v0 v1 u0 u1 : Value} (h : Two w Bs Bt a b c d v0 v1 u0 u1) (hB : Below w.heap.size w w') : Two w' Bs Bt a b c d v0 v1 u0 u1 := ⟨h.s.keep hB, h.t.keep hB, h.ia.keep hB, h.ib.keep hB, h.ic.keep hB, h.id.keep hB⟩
theorem boxN (w : World) (cs : Array Value) (t : TypeId) : ∃ W, w.alloc (.cells cs t) = W ∧ Below w.heap.size w W ∧ W.heap[w.heap.size]? = some (.cells cs t (0, 0)) := ⟨_, rfl, (Below.refl _ _).alloc (Nat.le_refl _) _, heap_alloc_new w _⟩
theorem at_keep {w w' : World} {b : Nat} {x : Obj} (h : w.heap[b]? = some x) (hB : Below w.heap.size w w') : w'.heap[b]? = some x := (hB.block b (heap_lt h)).trans h
set_option maxRecDepth 1000000 in
set_option maxHeartbeats 4000000 in
theorem sumAtI {w : World} {Bs Bt : Nat} {a b c d : List Int} {v0 v1 u0 u1 : Value} (h : Two w Bs Bt a b c d v0 v1 u0 u1) (la : a.length ≤ 16) (lb : b.length ≤ 14) (lc : c.length ≤ 16) (ld : d.length ≤ 14) (cy : Int) (i k : Nat) (hi : i < a.length + b.length) (hk : k < c.length + d.length)
    (b1 : -1 ≤ dgp a b i ∧ dgp a b i ≤ 1) (b2 : -1 ≤ dgp c d k ∧ dgp c d k ≤ 1) :
    Calls Try.prog 56 #[.agg #[.int .i64 cy, .int .i64 i, .int .i64 k], .pointer (some ⟨Bs, 0, none⟩), .pointer (some ⟨Bt, 0, none⟩)] w (Num .i64 (dgp a b i + dgp c d k) w) := by
  obtain ⟨s0, k0, rfl⟩ := h.ia.form
  obtain ⟨s1, k1, rfl⟩ := h.ib.form
  obtain ⟨s2, k2, rfl⟩ := h.ic.form
  obtain ⟨s3, k3, rfl⟩ := h.id.form
  obtain ⟨W, hW, hB, x⟩ := boxN w #[.int .i64 cy, .int .i64 i, .int .i64 k] 84
  have T := h.keep hB
  have p0 := T.s.c0
  have p1 := T.s.c1
  have q0 := T.t.c0
  have q1 := T.t.c1
  have a1 : W.cell? ⟨w.heap.size, 1, none⟩ = some (.int .i64 i) := by rw [Lib.cell_of_heap x]; rfl
  have a2 : W.cell? ⟨w.heap.size, 2, none⟩ = some (.int .i64 k) := by rw [Lib.cell_of_heap x]; rfl
  have dD : Below W.heap.size W W.drew := (Below.refl _ _).drew
  have cs := atI (w := W.drew) (T.ia.same rfl) (T.ib.same rfl) (by omega) (by omega) hi
  have ct := Lib.hid fun W' hb => atI (w := W') (T.ic.keep hb) (T.id.keep hb) (by omega) (by omega) hk
  obtain ⟨d1, hd1⟩ : ∃ d1, dgp a b i = d1 := ⟨_, rfl⟩
  obtain ⟨d2, hd2⟩ : ∃ d2, dgp c d k = d2 := ⟨_, rfl⟩
  rw [hd1] at cs b1 ⊢
  rw [hd2] at ct b2 ⊢
  have e1 : IntKind.i64.wrap d1 = d1 := by rw [IntKind.wrap_i64]; omega
  have e2 : IntKind.i64.wrap d2 = d2 := by rw [IntKind.wrap_i64]; omega
  have e3 : IntKind.i64.wrap (d1 + d2) = d1 + d2 := by rw [IntKind.wrap_i64]; omega
  have TT := Lib.hid (fun W' hb => T.keep (w' := W') hb)
  have XX := Lib.hid (fun W' hb => at_keep (w' := W') x hb)
  clear h T x hd1 hd2 hi hk
  go_enter Try.func56, Try.ntmps56
  go_wp2
  go_region_held3 (fun w' => w'.cell? ⟨Bs, 0, none⟩ = some (.slice s0 a.length k0) ∧ w'.cell? ⟨Bs, 1, none⟩ = some (.slice s1 b.length k1) ∧ w'.cell? ⟨Bt, 0, none⟩ = some (.slice s2 c.length k2) ∧ w'.cell? ⟨Bt, 1, none⟩ = some (.slice s3 d.length k3) ∧ w'.cell? ⟨w.heap.size, 1, none⟩ = some (.int .i64 i) ∧ w'.cell? ⟨w.heap.size, 2, none⟩ = some (.int .i64 k))
    (first
      | exact ⟨(TT.out _ g2).s.c0, (TT.out _ g2).s.c1, (TT.out _ g2).t.c0, (TT.out _ g2).t.c1, by rw [Lib.cell_of_heap (XX.out _ g2)]; rfl, by rw [Lib.cell_of_heap (XX.out _ g2)]; rfl⟩
      | exact ⟨(TT.out _ g1).s.c0, (TT.out _ g1).s.c1, (TT.out _ g1).t.c0, (TT.out _ g1).t.c1, by rw [Lib.cell_of_heap (XX.out _ g1)]; rfl, by rw [Lib.cell_of_heap (XX.out _ g1)]; rfl⟩
      | exact ⟨p0, p1, q0, q1, a1, a2⟩)
    (first
      | (go_at_call_of 57 (Value.int .i64 (i : Int)); refine cs.mono ?_; rintro e W2 ⟨rfl, g1⟩; have g1 := dD.trans g1)
      | (go_at_call_of 57 (Value.int .i64 (k : Int)); refine (ct.out W2 g1).mono ?_; rintro e W3 ⟨rfl, g2⟩; have g2 := g1.trans (g2.mono g1.size)))
  all_goals
    go_wp2
    go_ret
    exact ⟨rfl, hB.trans (g2.mono hB.size)⟩
end Go.Proofs.Ytlkbnpgembgdfaa.Sx
