/-
  When a node is valid: a loop over an iterator, walked by hand.
-/
import Derived.Test.YtnnklfkjnhdadaaV2
namespace Go.Proofs.Ytnnklfkjnhdadaa.Sx
open Go Go.RowKit Go.Shelf
set_option linter.unusedVariables false
set_option linter.unusedSimpArgs false
attribute [local go_sem] Oper.semAt_some

theorem ok_head {k a b p q i : Int} (h : okN k a b p q i) : headOk k a b p q := by
  unfold okN at h
  refine ⟨h.1, ?_⟩
  show (if k = 1 then [k, 0, 0, p, q] else if isTwo k then [k, a, b, 0, 0] else if isOne k then [k, a, 0, 0, 0] else [k, 0, 0, 0, 0]) = [k, a, b, p, q]
  by_cases e1 : k = 1
  · rw [if_pos e1]; simp only [List.cons.injEq, and_true, true_and]; omega
  rw [if_neg e1]
  by_cases e2 : isTwo k
  · rw [if_pos e2]; simp only [List.cons.injEq, and_true, true_and]; omega
  rw [if_neg e2]
  by_cases e3 : isOne k
  · rw [if_pos e3]; simp only [List.cons.injEq, and_true, true_and]; omega
  · rw [if_neg e3]; simp only [List.cons.injEq, and_true, true_and]; omega
theorem ok_parts {k p q i : Int} {a b : Int} {ha : -32768 ≤ a ∧ a ≤ 32767} {hb : -32768 ≤ b ∧ b ≤ 32767} (h : okN k a b p q i) (y : N16) (hy : y ∈ partsL k ⟨a, ha⟩ ⟨b, hb⟩) : 0 ≤ y.1 ∧ y.1 < i := by
  unfold okN at h
  unfold partsL at hy
  by_cases e2 : isTwo k
  · rw [if_pos e2] at hy
    simp only [List.mem_cons, List.not_mem_nil, or_false] at hy
    rcases hy with rfl | rfl
    · show 0 ≤ a ∧ a < i; omega
    · show 0 ≤ b ∧ b < i; omega
  rw [if_neg e2] at hy
  by_cases e3 : isOne k
  · rw [if_pos e3] at hy
    simp only [List.mem_cons, List.not_mem_nil, or_false] at hy
    subst hy
    show 0 ≤ a ∧ a < i; omega
  · rw [if_neg e3] at hy; cases hy
theorem ok_key {k p q i : Int} {a b : Int} {ha : -32768 ≤ a ∧ a ≤ 32767} {hb : -32768 ≤ b ∧ b ≤ 32767} (h : headOk k a b p q) (hp : ∀ y ∈ partsL k ⟨a, ha⟩ ⟨b, hb⟩, 0 ≤ y.1 ∧ y.1 < i) :
    okN k a b p q i ↔ (k = 1 → -1000000000 ≤ p ∧ p ≤ 1000000000 ∧ 1 ≤ q ∧ q ≤ 1000000000) := by
  obtain ⟨h1, h2⟩ := h
  have h2 : (if k = 1 then [k, 0, 0, p, q] else if isTwo k then [k, a, b, 0, 0] else if isOne k then [k, a, 0, 0, 0] else [k, 0, 0, 0, 0]) = [k, a, b, p, q] := h2
  unfold okN
  unfold partsL at hp
  by_cases e2 : isTwo k
  · have e1 : ¬ k = 1 := by omega
    rw [if_neg e1, if_pos e2] at h2
    rw [if_pos e2] at hp
    have pa : 0 ≤ a ∧ a < i := hp ⟨a, ha⟩ (by simp)
    have pb : 0 ≤ b ∧ b < i := hp ⟨b, hb⟩ (by simp)
    simp only [List.cons.injEq, and_true, true_and] at h2
    omega
  rw [if_neg e2] at hp
  by_cases e3 : isOne k
  · have e1 : ¬ k = 1 := by omega
    rw [if_neg e1, if_neg e2, if_pos e3] at h2
    rw [if_pos e3] at hp
    have pa : 0 ≤ a ∧ a < i := hp ⟨a, ha⟩ (by simp)
    simp only [List.cons.injEq, and_true, true_and] at h2
    omega
  · by_cases e1 : k = 1
    · rw [if_pos e1] at h2
      simp only [List.cons.injEq, and_true, true_and] at h2
      omega
    · rw [if_neg e1, if_neg e2, if_neg e3] at h2
      simp only [List.cons.injEq, and_true, true_and] at h2
      omega

set_option maxRecDepth 100000 in
set_option maxHeartbeats 2000000 in
theorem cValidAt : CN 16 s16 := by
  intro w xs ls args hx hl ha _
  obtain ⟨k, a, b, p, q, i, rfl⟩ : ∃ k a b p q i, xs = [k, a, b, p, q, i] := by
    match xs, hx with
    | [k, a, b, p, q, i], _ => exact ⟨_, _, _, _, _, _, rfl⟩
  obtain rfl : ls = [] := allL_nil rfl hl
  have ha0 := ha
  obtain ⟨r1, rfl, _, r2, rfl, _, rfl⟩ := ha
  have hb5 : allHas iv23 [k, a, b, p, q] := ⟨hx.1, hx.2.1, hx.2.2.1, hx.2.2.2.1, hx.2.2.2.2.1, trivial⟩
  have hk : (kiv .i8).has k := hx.1
  have hres : (tbN.fns 16 [k, a, b, p, q, i] []).1 = [b01 (okN k a b p q i)] := fnsN (T := tbN) (g := 16) (s := s16) (F := nodeF) (xs := [k, a, b, p, q, i]) rfl rfl rfl (b01_has _)
  rw [hres]
  refine (callsIn_wide (n := 9)).1 (callsIn_of_wp_marks Try.func16 hbody trivial (wpIn_wide.2 ?_) rfl)
  refine tbN.part (F := ⟨c16, []⟩) (ivs := iv16) (lvs := parLvs s16.params) (ps := s16.params) (nt := 52) (pre := prN) vPre Try.checked.mixed ⟨rfl, trivial⟩ ⟨fun _ _ _ => trivial, trivial⟩ ⟨cBare, trivial⟩ trivial noI noM hx hx hl ha0
    (post := fun y => (y = 0 → headOk k a b p q) ∧ (y = 1 → ¬ headOk k a b p q)) (pre_ok hb5) ?_ ?_
  · intro d a1 w1 hz hB hp
    have hh := hp.1 rfl
    obtain ⟨z0, m0, c0⟩ := behind_cells hB (id := 0) (cs := varCells 0 [.i .i8, .i .i16, .i .i16, .i .i64, .i .i64]) (ty := 36) rfl
    obtain ⟨z1, m1, c1⟩ := behind_cells hB (id := 1) (cs := varCells 5 [.i .i64]) (ty := 3) rfl
    obtain ⟨z2, m2, c2⟩ := behind_cells hB (id := 2) (cs := [.bool (.lit false)]) (ty := 4) rfl
    have s01 : (d.α 0).1 ≠ (d.α 1).1 := hB.sep 0 1 _ _ rfl rfl rfl rfl (by decide)
    have s02 : (d.α 0).1 ≠ (d.α 2).1 := hB.sep 0 2 _ _ rfl rfl rfl rfl (by decide)
    have s12 : (d.α 1).1 ≠ (d.α 2).1 := hB.sep 1 2 _ _ rfl rfl rfl rfl (by decide)
    obtain ⟨ys, zs, hz⟩ := hz
    have x0 : d.ρ.i = [k, a, b, p, q, i] ++ ys := by rw [hz]; rfl
    obtain ⟨f, hf, e52⟩ := arr52 a1.tmps hB.len
    have e2 : f 2 = .pointer (some ⟨(d.α 0).1, 0, none⟩) := by
      rw [hf 2]
      have : a1.tmps.getD 2 undef = .pointer (some ⟨(d.α 0).1, (d.α 0).2 + 0, none⟩) := hB.is 2
      rw [this, z0]
    have e3 : f 3 = .pointer (some ⟨(d.α 1).1, 0, none⟩) := by
      rw [hf 3]
      have : a1.tmps.getD 3 undef = .pointer (some ⟨(d.α 1).1, (d.α 1).2 + 0, none⟩) := hB.is 3
      rw [this, z1]
    have e4 : f 4 = .pointer (some ⟨(d.α 2).1, 0, none⟩) := by
      rw [hf 4]
      have : a1.tmps.getD 4 undef = .pointer (some ⟨(d.α 2).1, (d.α 2).2 + 0, none⟩) := hB.is 4
      rw [this, z2]
    have hbel := hB.bl.below (noPin _ _)
    have hdf := hB.df
    have n0 : (varCells 0 [.i .i8, .i .i16, .i .i16, .i .i64, .i .i64]).map (Cell.den d) = [.int .i8 k, .int .i16 a, .int .i16 b, .int .i64 p, .int .i64 q] := by
      simp only [varCells, List.map_cons, List.map_nil, Cell.den, E.den, x0]; rfl
    have n1 : (varCells 5 [.i .i64]).map (Cell.den d) = [.int .i64 i] := by
      simp only [varCells, List.map_cons, List.map_nil, Cell.den, E.den, x0]; rfl
    have n2 : ([.bool (.lit false)] : List Cell).map (Cell.den d) = [.bool false] := rfl
    rw [n0] at c0
    rw [n1] at c1
    rw [n2] at c2
    clear hB hp z0 z1 z2 n0 n1 n2 hz x0 hf
    generalize (d.α 0).1 = B0 at *
    generalize (d.α 1).1 = B1 at *
    generalize (d.α 2).1 = B2 at *
    clear d
    obtain ⟨tm, df⟩ := a1
    simp only at e52 hdf
    subst hdf
    rw [e2, e3, e4] at e52
    subst e52
    have g0 : w1.cell? ⟨B0, 0, none⟩ = some (.int .i8 k) := by simp [World.cell?, c0]
    have g1 : w1.cell? ⟨B0, 1, none⟩ = some (.int .i16 a) := by simp [World.cell?, c0]
    have g2 : w1.cell? ⟨B0, 2, none⟩ = some (.int .i16 b) := by simp [World.cell?, c0]
    have g3 : w1.cell? ⟨B0, 3, none⟩ = some (.int .i64 p) := by simp [World.cell?, c0]
    have g4 : w1.cell? ⟨B0, 4, none⟩ = some (.int .i64 q) := by simp [World.cell?, c0]
    have j0 : w1.cell? ⟨B1, 0, none⟩ = some (.int .i64 i) := by simp [World.cell?, c1]
    have r0 : w1.cell? ⟨B2, 0, none⟩ = some (.bool false) := by simp [World.cell?, c2]
    have r1 : w1.frozen? ⟨B2, 0, none⟩ = false := by simp [World.frozen?, c2]
    refine (wpIn_wide (n := 9)).1 ?_
    change Code.wpIn Fence.wide 9 Try.prog _ _ _ _
    conv in (tlC (tlC bdC)) => simp only [bdC, Try.f16, tlC]
    gi_wp2_with (refine ⟨trivial, ?_⟩; gi_at_call 24; refine (parts_in _ k a b p q _).mono ?_; rintro e w' ⟨rfl, rfl⟩)
    obtain ⟨W0, hW0⟩ : ∃ W0, w1.alloc (.cells #[.int .i8 k, .int .i16 a, .int .i16 b, .int .i64 p, .int .i64 q] 36) = W0 := ⟨_, rfl⟩
    have q0 : W0.heap.size = w1.heap.size + 1 := by rw [← hW0]; simp
    have hblk : W0.heap[w1.heap.size]? = some (.cells #[.int .i8 k, .int .i16 a, .int .i16 b, .int .i64 p, .int .i64 q] 36 (0, 0)) := by rw [← hW0]; exact World.alloc_heap_new w1 _
    have q1 : W0.cell? ⟨w1.heap.size, 0, none⟩ = some (.int .i8 k) := by simp [World.cell?, hblk]
    have q2 : W0.cell? ⟨w1.heap.size, 1, none⟩ = some (.int .i16 a) := by simp [World.cell?, hblk]
    have q3 : W0.cell? ⟨w1.heap.size, 2, none⟩ = some (.int .i16 b) := by simp [World.cell?, hblk]
    have keep : ∀ {ad : Addr} {v : Value}, w1.cell? ad = some v → W0.cell? ad = some v := fun h => by rw [← hW0]; exact cell_kept h (World.grownBy_alloc w1 _ none) (fun r e => by cases e)
    have keepf : ∀ {ad : Addr} {v : Value}, w1.cell? ad = some v → w1.frozen? ad = false → W0.frozen? ad = false := fun h hf => by rw [← hW0]; exact (frozen_kept h (World.grownBy_alloc w1 _ none) (fun r e => by cases e)).trans hf
    have hB0 : Below w.heap.size w W0 := by rw [← hW0]; exact hbel.alloc hbel.size _
    rw [hW0]
    refine wpIn_rangeFunc_ownF rfl (by decide) (gf := 28) (lb := #[.pointer (some ⟨w1.heap.size, 0, none⟩)]) rfl trivial (enters_of Try.func28 (by kernel_rfl) rfl)
      (parts1_stops (9 - 1) (by decide) w1.heap.size (w1.heap.size + 1) k ⟨a, hx.2.1⟩ ⟨b, hx.2.2.1⟩ hk W0 (by omega) (by omega) q1 q2 q3) belowK_t (belowK_b (by omega)) (Below.refl _ _) (fun _ => rfl)
      (fun pre W => ((∀ y ∈ pre, 0 ≤ y.1 ∧ y.1 < i) ∧ (W.cell? ⟨B1, 0, none⟩ = some (.int .i64 i) ∧ W.cell? ⟨B2, 0, none⟩ = some (.bool false) ∧ W.frozen? ⟨B2, 0, none⟩ = false) ∧
        W.cell? ⟨B0, 0, none⟩ = some (.int .i8 k) ∧ W.cell? ⟨B0, 3, none⟩ = some (.int .i64 p) ∧ W.cell? ⟨B0, 4, none⟩ = some (.int .i64 q)) ∧ Below w.heap.size w W)
      (fun c pre W => (c = .ret ∧ (∃ y ∈ pre, ¬ (0 ≤ y.1 ∧ y.1 < i)) ∧ W.cell? ⟨B2, 0, none⟩ = some (.bool false)) ∧ Below w.heap.size w W)
      (OwnFrom.and (Own.from (fun s A B row hs hg hr => ⟨hs.1, ⟨cell_kept hs.2.1.1 hg hr, cell_kept hs.2.1.2.1 hg hr, (frozen_kept hs.2.1.2.1 hg hr).trans hs.2.1.2.2⟩, cell_kept hs.2.2.1 hg hr, cell_kept hs.2.2.2.1 hg hr, cell_kept hs.2.2.2.2 hg hr⟩) _) (ownFrom_below (Nat.le_refl _) hB0.size))
      (fun c => OwnFrom.and (Own.from (fun s A B row hs hg hr => ⟨hs.1, hs.2.1, cell_kept hs.2.2 hg hr⟩) _) (ownFrom_below (Nat.le_refl _) hB0.size))
      ⟨⟨fun _ h => (by cases h), ⟨keep j0, keep r0, keepf r0 r1⟩, keep g0, keep g3, keep g4⟩, hB0⟩
      (fun x => { tmps := #[f 0, f 1, .pointer (some ⟨B0, 0, none⟩), .pointer (some ⟨B1, 0, none⟩), .pointer (some ⟨B2, 0, none⟩), .int .i16 x.1, f 6, f 7, f 8, f 9, f 10, f 11, f 12, f 13, f 14, f 15, f 16, f 17, f 18, f 19,
        .agg #[.int .i8 k, .int .i16 a, .int .i16 b, .int .i64 p, .int .i64 q], .func (.func 28) #[] #[.pointer (some ⟨w1.heap.size, 0, none⟩)], .int .i16 x.1, f 23, f 24, f 25, f 26, f 27, f 28, f 29, f 30, f 31, f 32, f 33, f 34, f 35, f 36, f 37, f 38, f 39, f 40, f 41, f 42, f 43, f 44, f 45, f 46, f 47, f 48, f 49, f 50, f 51], defers := [] }) ?assign ?body ?done ?stop
    case assign =>
      intro l x W K hK
      gi_wp2
      exact hK
    case body =>
      rintro l pre x W ⟨⟨hp, ⟨hcj, hcr, hfr⟩, hrest⟩, hBW⟩ _
      have hxw : IntKind.i64.wrap x.1 = x.1 := W_id ⟨by have := x.2; omega, by have := x.2; omega⟩
      gi_wp2
      · rename_i ht
        exact ⟨KeepsOthers.setCell _ _ _, ⟨rfl, ⟨x, List.mem_append.2 (.inr (List.mem_singleton.2 rfl)), by omega⟩, World.cell?_setCell_same' _ _ _ (by rw [hcr]; rfl)⟩, hBW.setCell (p := ⟨B2, 0, none⟩) m2 _⟩
      · rename_i ht ht2
        exact ⟨KeepsOthers.refl _, Below.refl _ _, ⟨fun y hy => (List.mem_append.1 hy).elim (hp y) (fun e => by rw [List.mem_singleton.1 e]; omega), ⟨hcj, hcr, hfr⟩, hrest⟩, hBW⟩
      · rename_i ht ht2
        exact ⟨KeepsOthers.setCell _ _ _, ⟨rfl, ⟨x.1, ⟨x.2, List.mem_append.2 (.inr (List.mem_singleton.2 rfl))⟩, fun _ => by omega⟩, World.cell?_setCell_same' _ _ _ (by rw [hcr]; rfl)⟩, hBW.setCell (p := ⟨B2, 0, none⟩) m2 _⟩
    case done =>
      rintro D ys W hD rfl ⟨⟨hne, ⟨hcj, hcr, hfr⟩, e0, e3, e4⟩, hBW⟩ hK
      have fin : ∀ (bv : Bool) (T : Array Value), T[4]? = some (.pointer (some ⟨B2, 0, none⟩)) → (bv = true ↔ okN k a b p q i) →
          LeavesInM Fence.wide 9 Try.prog Try.f16 T (fun e w' => e = .returned (resV s16 [b01 (okN k a b p q i)]) ∧ Below w.heap.size w w') [{ target := .collected D, args := #[] }] .returning (W.setCell ⟨B2, 0, none⟩ (.bool bv)) := by
        intro bv T hT hbv
        have hK' := (KeepsOthers.setCell W ⟨B2, 0, none⟩ (.bool bv)).same D _ hK rfl
        refine ⟨by simp, .inl ⟨_, _, rfl, run_takeDeferred hK', ?_⟩⟩
        have hc5 := cell_kept (World.cell?_setCell_same' W ⟨B2, 0, none⟩ (.bool bv) (by rw [hcr]; rfl)) (grownBy_putObj' _ D (.deferred none)) (fun r e => by cases e; exact ⟨_, hK', rfl⟩)
        refine ⟨.bool bv, ?_, ?_, (hBW.setCell (p := ⟨B2, 0, none⟩) m2 _).trans (belowK_b (w := w) (Nat.le_refl _) _ D _ _ (by have := hB0.size; omega) hK' rfl rfl)⟩
        · simp [results, Try.f16, go_sem, hc5, hT]
        · show _ = Ending.returned (.bool (decide (b01 (okN k a b p q i) = 1)))
          congr 2
          rw [Bool.eq_iff_iff, hbv, decide_eq_true_eq, b01_one]
      gi_wp2
      all_goals refine fin _ _ ?_ ?_
      all_goals try rfl
      all_goals rw [ok_key (i := i) hh hne]
      all_goals have kk : ((k != 1) = true → k ≠ 1) ∧ ((k != 1) = false → k = 1) := ⟨fun h => by simpa using h, fun h => by simpa using h⟩
      all_goals first | (have k1 := kk.1 (by assumption)) | (have k1 := kk.2 (by assumption))
      all_goals simp only [decide_eq_true_eq, Bool.false_eq_true, true_iff, false_iff]
      all_goals omega
    case stop =>
      rintro D c pre W hD hpre ⟨⟨rfl, ⟨y, hy, hyb⟩, hcr⟩, hBW⟩ hK
      have hnot : ¬ okN k a b p q i := fun h => hyb (ok_parts h y (hpre.subset hy))
      gi_wp2
      refine ⟨by simp, .inl ⟨_, _, rfl, run_takeDeferred hK, ?_⟩⟩
      have hc5 := cell_kept hcr (grownBy_putObj' _ D (.deferred none)) (fun r e => by cases e; exact ⟨_, hK, rfl⟩)
      refine ⟨.bool false, ?_, ?_, hBW.trans (belowK_b (w := w) (Nat.le_refl _) W D _ _ (by have := hB0.size; omega) hK rfl rfl)⟩
      · simp [results, Try.f16, go_sem, hc5]
      · show _ = Ending.returned (.bool (decide (b01 (okN k a b p q i) = 1)))
        rw [show decide (b01 (okN k a b p q i) = 1) = false from by simp [b01_one, hnot]]
  · intro d a1 w1 hz hB hp
    have hh := hp.2 rfl
    obtain ⟨z0, m0, c0⟩ := behind_cells hB (id := 2) (cs := [.bool (.lit false)]) (ty := 4) rfl
    have t4 := hB.is 4
    obtain ⟨f, hf, e52⟩ := arr52 a1.tmps hB.len
    have e4 : f 4 = .pointer (some ⟨(d.α 2).1, 0, none⟩) := by
      rw [hf 4]
      have : a1.tmps.getD 4 undef = .pointer (some ⟨(d.α 2).1, (d.α 2).2 + 0, none⟩) := t4
      rw [this, z0]
    have hc : w1.cell? ⟨(d.α 2).1, 0, none⟩ = some (.bool false) := by simp [World.cell?, c0, Cell.den, B.den]
    have hdf := hB.df
    obtain ⟨tm, df⟩ := a1
    simp only at e52 hdf
    subst hdf
    rw [e4] at e52
    subst e52
    refine ⟨.bool false, ?_, ?_, hB.bl.below (noPin _ _)⟩
    · simp [results, Try.f16, go_sem, hc]
    · have : ¬ okN k a b p q i := fun h => hh ?_
      · show _ = Ending.returned (.bool (decide (b01 (okN k a b p q i) = 1)))
        rw [show decide (b01 (okN k a b p q i) = 1) = false from by simp [b01_one, this]]
      · exact ok_head h
end Go.Proofs.Ytnnklfkjnhdadaa.Sx
