/-
  Machines, by the model: valid ones, images, what is asked.
-/
import Derived.Test.YteemkophifcimaaK1b
import Derived.WalkSpells
import Derived.Deep.DeepCutAuto
namespace Go.Proofs.Yteemkophifcimaa.Sx
open Go Go.RowKit
set_option linter.unusedVariables false
set_option linter.unusedSimpArgs false

theorem mul_bd {x y : Int} (hx : -4000000 ≤ x ∧ x ≤ 4000000) (hy : -4000000 ≤ y ∧ y ≤ 4000000) : -16000000000000 ≤ x * y ∧ x * y ≤ 16000000000000 := by
  have h : (x * y).natAbs ≤ 4000000 * 4000000 := by
    rw [Int.natAbs_mul]
    exact Nat.mul_le_mul (by omega) (by omega)
  omega
/-- A machine is valid. -/
def vmB (A B C D : Int) : Bool := fitM 1000000 ⟨A, B, C, D⟩ && (decide (C < D) && decide (-C < D))
set_option maxRecDepth 1000000 in
set_option maxHeartbeats 8000000 in
theorem machineS {w : World} {b : Nat} {A B C D : Int} (x : BM w b A B C D) (hC : -9223372036854775808 ≤ C) (hC1 : C ≤ 9223372036854775807) : Calls Try.prog 72 #[.pointer (some ⟨b, 0, none⟩)] w fun y w' => y = .returned (.bool (vmB A B C D)) ∧ Below w.heap.size w w' := by
  obtain ⟨c0, c1, c2, c3⟩ := x.c
  have r1 := fitsS (w := w.drew) (x.same rfl) 1000000 (by omega) (by omega)
  have bD := (Below.refl w.heap.size w).drew
  unfold vmB
  cases hf : fitM 1000000 ⟨A, B, C, D⟩
  · rw [hf] at r1
    clear hf x
    go_enter Try.func72, Try.ntmps72
    go_wp2
    refine wp_region_held_drew (S := fun w' => w'.cell? ⟨b, 0, none⟩ = some (.int .i64 A) ∧ w'.cell? ⟨b, 1, none⟩ = some (.int .i64 B) ∧ w'.cell? ⟨b, 2, none⟩ = some (.int .i64 C) ∧ w'.cell? ⟨b, 3, none⟩ = some (.int .i64 D)) (by kernel_rfl) ⟨c0, c1, c2, c3⟩ (fun hS => ?_)
    refine takeH (i := 0) ((.pointer (some ⟨b, 0, none⟩))) rfl (by kernel_rfl) (by kernel_rfl) (by kernel_rfl) (fun _ _ _ h => h) (by kernel_rfl) hS (fun w' hw' => ?_) ?_
    · obtain ⟨s0, s1, s2, s3⟩ := hw'
      go_simp
      try with_reducible rfl
    simp only [Act.put, List.getElem_toArray, List.getElem_cons_zero, List.getElem_cons_succ, List.setIfInBounds_toArray, List.set_cons_zero, List.set_cons_succ]
    refine wpAnyH_ready (rs := [1]) (by kernel_rfl) (by simp) ?_
    refine AllReadyH.cons rfl (fun K hK => ?_) AllReadyH.nil
    go_simp
    (refine r1.mono ?_; rintro e W1 ⟨rfl, hs⟩; obtain rfl := hs.out; clear hs)
    refine hK.out _ _ hS (fun _ => ?_)
    clear hK K
    try simp only [Act.put, List.getElem_toArray, List.getElem_cons_zero, List.getElem_cons_succ, List.setIfInBounds_toArray, List.set_cons_zero, List.set_cons_succ]
    refine takeH (i := 2) ((.bool false)) rfl (by kernel_rfl) (by kernel_rfl) (by kernel_rfl) (fun _ _ _ h => h) (by kernel_rfl) hS (fun w' hw' => ?_) ?_
    · obtain ⟨s0, s1, s2, s3⟩ := hw'
      go_simp
      try with_reducible rfl
    simp only [Act.put, List.getElem_toArray, List.getElem_cons_zero, List.getElem_cons_succ, List.setIfInBounds_toArray, List.set_cons_zero, List.set_cons_succ]
    refine skipH (i := 3) rfl (by kernel_rfl) (by kernel_rfl) (by kernel_rfl) (fun _ _ _ h => h) (by kernel_rfl) hS ?_
    simp only [Act.put, List.getElem_toArray, List.getElem_cons_zero, List.getElem_cons_succ, List.setIfInBounds_toArray, List.set_cons_zero, List.set_cons_succ]
    refine skipH (i := 4) rfl (by kernel_rfl) (by kernel_rfl) (by kernel_rfl) (fun _ _ _ h => h) (by kernel_rfl) hS ?_
    simp only [Act.put, List.getElem_toArray, List.getElem_cons_zero, List.getElem_cons_succ, List.setIfInBounds_toArray, List.set_cons_zero, List.set_cons_succ]
    refine skipH (i := 5) rfl (by kernel_rfl) (by kernel_rfl) (by kernel_rfl) (fun _ _ _ h => h) (by kernel_rfl) hS ?_
    simp only [Act.put, List.getElem_toArray, List.getElem_cons_zero, List.getElem_cons_succ, List.setIfInBounds_toArray, List.set_cons_zero, List.set_cons_succ]
    refine skipH (i := 6) rfl (by kernel_rfl) (by kernel_rfl) (by kernel_rfl) (fun _ _ _ h => h) (by kernel_rfl) hS ?_
    simp only [Act.put, List.getElem_toArray, List.getElem_cons_zero, List.getElem_cons_succ, List.setIfInBounds_toArray, List.set_cons_zero, List.set_cons_succ]
    refine skipH (i := 7) rfl (by kernel_rfl) (by kernel_rfl) (by kernel_rfl) (fun _ _ _ h => h) (by kernel_rfl) hS ?_
    simp only [Act.put, List.getElem_toArray, List.getElem_cons_zero, List.getElem_cons_succ, List.setIfInBounds_toArray, List.set_cons_zero, List.set_cons_succ]
    refine skipH (i := 8) rfl (by kernel_rfl) (by kernel_rfl) (by kernel_rfl) (fun _ _ _ h => h) (by kernel_rfl) hS ?_
    simp only [Act.put, List.getElem_toArray, List.getElem_cons_zero, List.getElem_cons_succ, List.setIfInBounds_toArray, List.set_cons_zero, List.set_cons_succ]
    refine skipH (i := 9) rfl (by kernel_rfl) (by kernel_rfl) (by kernel_rfl) (fun _ _ _ h => h) (by kernel_rfl) hS ?_
    simp only [Act.put, List.getElem_toArray, List.getElem_cons_zero, List.getElem_cons_succ, List.setIfInBounds_toArray, List.set_cons_zero, List.set_cons_succ]
    refine skipH (i := 10) rfl (by kernel_rfl) (by kernel_rfl) (by kernel_rfl) (fun _ _ _ h => h) (by kernel_rfl) hS ?_
    simp only [Act.put, List.getElem_toArray, List.getElem_cons_zero, List.getElem_cons_succ, List.setIfInBounds_toArray, List.set_cons_zero, List.set_cons_succ]
    refine skipH (i := 11) rfl (by kernel_rfl) (by kernel_rfl) (by kernel_rfl) (fun _ _ _ h => h) (by kernel_rfl) hS ?_
    simp only [Act.put, List.getElem_toArray, List.getElem_cons_zero, List.getElem_cons_succ, List.setIfInBounds_toArray, List.set_cons_zero, List.set_cons_succ]
    refine skipH (i := 12) rfl (by kernel_rfl) (by kernel_rfl) (by kernel_rfl) (fun _ _ _ h => h) (by kernel_rfl) hS ?_
    simp only [Act.put, List.getElem_toArray, List.getElem_cons_zero, List.getElem_cons_succ, List.setIfInBounds_toArray, List.set_cons_zero, List.set_cons_succ]
    refine takeH (i := 13) ((.bool false)) rfl (by kernel_rfl) (by kernel_rfl) (by kernel_rfl) (fun _ _ _ h => h) (by kernel_rfl) hS (fun w' hw' => ?_) ?_
    · obtain ⟨s0, s1, s2, s3⟩ := hw'
      go_simp
      try with_reducible rfl
    simp only [Act.put, List.getElem_toArray, List.getElem_cons_zero, List.getElem_cons_succ, List.setIfInBounds_toArray, List.set_cons_zero, List.set_cons_succ]
    refine takeH (i := 14) ((.bool false)) rfl (by kernel_rfl) (by kernel_rfl) (by kernel_rfl) (fun _ _ _ h => h) (by kernel_rfl) hS (fun w' hw' => ?_) ?_
    · obtain ⟨s0, s1, s2, s3⟩ := hw'
      go_simp
      try with_reducible rfl
    simp only [Act.put, List.getElem_toArray, List.getElem_cons_zero, List.getElem_cons_succ, List.setIfInBounds_toArray, List.set_cons_zero, List.set_cons_succ]
    refine wpAnyH_done (by kernel_rfl) ?_ _
    go_wp2
    go_ret
    exact ⟨by rfl, bD⟩
  · rw [hf] at r1
    have hh := fitM_iff.1 hf
    simp only at hh
    have r2 := sizeS C w.drew (by omega)
    have hn : (decide (C < D) && decide (-C < D)) = decide ((C.natAbs : Int) < D) := by
      by_cases h : (C.natAbs : Int) < D
      · rw [decide_eq_true h, decide_eq_true (show C < D by omega), decide_eq_true (show -C < D by omega)]; rfl
      · rw [decide_eq_false h]
        by_cases h1 : C < D
        · rw [decide_eq_true h1, decide_eq_false (show ¬ -C < D by omega)]; rfl
        · rw [decide_eq_false h1]; rfl
    rw [hn]
    clear hf x hn hh hC hC1
    obtain ⟨n, hn⟩ : ∃ n : Int, (C.natAbs : Int) = n := ⟨_, rfl⟩
    rw [hn] at r2 ⊢
    clear hn
    go_enter Try.func72, Try.ntmps72
    go_wp2
    go_region_held3 (fun w' => w'.cell? ⟨b, 0, none⟩ = some (.int .i64 A) ∧ w'.cell? ⟨b, 1, none⟩ = some (.int .i64 B) ∧ w'.cell? ⟨b, 2, none⟩ = some (.int .i64 C) ∧ w'.cell? ⟨b, 3, none⟩ = some (.int .i64 D)) (first | exact ⟨c0, c1, c2, c3⟩ | go_keep) (first
      | (go_at_call 76; (refine r1.mono ?_); rintro e W1 ⟨rfl, hs⟩; obtain rfl := hs.out; clear hs)
      | (go_at_call 46; (refine r2.mono ?_); rintro e W1 ⟨rfl, hs⟩; obtain rfl := hs.out; clear hs)
      | fail)
    all_goals
      go_wp2
      go_ret
      exact ⟨by simp, bD⟩
set_option maxRecDepth 1000000 in
set_option maxHeartbeats 8000000 in
theorem orderS {w : World} {b1 b2 : Nat} {p q r s : Int} {t : TypeId} (x : Bk w b1 (.int .i64 p) (.int .i64 q) t) (y : Bk w b2 (.int .i64 r) (.int .i64 s) t) (h1 : -4000000 ≤ p ∧ p ≤ 4000000) (h2 : 1 ≤ q ∧ q ≤ 4000000) (h3 : -4000000 ≤ r ∧ r ≤ 4000000) (h4 : 1 ≤ s ∧ s ≤ 4000000) :
    Calls Try.prog 89 #[.pointer (some ⟨b1, 0, none⟩), .pointer (some ⟨b2, 0, none⟩)] w fun y w' => y = .returned (.int .i64 (if p * s < r * q then -1 else if r * q < p * s then 1 else 0)) ∧ Below w.heap.size w w' := by
  have c0 := x.c0
  have c1 := x.c1
  have d0 := y.c0
  have d1 := y.c1
  have bD := ((Below.refl w.heap.size w).drew).drew
  have m1 := mul_bd h1 (show (-4000000 : Int) ≤ s ∧ s ≤ 4000000 by omega)
  have m2 := mul_bd h3 (show (-4000000 : Int) ≤ q ∧ q ≤ 4000000 by omega)
  obtain ⟨u, hu⟩ : ∃ u, p * s = u := ⟨_, rfl⟩
  obtain ⟨v, hv⟩ : ∃ u, r * q = u := ⟨_, rfl⟩
  rw [hu] at m1
  rw [hv] at m2
  have e1 : IntKind.i64.wrap (p * s) = u := by rw [hu, IntKind.wrap_i64]; omega
  have e2 : IntKind.i64.wrap (r * q) = v := by rw [hv, IntKind.wrap_i64]; omega
  rw [hu, hv]
  obtain ⟨z, hz⟩ : ∃ z : Int, (if u < v then -1 else if v < u then 1 else 0) = z := ⟨_, rfl⟩
  rw [hz]
  have Z := Lib.hid (show (u < v → z = -1) ∧ (¬ u < v → v < u → z = 1) ∧ (¬ u < v → ¬ v < u → z = 0) from by rw [← hz]; refine ⟨fun k => by rw [if_pos k], fun k k2 => by rw [if_neg k, if_pos k2], fun k k2 => by rw [if_neg k, if_neg k2]⟩)
  clear hz
  clear hu hv m1 m2 h1 h2 h3 h4 x y
  go_enter Try.func89, Try.ntmps89
  go_wp2
  go_region_held3 (fun w' => (w'.cell? ⟨b1, 0, none⟩ = some (.int .i64 p) ∧ w'.cell? ⟨b1, 1, none⟩ = some (.int .i64 q)) ∧ (w'.cell? ⟨b2, 0, none⟩ = some (.int .i64 r) ∧ w'.cell? ⟨b2, 1, none⟩ = some (.int .i64 s))) (first | exact ⟨⟨c0, c1⟩, d0, d1⟩ | go_keep) (fail)
  all_goals
    go_wp2
    go_region_held3 (fun w' => (w'.cell? ⟨b1, 0, none⟩ = some (.int .i64 p) ∧ w'.cell? ⟨b1, 1, none⟩ = some (.int .i64 q)) ∧ (w'.cell? ⟨b2, 0, none⟩ = some (.int .i64 r) ∧ w'.cell? ⟨b2, 1, none⟩ = some (.int .i64 s))) (first | exact ⟨⟨c0, c1⟩, d0, d1⟩ | go_keep) (fail)
    all_goals
      by_cases k1 : u < v
      · have g1 := decide_eq_true k1
        go_wp2
        go_ret
        exact ⟨by rw [Z.out.1 (by omega)]; rfl, bD⟩
      · have g1 := decide_eq_false k1
        by_cases k2 : v < u
        · have g2 := decide_eq_true k2
          go_wp2
          go_ret
          exact ⟨by rw [Z.out.2.1 (by omega) (by omega)]; rfl, bD⟩
        · have g2 := decide_eq_false k2
          go_wp2
          go_ret
          exact ⟨by rw [Z.out.2.2 (by omega) (by omega)]; rfl, bD⟩
end Go.Proofs.Yteemkophifcimaa.Sx
