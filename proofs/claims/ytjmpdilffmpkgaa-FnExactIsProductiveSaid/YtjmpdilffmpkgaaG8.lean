/-
  Whether a tree is productive, by the code.
-/
import Derived.Test.YtjmpdilffmpkgaaG7
namespace Go.Proofs.Ytjmpdilffmpkgaa.Sx
open Go Go.RowKit
set_option linter.unusedVariables false
set_option linter.unusedSimpArgs false

def gB (n : Nat) (g : Nat → Bool) : Array Value := ((List.range n).map fun j => Value.bool (g j)).toArray
theorem gB_size (n : Nat) (g : Nat → Bool) : (gB n g).size = n := by simp [gB]
theorem gB_at {n j : Nat} {g : Nat → Bool} (h : j < n) : (gB n g)[j]? = some (.bool (g j)) := by
  unfold gB
  rw [List.getElem?_toArray, List.getElem?_map, List.getElem?_range h]
  rfl
theorem gB_set {n i : Nat} {g g' : Nat → Bool} {b : Bool} (h : i < n) (h1 : g' i = b) (h2 : ∀ j, j ≠ i → g' j = g j) : (gB n g).setIfInBounds i (.bool b) = gB n g' := by
  apply Array.ext_getElem?
  intro j
  rw [Array.getElem?_setIfInBounds]
  by_cases e : i = j
  · subst e
    rw [if_pos rfl, if_pos (by rw [gB_size]; exact h), gB_at h, h1]
  · rw [if_neg e]
    rcases Nat.lt_or_ge j n with hj | hj
    · rw [gB_at hj, gB_at hj, h2 j (fun x => e x.symm)]
    · rw [Array.getElem?_eq_none (by rw [gB_size]; exact hj), Array.getElem?_eq_none (by rw [gB_size]; exact hj)]
/-- The nodes in a row that a tree found. -/
theorem rcT_ok {T : List Fk} {N : Nat} (hT : trB T = true) (hN : N = (rch T N).length) (h1 : 1 ≤ N) (hNn : N ≤ T.length) (hq : ∀ i, i < N → i < (rch T i).length) : trB (rcT T (rch T N) N) = true := by
  have hw : ∀ i, i < N → ∀ y ∈ waysF (fkAt T ((rch T N).getD i 0)), (rch T N).idxOf y < N := fun i hi y hy => by
    have hp : rch T i <+: rch T N := rch_mono hT (Nat.le_of_lt hi) hq
    have hg := pre_get hp (hq i hi)
    rw [hg] at hy
    have h2 := (rch_pre hT i (hq i hi)).2 y hy
    have hp2 : rch T (i + 1) <+: rch T N := rch_mono hT hi hq
    have := idx_lt (hp2.subset h2)
    omega
  have hn := (trB_iff.1 hT).1
  rw [trB_iff, rcT_len]
  refine ⟨⟨h1, by omega⟩, fun f hf => ?_⟩
  obtain ⟨i, hi⟩ := List.getElem?_of_mem hf
  have hiN : i < N := by
    have := (List.getElem?_eq_some_iff.1 hi).1
    rwa [rcT_len] at this
  rw [rcT_at hiN] at hi
  obtain rfl := (Option.some.inj hi).symm
  have hlt : (rch T N).getD i 0 < T.length := rch_lt hT (by omega)
  have hk := fkB_iff.1 ((trB_iff.1 hT).2 _ (List.mem_of_getElem? (fkAt_get hlt)))
  have hw := hw i hiN
  obtain ⟨⟨K, D, P, Q, R⟩, hff⟩ : ∃ f, fkAt T ((rch T N).getD i 0) = f := ⟨_, rfl⟩
  rw [hff] at hk hw ⊢
  simp only at hk
  rw [fkB_iff]
  unfold reF
  unfold waysF at hw
  simp only at hw ⊢
  split
  · rename_i h
    rw [if_pos h] at hw
    have w0 := hw P.toNat (by simp)
    refine ⟨⟨by simp only; omega, by simp only; omega⟩, ⟨by simp, by simp only; omega⟩, ⟨by simp, by simp only; omega⟩, .inr ⟨rfl, ?_, rfl, rfl⟩⟩
    rcases hk.2.2.2 with h9 | h9
    · omega
    · exact h9.2.1
  · rename_i h
    rw [if_neg h] at hw
    have w0 := hw P.toNat (by simp)
    have w1 := hw Q.toNat (by simp)
    have w2 := hw R.toNat (by simp)
    exact ⟨⟨by simp only; omega, by simp only; omega⟩, ⟨by simp only; omega, by simp only; omega⟩, ⟨by simp only; omega, by simp only; omega⟩, .inl ⟨rfl, rfl⟩⟩
/-- Whether a row of truths holds a false one. -/
def allB (n : Nat) (g : Nat → Bool) : Bool := (List.range n).all g
set_option maxRecDepth 1000000 in
set_option maxHeartbeats 8000000 in
theorem containsI {w : World} {b n : Nat} {g : Nat → Bool} (h : w.heap[b]? = some (.cells (gB n g) 4 (0, 0))) (hn : n ≤ 60) : Calls Try.prog 54 #[.slice (some ⟨b, 0, none⟩) n n, .bool false] w fun e w' => e = .returned (.bool (!allB n g)) ∧ Same w w' := by
  have hlB : ∀ (s : Option Addr) (n k : Nat) (W : World), (Builtin.len_ #[75] 3 #[.slice s n k]).run Try.prog W = .ok (.int .i64 n) W := fun s n k W => rfl
  have ix : Calls Try.prog 68 #[.slice (some ⟨b, 0, none⟩) n n, .bool false] w fun e w' => (∃ z : Int, e = .returned (.int .i64 z) ∧ (decide (0 ≤ z) = !allB n g)) ∧ Same w w' := by
    have HH := Lib.hid h
    clear h
    go_enter Try.func68, Try.ntmps68
    go_wp2
    go_loopw [8] (fun iv wr => ∃ i : Nat, i ≤ n ∧ iv = .int .i64 i ∧ w = wr ∧ Hid (∀ j, j < i → g j = true)) (fun iv _ => n - (RowKit.intOf iv).toNat)
    case atStart => exact ⟨0, Nat.zero_le _, rfl, rfl, fun j hj => absurd hj (Nat.not_lt_zero _)⟩
    case round =>
      obtain ⟨i, hi, rfl, rfl, hj⟩ := hrel
      have HJ := Lib.hid hj
      clear hj
      by_cases hlt : i < n
      · have gi : (i : Int) < n := by omega
        obtain ⟨x, hx⟩ : ∃ x, g i = x := ⟨_, rfl⟩
        have c0 : w.cell? ⟨b, i, none⟩ = some (.bool x) := by rw [Lib.cell_of_heap HH.out, gB_at hlt, hx]
        have HX := Lib.hid hx
        clear hx
        cases x
        · have hb : allB n g = false := by
            rw [← Bool.not_eq_true]
            unfold allB
            rw [List.all_eq_true]
            intro e
            have := e i (List.mem_range.2 hlt)
            rw [HX.out] at this
            cases this
          have HB := Lib.hid hb
          clear hb
          go_wp2
          go_ret
          exact ⟨⟨_, rfl, by rw [HB.out]; simp⟩, rfl⟩
        · have HN : Hid (∀ j, j < i + 1 → g j = true) := Lib.hid (fun j hj => if hh : j < i then HJ.out j hh else by rw [show j = i by omega]; exact HX.out)
          go_wp2
          exact ⟨⟨i + 1, by omega, rfl, trivial, HN⟩, by simp [RowKit.intOf]; omega⟩
      · obtain rfl : i = n := by omega
        have gi : ¬ (i : Int) < i := by omega
        have hb : allB i g = true := by
          unfold allB
          rw [List.all_eq_true]
          intro j hj
          exact HJ.out j (List.mem_range.1 hj)
        have HB := Lib.hid hb
        clear hb
        go_wp2
        go_ret
        exact ⟨⟨_, rfl, by rw [HB.out]; decide⟩, rfl⟩
  clear h
  go_enter Try.func54, Try.ntmps54
  go_wp2_with (go_at_call 68; refine ix.mono ?_)
  rintro e W2 ⟨⟨z, rfl, hz⟩, hs⟩
  rw [hs.out]
  clear hs ix
  try dsimp only
  by_cases h0 : 0 ≤ z
  · rw [decide_eq_true h0] at hz
    have HZ := Lib.hid hz
    clear hz
    go_wp2
    go_ret
    exact ⟨by rw [← HZ.out]; rfl, rfl⟩
  · rw [decide_eq_false h0] at hz
    have HZ := Lib.hid hz
    clear hz
    go_wp2
    go_ret
    exact ⟨by rw [← HZ.out]; rfl, rfl⟩
end Go.Proofs.Ytjmpdilffmpkgaa.Sx
