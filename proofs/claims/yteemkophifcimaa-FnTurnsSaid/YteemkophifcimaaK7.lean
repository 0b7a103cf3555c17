/-
  The turns of a machine, by the model.
-/
import Derived.Test.YteemkophifcimaaK6
import Derived.WalkSpells
namespace Go.Proofs.Yteemkophifcimaa.Sx
open Go Go.RowKit
set_option linter.unusedVariables false
set_option linter.unusedSimpArgs false

/-- What a function from a machine, a stream and a number to turns and a code does. -/
def DoesT (g : Nat) (A B C D : Int) (a b : List Int) (n : Int) (xs : List Value) (L : Nat) (c : Int) : Prop := ∀ (w : World) (v0 v1 : Value), IsL .i8 w a v0 → IsL .i8 w b v1 → (∀ q, v0.ownBlock = some q → q < w.heap.size) → (∀ q, v1.ownBlock = some q → q < w.heap.size) → Calls Try.prog g #[.agg #[.int .i64 A, .int .i64 B, .int .i64 C, .int .i64 D], .agg #[v0, v1], .int .i64 n] w fun e w' => GaveR w w' xs L c e
theorem GaveR.mono {w W w' : World} {xs : List Value} {n : Nat} {c : Int} {e : Ending} (h : GaveR W w' xs n c e) (hB : Below w.heap.size w W) : GaveR w w' xs n c e := by
  obtain ⟨⟨s, k, rfl, h1⟩, h2⟩ := h
  refine ⟨⟨s, k, rfl, ?_⟩, hB.trans (h2.mono hB.size)⟩
  obtain ⟨h1, h2 | ⟨g, cap, cur, h2, h3, h4, h5⟩⟩ := h1
  · exact ⟨h1, .inl h2⟩
  · exact ⟨h1, .inr ⟨g, cap, cur, h2, Nat.le_trans hB.size h3, h4, h5⟩⟩
theorem dgs1 {a b : List Int} (h : vsB a b = true) (n : Nat) : -1 ≤ dg a b n ∧ dg a b n ≤ 1 := by
  have h1 := (vsB_iff a b).1 h
  rw [dg_spec]
  split
  · exact (dgB_iff a).1 h1.2.2.2.1 _ (getD_mem (by assumption))
  · exact (dgB_iff b).1 h1.2.2.2.2 _ (getD_mem (Nat.mod_lt _ (by have := h1.2.1; omega)))
theorem askC_ok {A B C D : Int} {a b : List Int} {n : Int} (h : askC A B C D a b n = 0) : vmB A B C D = true ∧ vsB a b = true ∧ (0 ≤ n ∧ n ≤ 60) ∧ liesB ⟨A, B, C, D⟩ (-2) 2 = true := by
  unfold askC at h
  split at h
  · cases h
  · rename_i h1
    split at h
    · cases h
    · rename_i h2
      split at h
      · cases h
      · rename_i h3
        have h1 : vmB A B C D = true ∧ vsB a b = true := by simpa using h1
        exact ⟨h1.1, h1.2, Decidable.not_not.1 h2, by simpa using h3⟩
set_option maxRecDepth 1000000 in
set_option maxHeartbeats 8000000 in
theorem turnsS_no (A B C D n : Int) (a b : List Int) (z : Int) (hz : askC A B C D a b n = z) (h0 : z ≠ 0) (hC : -9223372036854775808 ≤ C ∧ C ≤ 9223372036854775807) (la : a.length ≤ 9223372036854775807) (lb : b.length ≤ 9223372036854775807) : DoesT 21 A B C D a b n [] 0 z := by
  intro w v0 v1 i0 i1 _ _
  obtain ⟨W, hW, hB, x⟩ := boxM w A B C D
  obtain ⟨V, hV, hB2, y⟩ := boxK W v0 v1 26
  have x := x.keep hB2
  have bV := hB.trans (hB2.mono hB.size)
  have h : Here V W.heap.size a b v0 v1 := ⟨y, i0.keep bV, i1.keep bV⟩
  have ask := askedS (n := n) x h hC la lb
  rw [hz] at ask
  have zb : (z == 0) = false := by rw [beq_eq_false_iff_ne]; exact h0
  clear hz x y h i0 i1 hB hB2 la lb hC
  go_enter Try.func21, Try.ntmps21
  go_wp2_with (go_at_call 51; refine ask.mono ?_)
  first | (rintro e W1 ⟨rfl, b1⟩; have zz := b1.size) | (rintro e W1 rfl b1; have zz := b1.size)
  try dsimp only
  have bW := Lib.hid (bV.trans (b1.mono bV.size))
  clear ask zz
  go_wp2
  refine bodyPost_ret (v := .tuple #[.slice (some ⟨W1.heap.size, 0, none⟩) 0 0, .int .i64 z]) (by simp [results, Try.results21, go_sem]) rfl ?_
  exact ⟨⟨_, _, rfl, World.ownsRow_made W1 #[] 0 bW.out.size (by decide) rfl⟩, bW.out.alloc bW.out.size _⟩
set_option maxRecDepth 1000000 in
set_option maxHeartbeats 8000000 in
theorem turnsS_yes (A B C D n : Int) (a b : List Int) (hz : askC A B C D a b n = 0) (J L : Nat) (c : Int) (hSt : ∀ i, i < J → OkAt a b ⟨A, B, C, D⟩ n.toNat i) (hJ : J ≤ n.toNat + 400) (hE : EndM a b ⟨A, B, C, D⟩ n.toNat J L c) : DoesT 21 A B C D a b n (trL a b ⟨A, B, C, D⟩ L) L c := by
  intro w v0 v1 i0 i1 _ _
  obtain ⟨q1, q2, q3, q4⟩ := askC_ok hz
  obtain ⟨⟨o0, o1, o2, o3⟩, hp⟩ := vmB_ok q1
  have hv := (vsB_iff a b).1 q2
  have hd : ∀ k, -1 ≤ dg a b k ∧ dg a b k ≤ 1 := dgs1 q2
  obtain ⟨m, rfl⟩ : ∃ m : Nat, n = m := ⟨n.toNat, by omega⟩
  simp only [Int.toNat_natCast] at hSt hJ hE
  obtain ⟨W, hW, hB, x⟩ := boxM w A B C D
  obtain ⟨V, hV, hB2, y⟩ := boxK W v0 v1 26
  have x := x.keep hB2
  have bV := hB.trans (hB2.mono hB.size)
  have h : Here V W.heap.size a b v0 v1 := ⟨y, i0.keep bV, i1.keep bV⟩
  have ask := askedS (n := m) x h (by omega) (by omega) (by omega)
  rw [hz] at ask
  have RN := Lib.hid fun W' (hb : Below V.heap.size V W') => runS (x.keep hb) (h.keep hb) hp o0 o1 o2 o3 hv.1 ⟨hv.2.1, hv.2.2.1⟩ hd (by omega) hSt hJ hE
  clear hz x y h i0 i1 hB hB2 hSt hJ hE q1 q2 q3 q4 o0 o1 o2 o3 hp hv hd
  go_enter Try.func21, Try.ntmps21
  go_wp2_with (go_at_call 51; refine ask.mono ?_)
  first | (rintro e W1 ⟨rfl, b1⟩; have zz := b1.size) | (rintro e W1 rfl b1; have zz := b1.size)
  try dsimp only
  have rn := RN.out _ b1
  have bW := Lib.hid (bV.trans (b1.mono bV.size))
  clear ask zz RN
  go_wp2_with (go_at_call 52; refine rn.mono ?_)
  rintro e W2 hg
  have hg := hg.mono bW.out
  obtain ⟨⟨s, k, rfl, hr⟩, b2⟩ := hg
  have HR := Lib.hid hr
  clear hr rn
  go_wp2
  refine bodyPost_ret (v := .tuple #[.slice s L k, .int .i64 c]) (by simp [results, Try.results21, go_sem]) rfl ?_
  exact ⟨⟨_, _, rfl, HR.out⟩, b2⟩
end Go.Proofs.Yteemkophifcimaa.Sx
