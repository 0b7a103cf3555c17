/-
  The model of the opposite stream.
-/
import Derived.Test.YteemkophifcimaaN1
import Derived.Test.YteemkophifcimaaL1
namespace Go.Proofs.Yteemkophifcimaa.Sx
open Go Go.RowKit
set_option linter.unusedVariables false
set_option linter.unusedSimpArgs false

set_option maxRecDepth 100000 in
theorem neg_none (w : World) : Calls Try.prog 40 #[.slice none 0 0] w fun e w' => ∃ v, e = .returned v ∧ Below w.heap.size w w' ∧ OwnL .i8 w.heap.size w' (negL []) v := by
  have hlB : ∀ W : World, (Builtin.len_ #[22] 3 #[.slice none 0 0]).run Try.prog W = .ok (.int .i64 0) W := fun W => rfl
  have hB : Below w.heap.size w (w.alloc (.cells #[] 58)) := (Below.refl _ _).alloc (Nat.le_refl _) _
  have hb : (w.alloc (.cells #[] 58)).heap[w.heap.size]? = some (.cells #[] 58 (0, 0)) := by show (w.heap.push _)[w.heap.size]? = _; simp
  have HB := Lib.hid hb
  clear hb
  go_enter Try.func40, Try.ntmps40
  go_wp2
  go_loop [3, 4] (fun v i => v = .slice (some ⟨w.heap.size, 0, none⟩) 0 0 ∧ i = .int .i64 0) (fun _ i => 0)
  case atStart => exact ⟨rfl, rfl⟩
  case round =>
    obtain ⟨rfl, rfl⟩ := hrel
    go_wp2
    go_ret
    exact ⟨_, rfl, hB, .inr ⟨w.heap.size, 0, 0, _, _, rfl, Nat.le_refl _, HB.out, Nat.le_refl _, Nat.le_refl _, fun i x h => by simp [negL] at h⟩⟩
/-- A new list is returned. -/
structure Newl (w w' : World) (l : List Int) (e : Ending) : Prop where
  mk ::
  here : ∃ s c, e = .returned (.slice s l.length c) ∧ OwnL .i8 w.heap.size w' l (.slice s l.length c)
  below : Below w.heap.size w w'
theorem neg {w : World} {l : List Int} {v : Value} (h : IsL .i8 w l v) (hlen : l.length ≤ 1099511627776) (hd : ∀ x ∈ l, -1 ≤ x ∧ x ≤ 1) :
    Calls Try.prog 40 #[v] w fun e w' => Newl w w' (negL l) e := by
  have : Calls Try.prog 40 #[v] w fun e w' => ∃ v, e = .returned v ∧ Below w.heap.size w w' ∧ OwnL .i8 w.heap.size w' (negL l) v := by
    rcases h with ⟨rfl, rfl⟩ | ⟨b, o, c, rfl, h2, h3⟩
    · exact neg_none w
    · exact neg_some b o c l w hlen hd h3
  refine this.mono ?_
  rintro e w' ⟨v, rfl, hB, ho⟩
  obtain ⟨s, c, rfl⟩ := ho.form
  exact ⟨⟨_, _, rfl, ho⟩, hB⟩
/-- The box and the place of the result. -/
theorem twoBoxes (w : World) (v0 v1 : Value) : ∃ W V, w.alloc (.cells #[v0, v1] 26) = W ∧ W.alloc (.cells #[.slice none 0 0, .slice none 0 0] 26) = V ∧ Below w.heap.size w V ∧ Bk V w.heap.size v0 v1 26 ∧ Bk V W.heap.size (.slice none 0 0) (.slice none 0 0) 26 ∧ W.heap.size < V.heap.size ∧ w.heap.size < W.heap.size ∧ Below w.heap.size w W ∧ Bk W w.heap.size v0 v1 26 := by
  obtain ⟨W, hW, hB, x⟩ := boxK w v0 v1 26
  obtain ⟨V, hV, hB2, x2⟩ := boxK W (.slice none 0 0) (.slice none 0 0) 26
  exact ⟨W, V, hW, hV, hB.trans (hB2.mono hB.size), x.keep hB2, x2, x2.lt, x.lt, hB, x⟩
theorem Bk.f {w : World} {b : Nat} {v0 v1 : Value} {t : TypeId} (h : Bk w b v0 v1 t) (o : Nat) : w.frozen? ⟨b, o, none⟩ = false := Lib.frozen_of_heap (show w.heap[b]? = _ from h) _
/-- What is stored into the result's place. -/
theorem stored {w : World} {b : Nat} {x y : Value} {t : TypeId} (h : Bk w b x y t) (u v : Value) : ∃ W, (w.setCell ⟨b, 0, none⟩ u).setCell ⟨b, 1, none⟩ v = W ∧ W.cell? ⟨b, 0, none⟩ = some u ∧ W.cell? ⟨b, 1, none⟩ = some v ∧ (∀ k, k ≠ b → W.heap[k]? = w.heap[k]?) ∧ ∀ n, n ≤ b → Below n w W := by
  obtain ⟨⟨W8, hW8, g8, r8, z8, B8⟩, _⟩ := setc (show w.heap[b]? = _ from h) u
  obtain ⟨_, ⟨W9, hW9, g9, r9, z9, B9⟩⟩ := setc g8 v
  refine ⟨W9, by rw [hW8, hW9], ?_, ?_, fun k hk => (r9 k hk).trans (r8 k hk), fun n hn => (B8 n hn).trans (B9 n hn)⟩
  · rw [Lib.cell_of_heap g9]; rfl
  · rw [Lib.cell_of_heap g9]; rfl
set_option maxRecDepth 1000000 in
set_option maxHeartbeats 4000000 in
theorem negS_yes (a b : List Int) (hv : vsB a b = true) : Does 10 a b (negL a) (negL b) 0 := by
  intro w v0 v1 h0 h1 _ _
  have hvv := (vsB_iff a b).1 hv
  obtain ⟨s0, k0, rfl⟩ := h0.form
  obtain ⟨s1, k1, rfl⟩ := h1.form
  obtain ⟨W, V, hW, hV, hB, x, y, zV, zW, _, _⟩ := twoBoxes w (.slice s0 a.length k0) (.slice s1 b.length k1)
  have i0 := h0.keep hB
  have i1 := h1.keep hB
  have ok := okS x i0 i1 (by omega) (by omega)
  rw [hv] at ok
  have KX : ∀ W', Below V.heap.size V W' → W'.cell? ⟨w.heap.size, 0, none⟩ = some (.slice s0 a.length k0) ∧ W'.cell? ⟨w.heap.size, 1, none⟩ = some (.slice s1 b.length k1) ∧ W'.cell? ⟨W.heap.size, 0, none⟩ = some (.slice none 0 0) ∧ W'.cell? ⟨W.heap.size, 1, none⟩ = some (.slice none 0 0) ∧ W'.frozen? ⟨W.heap.size, 0, none⟩ = false ∧ W'.frozen? ⟨W.heap.size, 1, none⟩ = false :=
    fun W' h => ⟨(x.keep h).c0, (x.keep h).c1, (y.keep h).c0, (y.keep h).c1, (y.keep h).f _, (y.keep h).f _⟩
  have KK := Lib.hid KX
  have NA := Lib.hid (fun W' (h : Below V.heap.size V W') => neg (i0.keep h) (by omega) ((dgB_iff a).1 hvv.2.2.2.1))
  have NB := Lib.hid (fun W' (h : Below V.heap.size V W') => neg (i1.keep h) (by omega) ((dgB_iff b).1 hvv.2.2.2.2))
  have Y := Lib.hid y
  have bD : Below V.heap.size V V.drew := (Below.refl _ _).drew
  obtain ⟨p0, p1, q0, q1, f0, f1⟩ := KX _ bD
  clear KX hv hvv h0 h1 x y
  go_enter Try.func10, Try.ntmps10
  go_wp2_with (go_at_call 39; refine ok.mono ?_)
  first | (rintro e W1 rfl hs) | (rintro e W1 ⟨rfl, hs⟩)
  obtain rfl := hs.out
  clear hs ok
  go_wp2
  go_region_with (first
    | (go_at_call_of 40 (Value.slice s0 a.length k0); refine (NA.out _ bD).mono ?_; rintro e W2 ⟨⟨ts0, tc0, rfl, oA⟩, bA⟩; have bA := bD.trans (bA.mono bD.size); obtain ⟨l0, l1, m0, m1, n0, n1⟩ := KK.out _ bA)
    | (go_at_call_of 40 (Value.slice s1 b.length k1); refine (NB.out _ bA).mono ?_; rintro e W3 ⟨⟨ts1, tc1, rfl, oB⟩, bB⟩; have pAB := oA.apart oB (Nat.le_refl _); have oA := oA.keep bB; have bB' := bA.trans (bB.mono bA.size); obtain ⟨r0, r1, r2, r3, r4, r5⟩ := KK.out _ bB'))
  all_goals
    go_wp2
    obtain ⟨W9, hW9, e0, e1, r9, B9⟩ := stored (Y.out.keep bB') (.slice ts0 (negL a).length tc0) (.slice ts1 (negL b).length tc1)
    rw [hW9]
    refine bodyPost_ret (v := .tuple #[.agg #[.slice ts0 (negL a).length tc0, .slice ts1 (negL b).length tc1], .int .i64 0]) (by simp [results, Try.results10, go_sem, e0, e1]) rfl ?_
    have z1 : W1.heap.size ≤ W2.heap.size := bA.size
    exact ⟨⟨_, _, _, _, rfl, (oA.rest (show W.heap.size < W1.heap.size from zV) r9).mono hB.size, (oB.rest (by omega) r9).mono (by have := hB.size; omega), pAB⟩, (hB.trans (bB'.mono hB.size)).trans (B9 _ (by omega))⟩
set_option maxRecDepth 1000000 in
set_option maxHeartbeats 4000000 in
theorem negS_no (a b : List Int) (hv : vsB a b = false) (la : a.length ≤ 9223372036854775807) (lb : b.length ≤ 9223372036854775807) : Does 10 a b [] [] 1 := by
  intro w v0 v1 h0 h1 _ _
  obtain ⟨s0, k0, rfl⟩ := h0.form
  obtain ⟨s1, k1, rfl⟩ := h1.form
  obtain ⟨W, V, hW, hV, hB, x, y, zV, zW, _, _⟩ := twoBoxes w (.slice s0 a.length k0) (.slice s1 b.length k1)
  have ok := okS x (h0.keep hB) (h1.keep hB) la lb
  rw [hv] at ok
  have q0 := y.c0
  have q1 := y.c1
  have f0 := y.f 0
  have f1 := y.f 1
  have Y := Lib.hid y
  clear hv h0 h1 x y
  go_enter Try.func10, Try.ntmps10
  go_wp2_with (go_at_call 39; refine ok.mono ?_)
  first | (rintro e W1 rfl hs) | (rintro e W1 ⟨rfl, hs⟩)
  obtain rfl := hs.out
  clear hs ok
  go_wp2
  obtain ⟨W9, hW9, e0, e1, r9, B9⟩ := stored Y.out (.slice none 0 0) (.slice none 0 0)
  rw [hW9]
  refine bodyPost_ret (v := .tuple #[.agg #[.slice none 0 0, .slice none 0 0], .int .i64 1]) (by simp [results, Try.results10, go_sem, e0, e1]) rfl ?_
  exact ⟨⟨_, _, _, _, rfl, OwnL.nil, OwnL.nil, fun _ _ _ _ _ _ _ _ h => by cases h⟩, hB.trans (B9 _ (by omega))⟩
end Go.Proofs.Yteemkophifcimaa.Sx
