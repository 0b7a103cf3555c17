/-
  Nodes that move; the term with the nodes of two.
-/
import Derived.Test.YtnnklfkjnhdadaaN3
namespace Go.Proofs.Ytnnklfkjnhdadaa.Sx
open Go Go.RowKit
set_option linter.unusedVariables false
set_option linter.unusedSimpArgs false

theorem w16_has (x : Int) : -32768 ≤ W16 x ∧ W16 x ≤ 32767 := by
  unfold W16 IntKind.wrap IntKind.bits IntKind.signed
  simp
  omega
theorem w8_has (x : Int) : -128 ≤ W8 x ∧ W8 x ≤ 127 := by
  unfold W8 IntKind.wrap IntKind.bits IntKind.signed
  simp
  omega
theorem W16_id {x : Int} (h : -32768 ≤ x ∧ x ≤ 32767) : W16 x = x := wrap_id h
theorem W8_id {x : Int} (h : -128 ≤ x ∧ x ≤ 127) : W8 x = x := wrap_id h
theorem ops2 (k : Int) : opsOf k = 2 ↔ isTwo k := by
  unfold opsOf
  split
  · rename_i h; exact ⟨fun _ => h, fun _ => rfl⟩
  · rename_i h; refine ⟨fun e => ?_, fun e => absurd e h⟩
    split at e <;> omega
theorem ops1 (k : Int) : 1 ≤ opsOf k ↔ isOne k ∨ isTwo k := by
  unfold opsOf
  split
  · rename_i h; exact ⟨fun _ => .inr h, fun _ => by decide⟩
  · rename_i h
    split
    · rename_i h'; exact ⟨fun _ => .inl h', fun _ => by decide⟩
    · rename_i h'; exact ⟨fun e => by omega, fun e => (e.elim h' h).elim⟩
theorem mvL_congr {f g : Int → Int} {k a b p q : Int} (h1 : 1 ≤ opsOf k → f a = g a) (h2 : opsOf k = 2 → f b = g b) : mvL f k a b p q = mvL g k a b p q := by
  unfold mvL
  by_cases c1 : 1 ≤ opsOf k
  · by_cases c2 : opsOf k = 2
    · rw [if_pos c1, if_pos c1, if_pos c2, if_pos c2, h1 c1, h2 c2]
    · rw [if_pos c1, if_pos c1, if_neg c2, if_neg c2, h1 c1]
  · have c2 : ¬ opsOf k = 2 := fun e => c1 (by omega)
    rw [if_neg c1, if_neg c1, if_neg c2, if_neg c2]
theorem mv2 {f : Int → Int} {k a b p q : Int} (h : opsOf k = 2) : mvL f k a b p q = [k, f a, f b, p, q] := by
  unfold mvL
  rw [if_pos (by omega), if_pos h]
theorem mv1 {f : Int → Int} {k a b p q : Int} (h1 : 1 ≤ opsOf k) (h : ¬ opsOf k = 2) : mvL f k a b p q = [k, f a, b, p, q] := by
  unfold mvL
  rw [if_pos h1, if_neg h]
theorem mv0 {f : Int → Int} {k a b p q : Int} (h1 : ¬ 1 ≤ opsOf k) : mvL f k a b p q = [k, a, b, p, q] := by
  unfold mvL
  rw [if_neg h1, if_neg (by omega)]
theorem mov_has {k a b p q : Int} {ix : List Int} (hx : allHas iv18 [k, a, b, p, q]) : allHas iv18 (movF [k, a, b, p, q] [ix]) := by
  obtain ⟨h1, h2, h3, h4, h5, _⟩ := hx
  show allHas iv18 (mvL (fun x => W16 (ix.getD x.toNat 0)) k a b p q)
  unfold mvL
  refine ⟨h1, ?_, ?_, h4, h5, trivial⟩
  · split
    · exact w16_has _
    · exact h2
  · split
    · exact w16_has _
    · exact h3
theorem cMoved : CN 18 s18 := by
  refine k18 tbN noI noM prN ⟨rfl, rfl, trivial⟩ ⟨fun _ _ _ => trivial, fun _ _ _ => trivial, trivial⟩ rfl ⟨cOne, cTwo, trivial⟩ trivial (fun _ _ h _ => h) fun k a b p q ix hx hl hp => ?_
  obtain ⟨p1, p2⟩ : (1 ≤ opsOf k → 0 ≤ a ∧ a < (ix.length : Int)) ∧ (opsOf k = 2 → 0 ≤ b ∧ b < (ix.length : Int)) := hp
  simp only [p18, oneE, twoE, forall_eq, decide_eq_true_eq, decide_eq_false_iff_not, Bool.not_eq_true', Bool.not_eq_false', Int.zero_add, b01_one]
  rw [show tbN.app 18 [k, a, b, p, q] [ix] = mvL (fun x => W16 (ix.getD x.toNat 0)) k a b p q from rfl]
  rw [ops1] at p1
  rw [ops2] at p2
  have t1 : isTwo k → ¬ isOne k := fun h h' => by omega
  refine ⟨fun h1 => ⟨fun h2 => ⟨p1 (.inr h2), fun _ => ⟨(p1 (.inr h2)).2, fun _ => ⟨fun _ => ⟨p2 h2, fun _ => ⟨(p2 h2).2, fun _ => ?_⟩⟩, fun h => absurd h2 h⟩⟩⟩, fun h2 => ⟨fun h => absurd h h2, fun _ => ?_⟩⟩,
    fun h1 => ⟨p1 (.inl h1), fun _ => ⟨(p1 (.inl h1)).2, fun _ => ⟨fun h2 => absurd h1 (t1 h2), fun h2 => ?_⟩⟩⟩⟩
  · rw [mv2 ((ops2 k).2 h2)]
  · rw [mv0 fun e => ((ops1 k).1 e).elim h1 h2]
  · rw [mv1 ((ops1 k).2 (.inl h1)) fun e => h2 ((ops2 k).1 e)]
theorem cMovedTo : CN 20 s20 := by
  refine k20 tbN noI noM prN ⟨rfl, trivial⟩ ⟨fun _ _ _ => trivial, trivial⟩ rfl ⟨cOps, trivial⟩ trivial (fun _ _ h _ => h) fun k a b p q ix hx hl hp => ?_
  obtain ⟨p1, p2⟩ : (1 ≤ opsOf k → 0 ≤ a ∧ a < (ix.length : Int)) ∧ (opsOf k = 2 → 0 ≤ b ∧ b < (ix.length : Int)) := hp
  simp only [p20, opsE, forall_eq, decide_eq_true_eq, decide_eq_false_iff_not, Bool.not_eq_true', Bool.not_eq_false', Int.zero_add]
  rw [show tbN.app 20 [k, a, b, p, q] [ix] = mvL (fun x => W16 (ix.getD x.toNat 0)) k a b p q from rfl]
  refine ⟨fun h1 => ⟨p1 h1, fun _ => ⟨(p1 h1).2, fun _ => ⟨fun h2 => ⟨p2 h2, fun _ => ⟨(p2 h2).2, fun _ => ?_⟩⟩, fun h2 => ?_⟩⟩⟩, fun h1 => ?_⟩
  · rw [mv2 h2]
  · rw [mv1 h1 h2]
  · rw [mv0 h1]
theorem cClone : CTL Try.prog tbN.fns (presQ prN) 19 s19 := by
  refine k19 tbN noI noM prN trivial trivial trivial trivial (fun _ _ h _ => h) fun l hx hl hp => ?_
  obtain ⟨h1, h2⟩ : 0 < (l.length : Int) ∧ (l.length : Int) ≤ 1099511627776 := hp
  have hres : tbN.fns 19 [] [l] = cloneF [] [l] := Tab.fns_ll rfl rfl _ _
  simp only [p19, decide_eq_true_eq]
  rw [hres]
  exact ⟨h1, fun _ => ⟨⟨h1, h2⟩, fun _ => ⟨⟨trivial, h2⟩, fun _ => rfl⟩⟩⟩
theorem clT {v : Int} {l m : List Int} (h : ([v], [m]) = tbN.fns 19 [] [l]) : m = l := by
  have hres : tbN.fns 19 [] [l] = cloneF [] [l] := Tab.fns_ll rfl rfl _ _
  rw [hres] at h
  simp only [cloneF, Prod.mk.injEq, List.cons.injEq, and_true] at h
  exact h.2

/-! ### Places -/
def ixL (d : Int) (n : Nat) : List Int := (List.range n).map fun j : Nat => d + (j : Int)
theorem ixL_len (d : Int) (n : Nat) : (ixL d n).length = n := by simp [ixL]
theorem ixL_succ (d : Int) (n : Nat) : ixL d (n + 1) = ixL d n ++ [d + (n : Int)] := by simp [ixL, List.range_succ]
theorem ixL_get (d : Int) {n j : Nat} (h : j < n) : (ixL d n).getD j 0 = d + (j : Int) := by
  rw [List.getD_eq_getElem?_getD]
  simp [ixL, h]
theorem nodeAt_len (d : Int) (u : List Int) (n : Nat) : (nodeAt d u n).length = 5 := rfl
theorem joinL_len (d : Int) (u : List Int) : ∀ n, (joinL d u n).length = 5 * n
  | 0 => rfl
  | n + 1 => by rw [joinL, List.length_append, joinL_len d u n, nodeAt_len]; omega
theorem getD_i64 {u : List Int} (h : ∀ x ∈ u, (kindsIv ndK).has x) (n : Nat) : I64 (u.getD n 0) := by
  rw [List.getD_eq_getElem?_getD]
  cases e : u[n]? with
  | none => exact ⟨by decide, by decide⟩
  | some x => exact h x (List.mem_of_getElem? e)
/-- A node's places. -/
theorem ok_pl {u : List Int} {n : Nat} (h : okAt u n) : (1 ≤ opsOf (W8 (u.getD (n * 5) 0)) → 0 ≤ W16 (u.getD (n * 5 + 1) 0) ∧ W16 (u.getD (n * 5 + 1) 0) < n) ∧ (opsOf (W8 (u.getD (n * 5) 0)) = 2 → 0 ≤ W16 (u.getD (n * 5 + 2) 0) ∧ W16 (u.getD (n * 5 + 2) 0) < n) := by
  obtain ⟨_, h1, h2, _⟩ := h
  exact ⟨fun e => ⟨(h1 ((ops1 _).1 e)).1, (h1 ((ops1 _).1 e)).2.1⟩, fun e => h2 ((ops2 _).1 e)⟩
theorem pre_mv {u ix : List Int} {n : Nat} (h : okAt u n) (hn : n ≤ ix.length) : preMv [W8 (u.getD (n * 5) 0), W16 (u.getD (n * 5 + 1) 0), W16 (u.getD (n * 5 + 2) 0), u.getD (n * 5 + 3) 0, u.getD (n * 5 + 4) 0] [ix] := by
  obtain ⟨h1, h2⟩ := ok_pl h
  exact ⟨fun e => ⟨(h1 e).1, by have := (h1 e).2; omega⟩, fun e => ⟨(h2 e).1, by have := (h2 e).2; omega⟩⟩
theorem in_has {u : List Int} (hu : ∀ x ∈ u, (kindsIv ndK).has x) (n : Nat) : allHas iv18 [W8 (u.getD (n * 5) 0), W16 (u.getD (n * 5 + 1) 0), W16 (u.getD (n * 5 + 2) 0), u.getD (n * 5 + 3) 0, u.getD (n * 5 + 4) 0] :=
  ⟨w8_has _, w16_has _, w16_has _, getD_i64 hu _, getD_i64 hu _, trivial⟩
theorem mov_node {d : Int} {u ix : List Int} {n : Nat} (h : okAt u n) (hix : ∀ j : Nat, j < n → ix.getD j 0 = d + (j : Int)) (hd : 0 ≤ d ∧ d + n ≤ 32767) :
    movF [W8 (u.getD (n * 5) 0), W16 (u.getD (n * 5 + 1) 0), W16 (u.getD (n * 5 + 2) 0), u.getD (n * 5 + 3) 0, u.getD (n * 5 + 4) 0] [ix] = nodeAt d u n := by
  obtain ⟨h1, h2⟩ := ok_pl h
  have key : ∀ x : Int, 0 ≤ x ∧ x < n → W16 (ix.getD x.toNat 0) = d + x := fun x hx => by
    rw [hix x.toNat (by omega), W16_id (by omega)]
    omega
  exact mvL_congr (f := fun x => W16 (ix.getD x.toNat 0)) (g := fun x => d + x) (fun e => key _ (h1 e)) (fun e => key _ (h2 e))
theorem movT {g : Nat} {xs : List Int} {ix : List Int} {v9 v10 v11 v12 v13 : Int} (hg : tbN.sig g = some s18) (hf : tbN.fl g = some movF) (hy : [v9, v10, v11, v12, v13] = tbN.outL g 5 xs [ix]) (hx : allHas iv18 (movF xs [ix])) : [v9, v10, v11, v12, v13] = movF xs [ix] :=
  outP (F := movF) (s := s18) hg hf rfl hy hx
end Go.Proofs.Ytnnklfkjnhdadaa.Sx
