/-
  append([]T{}, x...) in a region that draws: a fresh copy. No program is spoken of.
-/
import Derived.Test.YteemkophifcimaaH0
import Derived.Deep.AppendLies
import Derived.Deep.RegionHeld3
import Derived.OwnWalk
namespace Go.Proofs.Yteemkophifcimaa.Sx
open Go Go.RowKit
set_option linter.unusedVariables false

/-- A copy of a list, in block g: a new one, or that of the empty slice where nothing is copied. -/
structure Cp (k : IntKind) (e : TypeId) (b : Nat) (w : World) (l : List Int) (g cap : Nat) (w' : World) : Prop where
  mk ::
  below : Below w.heap.size w w'
  here : ∃ cs, w'.heap[g]? = some (.cells cs e (0, 0)) ∧ l.length ≤ cap ∧ l.length ≤ cs.size ∧ RowAt k cs 0 l
  lies : (g = b ∧ l = []) ∨ g = w.heap.size
theorem Cp.own {k : IntKind} {e : TypeId} {b : Nat} {w w' w2 : World} {l : List Int} {g cap n : Nat} (h : Cp k e b w l g cap w') (hw : w2.heap[g]? = w'.heap[g]?) (hb : n ≤ b) (hn : n ≤ w.heap.size) : OwnL k n w2 l (.slice (some ⟨g, 0, none⟩) l.length cap) := by
  obtain ⟨_, ⟨cs, h1, h2, h3, h4⟩, h5⟩ := h
  refine .inr ⟨g, 0, cap, cs, e, rfl, ?_, hw.trans h1, h2, by omega, h4⟩
  rcases h5 with ⟨rfl, _⟩ | rfl
  · exact hb
  · exact hn
theorem Cp.lt {k : IntKind} {e : TypeId} {b : Nat} {w w' : World} {l : List Int} {g cap : Nat} (h : Cp k e b w l g cap w') : g < w'.heap.size := by
  obtain ⟨_, ⟨cs, h1, _⟩, _⟩ := h
  exact heap_lt h1
theorem run_copy {P : Program} (w : World) (t ty e : TypeId) (i : TypeInfo) (z : Value) (bytes : Nat) (ht : P.underlying t = some (.slice e)) (hi : P.info? e = some i) (hz : i.zero = some z) (hsize : i.size = 1) (hby : i.bytes = bytes) (hzs : z.cells.size = 1)
    (b : Nat) (hb : w.heap[b]? = some (.cells #[] e (0, 0))) (k : IntKind) (l : List Int) (p : Addr) (c : Nat) (hl : IsL k w l (.slice (some p) l.length c)) (h63 : l.length ≤ maxLen) (hbytes : l.length * bytes ≤ 140737488355328) :
    ∃ g cap w', (Builtin.append_ #[t, t] ty #[.slice (some ⟨b, 0, none⟩) 0 0, .slice (some p) l.length c]).run P w = .ok (.slice (some ⟨g, 0, none⟩) l.length cap) w' ∧ Cp k e b w l g cap w' := by
  rcases hl with ⟨hl, _⟩ | ⟨b', o', c', hl, _, h3⟩
  · cases hl
  · cases hl
    have hnews : ∀ j u, (l.map (Value.int k))[j]? = some u → w.cell? ((⟨b', o', none⟩ : Addr).add j) = some u := fun j u hj => by
      rw [List.getElem?_map] at hj
      obtain ⟨y, hy, rfl⟩ := Option.map_eq_some_iff.1 hj
      have e : ((⟨b', o', none⟩ : Addr).add j) = ⟨b', o' + j, none⟩ := by unfold Addr.add; split <;> simp_all
      rw [e]; exact h3 j y hy
    have hlen : (l.map (Value.int k)).length = l.length * i.size := by rw [hsize]; simp
    by_cases hm : l.length = 0
    · have hn : l = [] := List.eq_nil_of_length_eq_zero hm
      subst hn
      have hr := run_append_room (P := P) w t ty e i ht hi b 0 0 #[] hb ⟨b', o', none⟩ 0 c [] (by simp) (fun j u h => by simp at h) (fun u h => by simp at h) (by omega) (by simp)
      refine ⟨b, 0, _, hr, ⟨⟨rfl, rfl, rfl, by simp [World.setRow], fun j hj => ?_⟩, ⟨_, setRow_heap w b #[] _ e _ hb, Nat.le_refl _, by simp, fun i x h => by simp at h⟩, .inl ⟨rfl, rfl⟩⟩⟩
      by_cases hjb : j = b
      · subst hjb
        rw [hb]
        exact (setRow_heap w j #[] _ e _ hb).trans (by simp)
      · exact setRow_other w b j _ hjb
    · have hg := growslice_fits (need := 0 + l.length) (old := 0) (bytes := i.bytes) (by omega) (by rw [hby]; simpa using hbytes)
      have hr := run_append_grow (P := P) w t ty e i z ht hi hz ⟨b, 0, none⟩ 0 0 [] (by simp) (fun j u h => by simp at h) ⟨b', o', none⟩ l.length c (l.map (Value.int k)) hlen hnews (by omega) (by simp only [maxLen] at h63; omega) hg
      have hge := grownCap_ge w (0 + l.length) 0 e
      rw [Nat.zero_add] at hr hge
      refine ⟨w.heap.size, _, _, hr, ⟨(Below.drew (Below.refl _ _)).alloc (Nat.le_refl _) _, ⟨_, heap_alloc_new w.drew _, hge, by simp [size_zeroCells], fun j x hj => ?_⟩, .inr rfl⟩⟩
      have hjl : j < l.length := (List.getElem?_eq_some_iff.1 hj).1
      have hx : (l.map (Value.int k))[j]? = some (.int k x) := by rw [List.getElem?_map, hj]; rfl
      simp only [Array.empty_append]
      rw [Array.getElem?_append_left (by simpa using hjl)]
      simpa using hx
/-- As a step of a region that draws. -/
theorem step_copy {P : Program} {ops : Array Oper} {o : Oper} {a : Act} {w : World} {K : Act → World → Prop} {Q : Exit → Act → World → Prop} {E : Prop} (hgd : o.guard = none) (s x : Operand) (t : TypeId)
    (ho : o.op = .call { callee := .builtin .append, args := #[s, x], argTypes := #[t, t] })
    (e : TypeId) (i : TypeInfo) (z : Value) (bytes : Nat) (ht : P.underlying t = some (.slice e)) (hi : P.info? e = some i) (hz : i.zero = some z) (hsize : i.size = 1) (hby : i.bytes = bytes) (hzs : z.cells.size = 1)
    (b : Nat) (hs : a.eval s = .slice (some ⟨b, 0, none⟩) 0 0) (k : IntKind) (l : List Int) (p : Addr) (c : Nat) (hx : a.eval x = .slice (some p) l.length c) (hb : w.heap[b]? = some (.cells #[] e (0, 0))) (hl : IsL k w l (.slice (some p) l.length c)) (h63 : l.length ≤ maxLen) (hbytes : l.length * bytes ≤ 140737488355328)
    (h : ∀ g cap w', Cp k e b w l g cap w' → K (a.put o.dst (.slice (some ⟨g, 0, none⟩) l.length cap)) w') :
    if Region.wanted o (yielded ops a.tmps) = true then Oper.wp P o a w K Q else E := by
  have hw : Region.wanted o (yielded ops a.tmps) = true := by simp [Region.wanted, hgd]
  rw [if_pos hw]
  obtain ⟨g, cap, w', hr, h2⟩ := run_copy (P := P) w t o.type e i z bytes ht hi hz hsize hby hzs b hb k l p c hl h63 hbytes
  unfold Oper.wp execOp
  simp only [ho, resolve, invoke, builtin, Sem.run_bind, Sem.run_pure, Result.andThen_ok, List.map_toArray, List.map_cons, List.map_nil, hs, hx, hr]
  exact h g cap w' h2
theorem isL_cap {K : IntKind} {w : World} {l : List Int} {a : Addr} {c c' : Nat} (h : IsL K w l (.slice (some a) l.length c)) (hc : l.length ≤ c') : IsL K w l (.slice (some a) l.length c') := by
  rcases h with ⟨h, _⟩ | ⟨b, o, c, h, _, h3⟩
  · cases h
  · cases h
    exact .inr ⟨b, o, c', rfl, hc, h3⟩
/-- Rows of different kinds are different blocks. -/
theorem own_types {w : World} {B B' : Nat} {e e' : TypeId} {v u : Value} {n m : Nat} {xs ys : List Value} (h : w.ownsRow B e 1 v n xs) (h' : w.ownsRow B' e' 1 u m ys) (hne : e ≠ e') : v.ownBlock = none ∨ v.ownBlock ≠ u.ownBlock := by
  rcases h.2 with ⟨rfl, _⟩ | ⟨g, cap, cur, rfl, _, h3, _⟩
  · exact .inl rfl
  · right
    intro e1
    rcases h'.2 with ⟨rfl, _⟩ | ⟨g', cap', cur', rfl, _, h4, _⟩
    · cases e1
    · simp [Value.ownBlock] at e1
      subst e1
      rw [h3] at h4
      cases h4
      exact hne rfl
theorem at_alloc {w : World} {o x : Obj} {b : Nat} (h : w.heap[b]? = some x) : (w.alloc o).heap[b]? = some x := by
  rw [Below.heap_alloc _ _ _ (heap_lt h)]; exact h
theorem at_drew {w : World} {x : Obj} {b : Nat} (h : w.heap[b]? = some x) : w.drew.heap[b]? = some x := h
theorem at_new {w : World} {o : Obj} {b : Nat} (h : w.heap.size = b) : (w.alloc o).heap[b]? = some o := by
  subst h; exact heap_alloc_new w o
theorem at_below {w w' : World} {m : Nat} {x : Obj} {b : Nat} (h : Below m w w') (hb : b < m) (hx : w.heap[b]? = some x) : w'.heap[b]? = some x := (h.block b hb).trans hx
end Go.Proofs.Yteemkophifcimaa.Sx
