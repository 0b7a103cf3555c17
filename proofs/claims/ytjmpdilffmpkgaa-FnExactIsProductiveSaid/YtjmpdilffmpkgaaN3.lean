/-
  The model of the stream of half the value.
-/
import Derived.Test.YtjmpdilffmpkgaaN2
import Derived.Deep.RegionHeld3
import Derived.Deep.AppendLies
namespace Go.Proofs.Ytjmpdilffmpkgaa.Sx
open Go Go.RowKit
set_option linter.unusedVariables false
set_option linter.unusedSimpArgs false

/-- append of a list that is read to an own row, as a step of a region that draws. -/
theorem step_own {P : Program} {ops : Array Oper} {o : Oper} {a : Act} {w : World} {K : Act → World → Prop} {Q : Exit → Act → World → Prop} {E : Prop} (hgd : o.guard = none) (s x : Operand) (t : TypeId)
    (ho : o.op = .call { callee := .builtin .append, args := #[s, x], argTypes := #[t, t] })
    (base : Nat) (e : TypeId) (i : TypeInfo) (z : Value) (bytes : Nat) (ht : P.underlying t = some (.slice e)) (hi : P.info? e = some i) (hz : i.zero = some z)
    (hsize : i.size = 1) (hby : i.bytes = bytes) (hzs : z.cells.size = 1)
    (v : Value) (n : Nat) (xs : List Value) (hs : a.eval s = v) (hown : w.ownsRow base e 1 v n xs)
    (k : IntKind) (l : List Int) (p : Addr) (c : Nat) (hx : a.eval x = .slice (some p) l.length c) (hl : IsL k w l (.slice (some p) l.length c))
    (h63 : n + l.length ≤ maxLen) (hbytes : (n + l.length) * bytes ≤ 140737488355328) (hbase : base ≤ w.heap.size)
    (h : ∀ v' w', w'.ownsRow base e 1 v' (n + l.length) (xs ++ l.map (Value.int k)) → w.grownBy w' v.ownBlock → K (a.put o.dst v') w') :
    if Region.wanted o (yielded ops a.tmps) = true then Oper.wp P o a w K Q else E := by
  have hw : Region.wanted o (yielded ops a.tmps) = true := by simp [Region.wanted, hgd]
  rw [if_pos hw]
  rcases hl with ⟨hl, _⟩ | ⟨b', o', c', hl, _, h3⟩
  · cases hl
  · cases hl
    refine wp_append_own w s x t ho base e i z 1 bytes ht hi hz hsize hby hzs (by decide) v n xs hs hown ⟨b', o', none⟩ l.length c (l.map (Value.int k)) hx (by simp) (fun j u hj => ?_) (fun u hu => ?_) h63 hbytes hbase (fun v' w' h1 h2 _ => h v' w' h1 h2)
    · rw [List.getElem?_map] at hj
      obtain ⟨y, hy, rfl⟩ := Option.map_eq_some_iff.1 hj
      have e : ((⟨b', o', none⟩ : Addr).add j) = ⟨b', o' + j, none⟩ := by unfold Addr.add; split <;> simp_all
      rw [e]; exact h3 j y hy
    · obtain ⟨y, _, rfl⟩ := List.mem_map.1 hu
      rfl
theorem step_lies {P : Program} {ops : Array Oper} {o : Oper} {a : Act} {w : World} {K : Act → World → Prop} {Q : Exit → Act → World → Prop} {E : Prop} (hgd : o.guard = none) (s x : Operand) (t : TypeId)
    (ho : o.op = .call { callee := .builtin .append, args := #[s, x], argTypes := #[t, t] })
    (base : Nat) (e : TypeId) (i : TypeInfo) (z : Value) (bytes : Nat) (ht : P.underlying t = some (.slice e)) (hi : P.info? e = some i) (hz : i.zero = some z)
    (hsize : i.size = 1) (hby : i.bytes = bytes) (hzs : z.cells.size = 1)
    (v : Value) (n : Nat) (xs : List Value) (hs : a.eval s = v) (hown : w.ownsRow base e 1 v n xs)
    (k : IntKind) (l : List Int) (p : Addr) (c : Nat) (hx : a.eval x = .slice (some p) l.length c) (hl : IsL k w l (.slice (some p) l.length c)) (hm : 0 < l.length)
    (h63 : n + l.length ≤ maxLen) (hbytes : (n + l.length) * bytes ≤ 140737488355328) (hbase : base ≤ w.heap.size)
    (h : ∀ g cap w', w'.ownsRow base e 1 (.slice (some ⟨g, 0, none⟩) (n + l.length) cap) (n + l.length) (xs ++ l.map (Value.int k)) → w.grownBy w' v.ownBlock → (v.ownBlock = some g ∨ g = w.heap.size) → K (a.put o.dst (.slice (some ⟨g, 0, none⟩) (n + l.length) cap)) w') :
    if Region.wanted o (yielded ops a.tmps) = true then Oper.wp P o a w K Q else E := by
  have hw : Region.wanted o (yielded ops a.tmps) = true := by simp [Region.wanted, hgd]
  rw [if_pos hw]
  rcases hl with ⟨hl, _⟩ | ⟨b', o', c', hl, _, h3⟩
  · cases hl
  · cases hl
    refine wp_append_lies w s x t ho base e i z 1 bytes ht hi hz hsize hby hzs (by decide) v n xs hs hown ⟨b', o', none⟩ l.length c (l.map (Value.int k)) hx (by simp) (fun j u hj => ?_) (fun u hu => ?_) hm h63 hbytes hbase w.heap.size rfl (fun g cap w' h1 h2 h3 _ => h g cap w' h1 h2 h3)
    · rw [List.getElem?_map] at hj
      obtain ⟨y, hy, rfl⟩ := Option.map_eq_some_iff.1 hj
      have e : ((⟨b', o', none⟩ : Addr).add j) = ⟨b', o' + j, none⟩ := by unfold Addr.add; split <;> simp_all
      rw [e]; exact h3 j y hy
    · obtain ⟨y, _, rfl⟩ := List.mem_map.1 hu
      rfl
theorem own_new_ne {w : World} {B : Nat} {e : TypeId} {v : Value} {n q : Nat} {xs : List Value} (h : w.ownsRow B e 1 v n xs) (hq : w.heap.size ≤ q) : v.ownBlock ≠ some q := fun e => by
  have := (h.lt q e).2
  omega
theorem own_lit1 {w : World} {B : Nat} {x : Value} {t : TypeId} (hB : B ≤ w.heap.size) : (w.alloc (.cells #[x] t)).ownsRow B t 1 (.slice (some ⟨w.heap.size, 0, none⟩) 1 1) 1 [x] :=
  ⟨rfl, .inr ⟨w.heap.size, 1, #[x], rfl, hB, by show (w.heap.push _)[w.heap.size]? = _; simp, Nat.le_refl _, by decide, rfl, rfl⟩⟩
theorem own_lit0 {w : World} {B : Nat} {t : TypeId} (hB : B ≤ w.heap.size) : (w.alloc (.cells #[] t)).ownsRow B t 1 (.slice (some ⟨w.heap.size, 0, none⟩) 0 0) 0 [] :=
  World.ownsRow_made w #[] 0 hB (by decide) rfl
theorem own_lit1_at {w : World} {B n : Nat} {x : Value} {t : TypeId} (hn : w.heap.size = n) (hB : B ≤ w.heap.size) : (w.alloc (.cells #[x] t)).ownsRow B t 1 (.slice (some ⟨n, 0, none⟩) 1 1) 1 [x] := by
  subst hn; exact own_lit1 hB
theorem own_lit0_at {w : World} {B n : Nat} {t : TypeId} (hn : w.heap.size = n) (hB : B ≤ w.heap.size) : (w.alloc (.cells #[] t)).ownsRow B t 1 (.slice (some ⟨n, 0, none⟩) 0 0) 0 [] := by
  subst hn; exact own_lit0 hB
theorem set2_cell (w : World) {b c : Nat} (o : Nat) (x y : Value) (h : c ≠ b) : ((w.setCell ⟨b, 0, none⟩ x).setCell ⟨b, 1, none⟩ y).cell? ⟨c, o, none⟩ = w.cell? ⟨c, o, none⟩ := by
  refine World.cell?_of_block (w := w) ?_
  rw [Below.heap_setCell _ _ _ _ h, Below.heap_setCell _ _ _ _ h]
theorem own_empty_ne {w : World} {B : Nat} {e : TypeId} {v : Value} {n q : Nat} {xs : List Value} (h : w.ownsRow B e 1 v n xs) (hn : 1 ≤ n) (h' : w.ownsRow B e 1 (.slice (some ⟨q, 0, none⟩) 0 0) 0 []) : v.ownBlock ≠ some q := by
  intro e0
  obtain ⟨_, ⟨rfl, _⟩ | ⟨g, cap, cur, rfl, _, h3, h4, _, h6, _⟩⟩ := h
  · cases e0
  · cases e0
    obtain ⟨_, ⟨h7, _⟩ | ⟨g', cap', cur', h7, _, h8, _, _, h9, _⟩⟩ := h'
    · cases h7
    · cases h7
      rw [h3] at h8
      cases h8
      omega
theorem bel1 (w : World) (o : Obj) : Below w.heap.size w (w.alloc o).drew := ((Below.refl _ _).alloc (Nat.le_refl _) _).drew
theorem bel2 (w : World) (o o' : Obj) : Below w.heap.size w ((w.alloc o).alloc o').drew := (((Below.refl _ _).alloc (Nat.le_refl _) _).alloc (by simp) _).drew
theorem own_form {w : World} {B : Nat} {e : TypeId} {v : Value} {n : Nat} {xs : List Value} (h : w.ownsRow B e 1 v n xs) : ∃ s c, v = .slice s n c := by
  obtain ⟨_, ⟨rfl, rfl⟩ | ⟨g, cap, cur, rfl, _⟩⟩ := h
  · exact ⟨_, _, rfl⟩
  · exact ⟨_, _, rfl⟩
theorem own_base {w : World} {B : Nat} {e : TypeId} {v : Value} {n : Nat} {xs : List Value} (h : w.ownsRow B e 1 v n xs) : ∀ k, v.ownBlock = some k → B ≤ k := fun k hk => (h.lt k hk).1
theorem own_apart {w : World} {B : Nat} {e : TypeId} {v u : Value} {n m : Nat} {xs ys : List Value} (h : w.ownsRow B e 1 v n xs) (h' : w.ownsRow B e 1 u m ys) (hne : v.ownBlock = none ∨ v.ownBlock ≠ u.ownBlock) : Apart v u := by
  intro b o len c b' o' len' c' e1 e2 e3
  subst e1 e2 e3
  rcases hne with hne | hne
  · cases hne
  · exact absurd rfl hne
/-- The model's answer: a zero in front. -/
def halfL (a : List Int) : List Int := 0 :: a
end Go.Proofs.Ytjmpdilffmpkgaa.Sx
