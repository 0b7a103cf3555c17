/-
  The symbolic executor: loops that go round with numbers: the state at a loop's head, and a round of it.
-/
import Derived.Test.YtelfpnkhdaaeoaaDoorSxO
import Derived.Deep.LoopGhost
namespace Go.Proofs.YtelfpnkhdaaeoaaDoor.Sx
open Go Go.RowKit

section
variable {C : Cfg} {X : Ctx} {d d' : Dn} {w : World} {a : Act} {Pr : Pres} {Φ : Fns} {n m : Nat}

/-! ### Two denotations over the same beginning -/
theorem kindsIv_mem : ∀ {ks : List EK} {k : EK}, k ∈ ks → ∀ x, (eiv k).has x → (kindsIv ks).has x
  | [], _, h, _, _ => by cases h
  | q :: r, k, h, x, hx => by
    unfold kindsIv
    cases h with
    | head => exact Iv.cup_left hx
    | tail _ h => exact Iv.cup_right (kindsIv_mem h x hx)

theorem kinds_has {ks : List EK} {xs : List Int} (h : Kinds ks xs) (x : Int) (hx : x ∈ xs) : (kindsIv ks).has x := by
  obtain ⟨i, hi⟩ := List.getElem?_of_mem hx
  have h1 := h.1 i x hi
  cases ks with
  | nil =>
    have := h.2
    simp only [List.length_nil, Nat.mod_zero] at this
    rw [List.length_eq_zero_iff.1 this] at hx; cases hx
  | cons k r =>
    refine kindsIv_mem ?_ x h1
    unfold kindAt
    have hj : i % (k :: r).length < (k :: r).length := Nat.mod_lt _ (by simp)
    rw [List.getD_eq_getElem?_getD, List.getElem?_eq_getElem hj]
    exact List.getElem_mem hj

theorem E.den_closed (hΦ : d'.Φ = d.Φ) (x : E) (h : x.sc 0 0 = true) : x.den d'.Φ d'.ρ = x.den d.Φ d.ρ := by
  rw [hΦ]; exact E.den_ext (fun j hj => absurd hj (Nat.not_lt_zero j)) (fun j hj => absurd hj (Nat.not_lt_zero j)) x h
theorem B.den_closed (hΦ : d'.Φ = d.Φ) (x : B) (h : x.sc 0 0 = true) : x.den d'.Φ d'.ρ = x.den d.Φ d.ρ := by
  rw [hΦ]; exact B.den_ext (fun j hj => absurd hj (Nat.not_lt_zero j)) (fun j hj => absurd hj (Nat.not_lt_zero j)) x h
theorem L.den_closed (hΦ : d'.Φ = d.Φ) (x : L) (h : x.sc 0 0 = true) : x.den d'.Φ d'.ρ = x.den d.Φ d.ρ := by
  rw [hΦ]; exact L.den_ext (fun j hj => absurd hj (Nat.not_lt_zero j)) (fun j hj => absurd hj (Nat.not_lt_zero j)) x h

/-- No variable stands in a cell: it is the same wherever the blocks are the same. -/
theorem Cell.den_closed (hΦ : d'.Φ = d.Φ) (hα : d'.α = d.α ∧ d'.κ = d.κ) {c : Cell} (h : c.sc 0 0 = true) : c.den d' = c.den d := by
  cases c <;> simp only [Cell.sc] at h <;> simp only [Cell.den, hα.1, hα.2]
  · rw [E.den_closed hΦ _ h]
  · rw [B.den_closed hΦ _ h]
  · rw [E.den_closed hΦ _ h]
  · rw [L.den_closed hΦ _ h]
  · simp only [Bool.and_eq_true] at h
    rw [E.den_closed hΦ _ h.1, E.den_closed hΦ _ h.2]
  · rw [E.den_closed hΦ _ h]
  · rw [E.den_closed hΦ _ h]
theorem Cell.ok_closed (hΦ : d'.Φ = d.Φ) {hp : List (Option Reg)} {c : Cell} (h : c.sc 0 0 = true) (hc : c.ok d hp) : c.ok d' hp := by
  cases c <;> simp only [Cell.sc] at h <;> first | exact hc | skip
  · simp only [Cell.ok] at hc ⊢
    rw [E.den_closed hΦ _ h]; exact hc
  · simp only [Bool.and_eq_true] at h
    simp only [Cell.ok] at hc ⊢
    rw [E.den_closed hΦ _ h.1, E.den_closed hΦ _ h.2]; exact hc
  · simp only [Cell.ok] at hc ⊢
    rw [E.den_closed hΦ _ h]; exact hc

theorem numOf_den (b : B) (ρ : Env) : (numOf b).den Φ ρ = if b.den Φ ρ = true then 1 else 0 := by
  unfold numOf
  split
  · rfl
  · rfl
  · rfl

/-! ### The head of a loop -/
/-- In d' the variables from place n on stand for what the expressions stand for in d. -/
def At (d d' : Dn) (n : Nat) (es : List E) : Prop := ∀ j e, es[j]? = some e → d'.ρ.i.getD (n + j) 0 = e.den d.Φ d.ρ

theorem At.left {n : Nat} {es fs : List E} (h : At d d' n (es ++ fs)) : At d d' n es := fun j e he => h j e (by
  rw [List.getElem?_append_left (by have := List.getElem?_eq_some_iff.1 he; exact this.1)]; exact he)
theorem At.right {n : Nat} {es fs : List E} (h : At d d' n (es ++ fs)) : At d d' (n + es.length) fs := fun j e he => by
  have := h (es.length + j) e (by rw [List.getElem?_append_right (by omega), Nat.add_sub_cancel_left]; exact he)
  rwa [← Nat.add_assoc] at this
theorem At.cons {n : Nat} {e : E} {fs : List E} (h : At d d' n (e :: fs)) : d'.ρ.i.getD n 0 = e.den d.Φ d.ρ ∧ At d d' (n + 1) fs :=
  ⟨h 0 e rfl, fun j f hf => by
    have := h (j + 1) f (by simpa using hf)
    rwa [show n + (j + 1) = n + 1 + j by omega] at this⟩

theorem cutCs_den (hΦ : d'.Φ = d.Φ) (hα : d'.α = d.α ∧ d'.κ = d.κ) : ∀ (cs : List Cell) (n : Nat) (es : List E) (cs' : List Cell), cutCs n cs = some (es, cs') → At d d' n es → cs'.map (Cell.den d') = cs.map (Cell.den d)
  | [], _, es, cs', h, _ => by
    simp only [cutCs, Option.some.injEq, Prod.mk.injEq] at h
    rw [← h.2]; rfl
  | c :: r, n, es, cs', h, hA => by
    have closed : ∀ {p : List E × List Cell}, c.sc 0 0 = true → cutCs n r = some p → es = p.1 → cs' = c :: p.2 → cs'.map (Cell.den d') = (c :: r).map (Cell.den d) := by
      rintro ⟨es0, r0⟩ h1 h2 rfl rfl
      rw [List.map_cons, List.map_cons, Cell.den_closed hΦ hα h1, cutCs_den hΦ hα r n _ _ h2 hA]
    cases c with
    | int k e =>
      simp only [cutCs, Option.map_eq_some_iff, Prod.mk.injEq] at h
      obtain ⟨⟨es0, r0⟩, h1, rfl, rfl⟩ := h
      obtain ⟨q1, q2⟩ := hA.cons
      rw [List.map_cons, List.map_cons, cutCs_den hΦ hα r (n + 1) _ _ h1 q2]
      simp only [Cell.den, E.den, q1]
    | bool b =>
      simp only [cutCs, Option.map_eq_some_iff, Prod.mk.injEq] at h
      obtain ⟨⟨es0, r0⟩, h1, rfl, rfl⟩ := h
      obtain ⟨q1, q2⟩ := hA.cons
      rw [List.map_cons, List.map_cons, cutCs_den hΦ hα r (n + 1) _ _ h1 q2]
      simp only [Cell.den, B.den, E.den, q1, numOf_den]
      cases b.den d.Φ d.ρ <;> rfl
    | _ =>
      simp only [cutCs] at h
      generalize hc : Cell.sc 0 0 _ = q at h
      cases q <;> simp only [cond_false, cond_true] at h
      · cases h
      · simp only [Option.map_eq_some_iff, Prod.mk.injEq] at h
        obtain ⟨p, h1, h2, h3⟩ := h
        exact closed hc h1 h2.symm h3.symm

theorem cutCs_ok (hΦ : d'.Φ = d.Φ) {hp : List (Option Reg)} : ∀ (cs : List Cell) (n : Nat) (es : List E) (cs' : List Cell), cutCs n cs = some (es, cs') → (∀ c ∈ cs, c.ok d hp) → ∀ c ∈ cs', c.ok d' hp
  | [], _, es, cs', h, _ => by
    simp only [cutCs, Option.some.injEq, Prod.mk.injEq] at h
    rw [← h.2]; intro c hc; cases hc
  | c :: r, n, es, cs', h, hA => by
    have hr := fun x hx => hA x (List.mem_cons_of_mem _ hx)
    have closed : ∀ {p : List E × List Cell}, c.sc 0 0 = true → cutCs n r = some p → cs' = c :: p.2 → ∀ c ∈ cs', c.ok d' hp := by
      rintro ⟨es0, r0⟩ h1 h2 rfl x hx
      cases hx with
      | head => exact Cell.ok_closed hΦ h1 (hA _ List.mem_cons_self)
      | tail _ hx => exact cutCs_ok hΦ r n _ _ h2 hr x hx
    cases c with
    | int k e =>
      simp only [cutCs, Option.map_eq_some_iff, Prod.mk.injEq] at h
      obtain ⟨⟨es0, r0⟩, h1, rfl, rfl⟩ := h
      intro x hx
      cases hx with
      | head => trivial
      | tail _ hx => exact cutCs_ok hΦ r _ _ _ h1 hr x hx
    | bool b =>
      simp only [cutCs, Option.map_eq_some_iff, Prod.mk.injEq] at h
      obtain ⟨⟨es0, r0⟩, h1, rfl, rfl⟩ := h
      intro x hx
      cases hx with
      | head => trivial
      | tail _ hx => exact cutCs_ok hΦ r _ _ _ h1 hr x hx
    | _ =>
      simp only [cutCs] at h
      generalize hc : Cell.sc 0 0 _ = q at h
      cases q <;> simp only [cond_false, cond_true] at h
      · cases h
      · simp only [Option.map_eq_some_iff, Prod.mk.injEq] at h
        obtain ⟨p, h1, h2, h3⟩ := h
        exact closed hc h1 h3.symm

theorem cutCs_length : ∀ (cs : List Cell) (n : Nat) (es : List E) (cs' : List Cell), cutCs n cs = some (es, cs') → cs'.length = cs.length
  | [], _, es, cs', h => by
    simp only [cutCs, Option.some.injEq, Prod.mk.injEq] at h
    rw [← h.2]
  | c :: r, n, es, cs', h => by
    cases c with
    | int k e =>
      simp only [cutCs, Option.map_eq_some_iff, Prod.mk.injEq] at h
      obtain ⟨⟨es0, r0⟩, h1, rfl, rfl⟩ := h
      simp [cutCs_length r _ _ _ h1]
    | bool b =>
      simp only [cutCs, Option.map_eq_some_iff, Prod.mk.injEq] at h
      obtain ⟨⟨es0, r0⟩, h1, rfl, rfl⟩ := h
      simp [cutCs_length r _ _ _ h1]
    | _ =>
      simp only [cutCs] at h
      generalize hc : Cell.sc 0 0 _ = q at h
      cases q <;> simp only [cond_false, cond_true] at h
      · cases h
      · simp only [Option.map_eq_some_iff, Prod.mk.injEq] at h
        obtain ⟨⟨es0, r0⟩, h1, _, rfl⟩ := h
        simp [cutCs_length r _ _ _ h1]

theorem cutSV_is (hΦ : d'.Φ = d.Φ) (hα : d'.α = d.α ∧ d'.κ = d.κ) {v v' : SV} {n : Nat} {es : List E} (h : cutSV n v = some (es, v')) (hA : At d d' n es) {x : Value} (hx : v.is d x) : v'.is d' x := by
  cases v with
  | one c =>
    simp only [cutSV] at h
    split at h
    · rename_i es0 c' hc
      simp only [Option.some.injEq, Prod.mk.injEq] at h
      obtain ⟨rfl, rfl⟩ := h
      have := cutCs_den hΦ hα _ _ _ _ hc hA
      simp only [List.map_cons, List.map_nil, List.cons.injEq, and_true] at this
      simp only [SV.is] at hx ⊢
      rw [hx, this]
    · cases h
  | agg cs =>
    simp only [cutSV, Option.map_eq_some_iff, Prod.mk.injEq] at h
    obtain ⟨⟨es0, c'⟩, hc, rfl, rfl⟩ := h
    simp only [SV.is] at hx ⊢
    rw [hx, cutCs_den hΦ hα _ _ _ _ hc hA]
  | _ => cases h
theorem cutSV_ok (hΦ : d'.Φ = d.Φ) {hp : List (Option Reg)} {v v' : SV} {n : Nat} {es : List E} (h : cutSV n v = some (es, v')) (hx : v.ok d hp) : v'.ok d' hp := by
  cases v with
  | one c =>
    simp only [cutSV] at h
    split at h
    · rename_i es0 c' hc
      simp only [Option.some.injEq, Prod.mk.injEq] at h
      obtain ⟨rfl, rfl⟩ := h
      exact cutCs_ok hΦ _ _ _ _ hc (fun c hm => by
        simp only [List.mem_singleton] at hm; subst hm; exact hx) c' List.mem_cons_self
    · cases h
  | agg cs =>
    simp only [cutSV, Option.map_eq_some_iff, Prod.mk.injEq] at h
    obtain ⟨⟨es0, c'⟩, hc, rfl, rfl⟩ := h
    exact cutCs_ok hΦ _ _ _ _ hc hx
  | _ => cases h

/-- The lists from place q on. -/
def AtL (d d' : Dn) (q : Nat) (ls : List L) : Prop := ∀ j l, ls[j]? = some l → d'.ρ.l.getD (q + j) [] = l.den d.Φ d.ρ
theorem AtL.cons {q : Nat} {l : L} {ls : List L} (h : AtL d d' q (l :: ls)) : d'.ρ.l.getD q [] = l.den d.Φ d.ρ ∧ AtL d d' (q + 1) ls :=
  ⟨h 0 l rfl, fun j f hf => by
    have := h (j + 1) f (by simpa using hf)
    rwa [show q + (j + 1) = q + 1 + j by omega] at this⟩

/-- d and d' with the same beginning of n0 numbers and m0 lists. -/
structure Alike2 (n0 m0 : Nat) (d d' : Dn) : Prop where
  Φ : d'.Φ = d.Φ
  α : d'.α = d.α ∧ d'.κ = d.κ
  n : n0 ≤ d.ρ.i.length
  n' : n0 ≤ d'.ρ.i.length
  t : d'.ρ.i.take n0 = d.ρ.i.take n0
  m : m0 ≤ d.ρ.l.length
  m' : m0 ≤ d'.ρ.l.length
  l : d'.ρ.l.take m0 = d.ρ.l.take m0

theorem Alike2.split {n0 m0 : Nat} (h : Alike2 n0 m0 d d') : ∃ d0 : Dn, d0.ρ.i.length = n0 ∧ d0.ρ.l.length = m0 ∧ d = d0.push2 (d.ρ.i.drop n0) (d.ρ.l.drop m0) ∧ d' = d0.push2 (d'.ρ.i.drop n0) (d'.ρ.l.drop m0) := by
  refine ⟨⟨d.Φ, ⟨d.ρ.i.take n0, d.ρ.l.take m0⟩, d.α, d.κ⟩, by have := h.n; simp; omega, by have := h.m; simp; omega, ?_, ?_⟩
  · show d = ⟨d.Φ, ⟨d.ρ.i.take n0 ++ d.ρ.i.drop n0, d.ρ.l.take m0 ++ d.ρ.l.drop m0⟩, d.α, d.κ⟩
    rw [List.take_append_drop, List.take_append_drop]
  · show d' = ⟨d.Φ, ⟨d.ρ.i.take n0 ++ d'.ρ.i.drop n0, d.ρ.l.take m0 ++ d'.ρ.l.drop m0⟩, d.α, d.κ⟩
    rw [← h.t, ← h.l, List.take_append_drop, List.take_append_drop, ← h.Φ, ← h.α.1, ← h.α.2]

theorem Alike2.is {n0 : Nat} (h : Alike2 n0 m d d') {v : SV} (hs : v.sc n0 m = true) {x : Value} (hx : v.is d x) : v.is d' x := by
  obtain ⟨d0, e0, f0, e1, e2⟩ := h.split
  rw [e1] at hx
  rw [e2]
  exact (SV.is_push2 (by omega) (by omega) hs).2 ((SV.is_push2 (n := n0) (m := m) (by omega) (by omega) hs).1 hx)
theorem Alike2.cells {n0 : Nat} (h : Alike2 n0 m d d') {cs : List Cell} (hs : cs.all (·.sc n0 m) = true) : cs.map (Cell.den d') = cs.map (Cell.den d) := by
  obtain ⟨d0, e0, f0, e1, e2⟩ := h.split
  rw [e1, e2, cells_push2 (by omega) (by omega) hs, cells_push2 (by omega) (by omega) hs]
theorem Alike2.tl {n0 : Nat} (h : Alike2 n0 m d d') {t : Option (List EK × L)} (hs : tlSc n0 m t = true) : SameTl d d' t t := by
  obtain ⟨d0, e0, f0, e1, e2⟩ := h.split
  cases t with
  | none => trivial
  | some p =>
    refine ⟨rfl, ?_⟩
    rw [e1, e2]
    show L.den d0.Φ (d0.ρ.push2 _ _) p.2 = L.den d0.Φ (d0.ρ.push2 _ _) p.2
    rw [L.den_ext (push2_i (n := n0) (by omega)) (push2_l (m := m) (by omega)) _ hs, L.den_ext (push2_i (n := n0) (by omega)) (push2_l (m := m) (by omega)) _ hs]

theorem cutTs_is {n0 : Nat} {A : Ann} (h2 : Alike2 n0 m d d') : ∀ (l : List SV) (n t : Nat) (es : List E) (l' : List SV), cutTs n0 m A n t l = some (es, l') → At d d' n es →
    l'.length = l.length ∧ ∀ i x, (getT l i).is d x → (getT l' i).is d' x
  | [], _, _, es, l', h, _ => by
    simp only [cutTs, Option.some.injEq, Prod.mk.injEq] at h
    rw [← h.2]
    exact ⟨rfl, fun i x hx => by rw [getT_nil] at *; exact hx⟩
  | v :: r, n, t, es, l', h, hA => by
    simp only [cutTs] at h
    have one : ∀ {v' : SV} {r' : List SV}, (∀ x, v.is d x → v'.is d' x) → (r'.length = r.length ∧ ∀ i x, (getT r i).is d x → (getT r' i).is d' x) →
        (v' :: r').length = (v :: r).length ∧ ∀ i x, (getT (v :: r) i).is d x → (getT (v' :: r') i).is d' x := fun h1 h2 =>
      ⟨by simp [h2.1], fun i x hx => by
        cases i with
        | zero => exact h1 x hx
        | succ i => exact h2.2 i x hx⟩
    cases c1 : memN t A.any <;> simp only [c1, cond_false, cond_true] at h
    · cases c2 : memN t A.ts <;> simp only [c2, cond_false, cond_true] at h
      · simp only [Option.map_eq_some_iff, Prod.mk.injEq] at h
        obtain ⟨⟨es0, r0⟩, h1, rfl, rfl⟩ := h
        refine one (fun x hx => ?_) (cutTs_is h2 r n (t + 1) _ _ h1 hA)
        cases c3 : v.sc n0 m <;> simp only [cond_false, cond_true]
        · trivial
        · exact h2.is c3 hx
      · split at h
        · rename_i es0 v' hv
          simp only [Option.map_eq_some_iff, Prod.mk.injEq] at h
          obtain ⟨⟨es1, r0⟩, h1, rfl, rfl⟩ := h
          exact one (fun x hx => cutSV_is h2.Φ h2.α hv hA.left hx) (cutTs_is h2 r _ (t + 1) _ _ h1 hA.right)
        · cases h
    · simp only [Option.map_eq_some_iff, Prod.mk.injEq] at h
      obtain ⟨⟨es0, r0⟩, h1, rfl, rfl⟩ := h
      exact one (fun x hx => trivial) (cutTs_is h2 r n (t + 1) _ _ h1 hA)

theorem cutTs_ok {n0 : Nat} {A : Ann} (hn : n0 ≤ d.ρ.i.length) (hm : m ≤ d.ρ.l.length) {ys : List Int} {zs : List (List Int)} {hp : List (Option Reg)} : ∀ (l : List SV) (n t : Nat) (es : List E) (l' : List SV), cutTs n0 m A n t l = some (es, l') →
    (∀ i, (getT l i).ok d hp) → ∀ i, (getT l' i).ok (d.push2 ys zs) hp
  | [], _, _, es, l', h, hA => by
    simp only [cutTs, Option.some.injEq, Prod.mk.injEq] at h
    rw [← h.2]
    exact fun i => by rw [getT_nil]; exact undef_ok _ _
  | v :: r, n, t, es, l', h, hA => by
    have hr : ∀ i, (getT r i).ok d hp := fun i => hA (i + 1)
    have hv0 : v.ok d hp := hA 0
    simp only [cutTs] at h
    have one : ∀ {v' : SV} {r' : List SV}, v'.ok (d.push2 ys zs) hp → (∀ i, (getT r' i).ok (d.push2 ys zs) hp) → ∀ i, (getT (v' :: r') i).ok (d.push2 ys zs) hp := fun h1 h2 i => by
      cases i with
      | zero => exact h1
      | succ i => exact h2 i
    cases c1 : memN t A.any <;> simp only [c1, cond_false, cond_true] at h
    · cases c2 : memN t A.ts <;> simp only [c2, cond_false, cond_true] at h
      · simp only [Option.map_eq_some_iff, Prod.mk.injEq] at h
        obtain ⟨⟨es0, r0⟩, h1, rfl, rfl⟩ := h
        refine one ?_ (cutTs_ok hn hm r n (t + 1) _ _ h1 hr)
        cases c3 : v.sc n0 m <;> simp only [cond_false, cond_true]
        · trivial
        · exact SV.ok_push2 hn hm c3 hv0
      · split at h
        · rename_i es0 v' hv
          simp only [Option.map_eq_some_iff, Prod.mk.injEq] at h
          obtain ⟨⟨es1, r0⟩, h1, rfl, rfl⟩ := h
          exact one (cutSV_ok (d := d) (d' := d.push2 ys zs) rfl hv hv0) (cutTs_ok hn hm r _ (t + 1) _ _ h1 hr)
        · cases h
    · simp only [Option.map_eq_some_iff, Prod.mk.injEq] at h
      obtain ⟨⟨es0, r0⟩, h1, rfl, rfl⟩ := h
      exact one trivial (cutTs_ok hn hm r n (t + 1) _ _ h1 hr)

/-- A block of the head, and the one that it comes of. -/
theorem cutHs_reg {n0 : Nat} {A : Ann} (h2 : Alike2 n0 m d d') : ∀ (l : List (Option Reg)) (n q id : Nat) (es : List E) (les : List (L × List EK)) (l' : List (Option Reg)), cutHs n0 m A n q id l = some (es, les, l') → At d d' n es → AtL d d' q (les.map (·.1)) →
    ∀ i r', getH l' i = some r' → ∃ r, getH l i = some r ∧ r'.own = r.own ∧ r'.ty = r.ty ∧ SameTl d d' r.tl r'.tl ∧ r'.cs.map (Cell.den d') = r.cs.map (Cell.den d)
  | [], _, _, _, es, les, l', h, _, _ => by
    simp only [cutHs, Option.some.injEq, Prod.mk.injEq] at h
    rw [← h.2.2]
    exact fun i r' hr => by rw [getH_nil] at hr; cases hr
  | g :: r, n, q, id, es, les, l', h, hA, hL => by
    have one : ∀ {g' : Option Reg} {r' : List (Option Reg)}, (∀ q', g' = some q' → ∃ q, g = some q ∧ q'.own = q.own ∧ q'.ty = q.ty ∧ SameTl d d' q.tl q'.tl ∧ q'.cs.map (Cell.den d') = q.cs.map (Cell.den d)) →
        (∀ i q', getH r' i = some q' → ∃ q, getH r i = some q ∧ q'.own = q.own ∧ q'.ty = q.ty ∧ SameTl d d' q.tl q'.tl ∧ q'.cs.map (Cell.den d') = q.cs.map (Cell.den d)) →
        ∀ i q', getH (g' :: r') i = some q' → ∃ q, getH (g :: r) i = some q ∧ q'.own = q.own ∧ q'.ty = q.ty ∧ SameTl d d' q.tl q'.tl ∧ q'.cs.map (Cell.den d') = q.cs.map (Cell.den d) := fun h1 h2 i q' hq => by
      cases i with
      | zero => exact h1 q' hq
      | succ i => exact h2 i q' hq
    cases g with
    | none =>
      simp only [cutHs, Option.map_eq_some_iff, Prod.mk.injEq] at h
      obtain ⟨⟨es0, l0, r0⟩, h1, rfl, rfl, rfl⟩ := h
      exact one (fun q' hq => by cases hq) (cutHs_reg h2 r n q (id + 1) _ _ _ h1 hA hL)
    | some g =>
      simp only [cutHs] at h
      cases c1 : memN id A.ls <;> simp only [c1, cond_false, cond_true] at h
      · cases c2 : memN id A.hs <;> simp only [c2, cond_false, cond_true] at h
        · simp only [Option.map_eq_some_iff, Prod.mk.injEq] at h
          obtain ⟨⟨es0, l0, r0⟩, h1, rfl, rfl, rfl⟩ := h
          refine one (fun q' hq => ?_) (cutHs_reg h2 r n q (id + 1) _ _ _ h1 hA hL)
          cases c3 : regSc n0 m (some g) <;> simp only [c3, cond_false, cond_true] at hq
          · cases hq
          · cases hq
            simp only [regSc, Bool.and_eq_true] at c3
            exact ⟨g, rfl, rfl, rfl, h2.tl c3.2, h2.cells c3.1⟩
        · split at h
          · rename_i es0 cs' hv
            cases c4 : g.tl.isNone <;> simp only [c4, cond_false, cond_true] at hv
            · cases hv
            have c4 : g.tl = none := by simpa using c4
            simp only [Option.map_eq_some_iff, Prod.mk.injEq] at h
            obtain ⟨⟨es1, l1, r0⟩, h1, rfl, rfl, rfl⟩ := h
            refine one (fun q' hq => ?_) (cutHs_reg h2 r _ q (id + 1) _ _ _ h1 hA.right hL)
            cases hq
            exact ⟨g, rfl, rfl, rfl, by simp only [c4]; trivial, cutCs_den h2.Φ h2.α _ _ _ _ hv hA.left⟩
          · cases h
      · split at h
        · rename_i ks l hv
          cases c4 : (g.own && g.cs.isEmpty) <;> simp only [c4, cond_false, cond_true] at hv
          · cases hv
          simp only [Bool.and_eq_true, List.isEmpty_iff] at c4
          simp only [Option.map_eq_some_iff, Prod.mk.injEq] at h
          obtain ⟨⟨es1, l1, r0⟩, h1, rfl, rfl, rfl⟩ := h
          simp only [List.map_cons] at hL
          refine one (fun q' hq => ?_) (cutHs_reg h2 r n (q + 1) (id + 1) _ _ _ h1 hA hL.cons.2)
          cases hq
          refine ⟨g, rfl, rfl, rfl, ?_, ?_⟩
          · rw [hv]; exact ⟨rfl, hL.cons.1⟩
          · show g.cs.map _ = g.cs.map _
            rw [c4.2]; rfl
        · cases h

theorem cutHs_has {n0 : Nat} {A : Ann} : ∀ (l : List (Option Reg)) (n q id : Nat) (es : List E) (les : List (L × List EK)) (l' : List (Option Reg)), cutHs n0 m A n q id l = some (es, les, l') → l.all (regSc n0 m) = true →
    l'.length = l.length ∧ Has l l'
  | [], _, _, _, es, les, l', h, _ => by
    simp only [cutHs, Option.some.injEq, Prod.mk.injEq] at h
    rw [← h.2.2]
    exact ⟨rfl, Has.refl _⟩
  | g :: r, n, q, id, es, les, l', h, hA => by
    simp only [List.all_cons, Bool.and_eq_true] at hA
    have one : ∀ {g' : Option Reg} {r' : List (Option Reg)}, (g.isSome = true → g'.isSome = true) → (r'.length = r.length ∧ Has r r') → (g' :: r').length = (g :: r).length ∧ Has (g :: r) (g' :: r') := fun h1 h2 =>
      ⟨by simp [h2.1], fun i hi => by
        cases i with
        | zero => exact h1 hi
        | succ i => exact h2.2 i hi⟩
    cases g with
    | none =>
      simp only [cutHs, Option.map_eq_some_iff, Prod.mk.injEq] at h
      obtain ⟨⟨es0, l0, r0⟩, h1, rfl, rfl, rfl⟩ := h
      exact one (fun h => h) (cutHs_has r n q _ _ _ _ h1 hA.2)
    | some g =>
      simp only [cutHs] at h
      cases c1 : memN id A.ls <;> simp only [c1, cond_false, cond_true] at h
      · cases c2 : memN id A.hs <;> simp only [c2, cond_false, cond_true] at h
        · simp only [Option.map_eq_some_iff, Prod.mk.injEq] at h
          obtain ⟨⟨es0, l0, r0⟩, h1, rfl, rfl, rfl⟩ := h
          refine one (fun _ => ?_) (cutHs_has r n q _ _ _ _ h1 hA.2)
          rw [hA.1]; rfl
        · split at h
          · simp only [Option.map_eq_some_iff, Prod.mk.injEq] at h
            obtain ⟨⟨es1, l1, r0⟩, h1, rfl, rfl, rfl⟩ := h
            exact one (fun _ => rfl) (cutHs_has r _ q _ _ _ _ h1 hA.2)
          · cases h
      · split at h
        · simp only [Option.map_eq_some_iff, Prod.mk.injEq] at h
          obtain ⟨⟨es1, l1, r0⟩, h1, rfl, rfl, rfl⟩ := h
          exact one (fun _ => rfl) (cutHs_has r _ _ _ _ _ _ h1 hA.2)
        · cases h

theorem cutHs_ok {n0 : Nat} {A : Ann} (hn : n0 ≤ d.ρ.i.length) (hm : m ≤ d.ρ.l.length) {ys : List Int} {zs : List (List Int)} {hp : List (Option Reg)} : ∀ (l : List (Option Reg)) (n q id : Nat) (es : List E) (les : List (L × List EK)) (l' : List (Option Reg)), cutHs n0 m A n q id l = some (es, les, l') →
    (∀ i r, getH l i = some r → ∀ c ∈ r.cs, c.ok d hp) → (∀ i r, getH l i = some r → r.tl.isSome = true → r.cs = []) → ∀ i r, getH l' i = some r → ∀ c ∈ r.cs, c.ok (d.push2 ys zs) hp
  | [], _, _, _, es, les, l', h, hA, _ => by
    simp only [cutHs, Option.some.injEq, Prod.mk.injEq] at h
    rw [← h.2.2]
    exact fun i r hr => by rw [getH_nil] at hr; cases hr
  | g :: r, n, q, id, es, les, l', h, hA, hB => by
    have hr : ∀ i q, getH r i = some q → ∀ c ∈ q.cs, c.ok d hp := fun i q hq => hA (i + 1) q hq
    have hb : ∀ i q, getH r i = some q → q.tl.isSome = true → q.cs = [] := fun i q hq => hB (i + 1) q hq
    have one : ∀ {g' : Option Reg} {r' : List (Option Reg)}, (∀ q, g' = some q → ∀ c ∈ q.cs, c.ok (d.push2 ys zs) hp) → (∀ i q, getH r' i = some q → ∀ c ∈ q.cs, c.ok (d.push2 ys zs) hp) →
        ∀ i q, getH (g' :: r') i = some q → ∀ c ∈ q.cs, c.ok (d.push2 ys zs) hp := fun h1 h2 i q hq => by
      cases i with
      | zero => exact h1 q hq
      | succ i => exact h2 i q hq
    cases g with
    | none =>
      simp only [cutHs, Option.map_eq_some_iff, Prod.mk.injEq] at h
      obtain ⟨⟨es0, l0, r0⟩, h1, rfl, rfl, rfl⟩ := h
      exact one (fun q hq => by cases hq) (cutHs_ok hn hm r n q _ _ _ _ h1 hr hb)
    | some g =>
      have hg := hA 0 g rfl
      have hgb := hB 0 g rfl
      simp only [cutHs] at h
      cases c1 : memN id A.ls <;> simp only [c1, cond_false, cond_true] at h
      · cases c2 : memN id A.hs <;> simp only [c2, cond_false, cond_true] at h
        · simp only [Option.map_eq_some_iff, Prod.mk.injEq] at h
          obtain ⟨⟨es0, l0, r0⟩, h1, rfl, rfl, rfl⟩ := h
          refine one (fun q hq => ?_) (cutHs_ok hn hm r n q _ _ _ _ h1 hr hb)
          cases c3 : regSc n0 m (some g) <;> simp only [c3, cond_false, cond_true] at hq
          · cases hq
          · cases hq
            simp only [regSc, Bool.and_eq_true] at c3
            exact fun c hc => (Cell.ok_push2 hn hm (List.all_eq_true.1 c3.1 c hc)).2 (hg c hc)
        · split at h
          · rename_i es0 cs' hv
            cases c4 : g.tl.isNone <;> simp only [c4, cond_false, cond_true] at hv
            · cases hv
            simp only [Option.map_eq_some_iff, Prod.mk.injEq] at h
            obtain ⟨⟨es1, l1, r0⟩, h1, rfl, rfl, rfl⟩ := h
            refine one (fun q hq => ?_) (cutHs_ok hn hm r _ q _ _ _ _ h1 hr hb)
            cases hq
            exact cutCs_ok (d := d) (d' := d.push2 ys zs) rfl _ _ _ _ hv hg
          · cases h
      · split at h
        · rename_i ks l hv
          cases c4 : (g.own && g.cs.isEmpty) <;> simp only [c4, cond_false, cond_true] at hv
          · cases hv
          simp only [Bool.and_eq_true, List.isEmpty_iff] at c4
          simp only [Option.map_eq_some_iff, Prod.mk.injEq] at h
          obtain ⟨⟨es1, l1, r0⟩, h1, rfl, rfl, rfl⟩ := h
          refine one (fun q hq => ?_) (cutHs_ok hn hm r _ _ _ _ _ _ h1 hr hb)
          cases hq
          intro c hc
          rw [show g.cs = [] from hgb (by rw [hv]; rfl)] at hc
          cases hc
        · cases h

/-- What the lists of the head are within. -/
theorem cutHs_lists {n0 : Nat} {A : Ann} {S : St} (hS : Sat X d S a w) {R : Bds} (hR : RV d.Φ R d.ρ) : ∀ (l : List (Option Reg)) (n q id : Nat) (es : List E) (les : List (L × List EK)) (l' : List (Option Reg)), cutHs n0 m A n q id l = some (es, les, l') →
    (∀ i r, getH l i = some r → ∃ j, getH S.heap j = some r) → (∀ p ∈ les, ((p.1.den d.Φ d.ρ).length : Int) ≤ maxLen) → allL (lrsOf (les.map (·.2))) ((les.map (·.1)).map (L.den d.Φ d.ρ))
  | [], _, _, _, es, les, l', h, _, _ => by
    simp only [cutHs, Option.some.injEq, Prod.mk.injEq] at h
    rw [← h.2.1]
    exact trivial
  | g :: r, n, q, id, es, les, l', h, hA, hl => by
    have hr : ∀ i q, getH r i = some q → ∃ j, getH S.heap j = some q := fun i q hq => hA (i + 1) q hq
    cases g with
    | none =>
      simp only [cutHs, Option.map_eq_some_iff, Prod.mk.injEq] at h
      obtain ⟨⟨es0, l0, r0⟩, h1, rfl, rfl, rfl⟩ := h
      exact cutHs_lists hS hR r n q _ _ _ _ h1 hr hl
    | some g =>
      obtain ⟨j, hg⟩ := hA 0 g rfl
      simp only [cutHs] at h
      cases c1 : memN id A.ls <;> simp only [c1, cond_false, cond_true] at h
      · cases c2 : memN id A.hs <;> simp only [c2, cond_false, cond_true] at h
        · simp only [Option.map_eq_some_iff, Prod.mk.injEq] at h
          obtain ⟨⟨es0, l0, r0⟩, h1, rfl, rfl, rfl⟩ := h
          exact cutHs_lists hS hR r n q _ _ _ _ h1 hr hl
        · split at h
          · simp only [Option.map_eq_some_iff, Prod.mk.injEq] at h
            obtain ⟨⟨es1, l1, r0⟩, h1, rfl, rfl, rfl⟩ := h
            exact cutHs_lists hS hR r _ q _ _ _ _ h1 hr hl
          · cases h
      · split at h
        · rename_i ks l hv
          cases c4 : (g.own && g.cs.isEmpty) <;> simp only [c4, cond_false, cond_true] at hv
          · cases hv
          simp only [Bool.and_eq_true, List.isEmpty_iff] at c4
          simp only [Option.map_eq_some_iff, Prod.mk.injEq] at h
          obtain ⟨⟨es1, l1, r0⟩, h1, rfl, rfl, rfl⟩ := h
          have hreg := hS.hp.reg _ _ hg
          unfold RegIs at hreg
          rw [hv] at hreg
          have hK := hreg.2.1
          exact ⟨⟨fun x hx => kinds_has hK x hx, hl _ List.mem_cons_self⟩, cutHs_lists hS hR r _ _ _ _ _ _ h1 hr fun p hp => hl p (List.mem_cons_of_mem _ hp)⟩
        · cases h

theorem lenOk_len {R : Bds} (hR : RV d.Φ R d.ρ) {l : L} (h : lenOk R l = true) : ((l.den d.Φ d.ρ).length : Int) ≤ maxLen := by
  unfold lenOk at h
  split at h
  · rename_i p hp
    exact Int.le_trans (L.iv_ok hR _ hp).2 (ile_iff.1 h)
  · cases h

/-! ### One state says no more than another one -/
theorem Cell.same_eq {a b : Cell} (h : a.same b = true) : a = b := by
  cases a <;> cases b <;> simp only [Cell.same, Bool.false_eq_true, Bool.and_eq_true, decide_eq_true_eq, Nat.beq_eq] at h <;> try rfl
  · rw [h.1, E.eqb_eq _ _ h.2]
  · rw [B.eqb_eq _ _ h]
  · rw [h.1, h.2]
  · rw [h]
  · rw [L.eqb_eq _ _ h]
  · rw [h.1, h.2.1, h.2.2.1, h.2.2.2]
  · rw [h.1, h.2.1, E.eqb_eq _ _ h.2.2.1, E.eqb_eq _ _ h.2.2.2]
  · rw [h.1, h.2.1, E.eqb_eq _ _ h.2.2.1, h.2.2.2]
theorem tlEqb_eq : ∀ {a b : Option (List EK × L)}, tlEqb a b = true → a = b
  | none, none, _ => rfl
  | some (a, l), some (b, k), h => by
    simp only [tlEqb, Bool.and_eq_true, decide_eq_true_eq] at h
    rw [h.1, L.eqb_eq _ _ h.2]
  | none, some _, h => by cases h
  | some _, none, h => by cases h
theorem sameCs_eq : ∀ {a b : List Cell}, sameCs a b = true → a = b
  | [], [], _ => rfl
  | a :: r, b :: s, h => by
    simp only [sameCs, Bool.and_eq_true] at h
    rw [Cell.same_eq h.1, sameCs_eq h.2]
  | [], _ :: _, h => by cases h
  | _ :: _, [], h => by cases h
theorem SV.le_is {v v' : SV} (h : v.le v' = true) {x : Value} (hx : v.is d x) : v'.is d x := by
  cases v <;> cases v' <;> first | trivial | (simp only [SV.le, Bool.false_eq_true] at h; done) | skip
  · rw [← Cell.same_eq h]; exact hx
  · rw [← sameCs_eq h]; exact hx
  · rename_i vs ws
    cases vs <;> cases ws <;> first | exact hx | (simp only [SV.le, Bool.false_eq_true] at h; done)
theorem leTs_is : ∀ {l l' : List SV}, leTs l l' = true → l'.length = l.length ∧ ∀ i x, (getT l i).is d x → (getT l' i).is d x
  | [], [], _ => ⟨rfl, fun _ _ h => h⟩
  | a :: r, b :: s, h => by
    simp only [leTs, Bool.and_eq_true] at h
    have := leTs_is h.2
    exact ⟨by simp [this.1], fun i x hx => by
      cases i with
      | zero => exact SV.le_is h.1 hx
      | succ i => exact this.2 i x hx⟩
  | [], _ :: _, h => by cases h
  | _ :: _, [], h => by cases h
theorem leHs_reg : ∀ {l l' : List (Option Reg)}, leHs l l' = true → ∀ i r', getH l' i = some r' → ∃ r, getH l i = some r ∧ r'.own = r.own ∧ r'.ty = r.ty ∧ r'.tl = r.tl ∧ r'.cs = r.cs
  | l, [], _, i, r', hr => by rw [getH_nil] at hr; cases hr
  | some g :: r, some q :: s, h, i, r', hr => by
    simp only [leHs, Bool.and_eq_true, Nat.beq_eq] at h
    cases i with
    | zero =>
      simp only [getH, Option.some.injEq] at hr
      subst hr
      refine ⟨g, rfl, ?_, h.2.1.symm, (tlEqb_eq h.2.2.1).symm, (sameCs_eq h.2.2.2.1).symm⟩
      have := h.1
      revert this
      cases g.own <;> cases q.own <;> simp
    | succ i => exact leHs_reg h.2.2.2.2 i r' hr
  | some g :: r, none :: s, h, i, r', hr => by
    simp only [leHs] at h
    cases i with
    | zero => cases hr
    | succ i => exact leHs_reg h i r' hr
  | none :: r, none :: s, h, i, r', hr => by
    simp only [leHs] at h
    cases i with
    | zero => cases hr
    | succ i => exact leHs_reg h i r' hr
  | [], _ :: _, h, _, _, _ => by simp [leHs] at h
  | none :: _, some _ :: _, h, _, _, _ => by simp [leHs] at h

theorem Cell.ok_α {c : Cell} {d : Dn} {α : Nat → Nat × Nat} {κ : Nat → Option Nat} {hp : List (Option Reg)} (h : c.ok d hp) : c.ok (⟨d.Φ, d.ρ, α, κ⟩ : Dn) hp := by
  cases c <;> exact h
theorem SV.ok_α {v : SV} {d : Dn} {α : Nat → Nat × Nat} {κ : Nat → Option Nat} {hp : List (Option Reg)} (h : v.ok d hp) : v.ok (⟨d.Φ, d.ρ, α, κ⟩ : Dn) hp := by
  cases v with
  | one c => exact Cell.ok_α h
  | agg cs => exact fun c hc => Cell.ok_α (h c hc)
  | tup vs => exact fun p hp c hc => Cell.ok_α (h p hp c hc)
  | any => trivial

/-! ### A state in two denotations -/
def StOk (d : Dn) (S : St) : Prop := (∀ t, (getT S.tmps t).ok d S.heap) ∧ ∀ i r, getH S.heap i = some r → ∀ c ∈ r.cs, c.ok d S.heap

theorem Sat.transfer {S S' : St} (h : Sat X d S a w) (hα : d'.α = d.α ∧ d'.κ = d.κ) (hl : S'.tmps.length = S.tmps.length) (ht : ∀ t x, (getT S.tmps t).is d x → (getT S'.tmps t).is d' x)
    (hh : ∀ i r', getH S'.heap i = some r' → ∃ r, getH S.heap i = some r ∧ r'.own = r.own ∧ r'.ty = r.ty ∧ SameTl d d' r.tl r'.tl ∧ r'.cs.map (Cell.den d') = r.cs.map (Cell.den d)) (ho : StOk d' S') (hpin : ∀ p, X.pin = some p → (getH S'.heap 0).isSome = true) : Sat X d' S' a w := by
  refine ⟨h.df, ⟨by rw [hl]; exact h.tm.len, fun t => ht t _ (h.tm.is t), ho.1⟩, ⟨h.hp.bl, fun i r' hr => ?_, fun i j ri rj hi hj oi oj hij => ?_, ho.2, h.hp.pin.same hα.1 hα.2 hpin⟩⟩
  · obtain ⟨r, h1, h2, h3, h5, h4⟩ := hh i r' hr
    exact (h.hp.reg i r h1).move h2 h3 (by rw [hα.1]) (by rw [hα.2]) h4 h5 fun _ => rfl
  · obtain ⟨qi, h1, h2, _, _⟩ := hh i ri hi
    obtain ⟨qj, h3, h4, _, _⟩ := hh j rj hj
    rw [hα.1]
    exact h.hp.sep i j qi qj h1 h3 (h2 ▸ oi) (h4 ▸ oj) hij

theorem at_push {n0 : Nat} {es : List E} (hn : d.ρ.i.length = n0) (d1 : Dn) (zs : List (List Int)) : At d1 (d.push2 (es.map (E.den d1.Φ d1.ρ)) zs) n0 es := fun j e he => by
  show (d.ρ.i ++ es.map (E.den d1.Φ d1.ρ)).getD (n0 + j) 0 = _
  subst hn
  rw [getD_append_right, List.getD_eq_getElem?_getD, List.getElem?_map, he]; rfl
theorem atL_push {m0 : Nat} {ls : List L} (hm : d.ρ.l.length = m0) (d1 : Dn) (ys : List Int) : AtL d1 (d.push2 ys (ls.map (L.den d1.Φ d1.ρ))) m0 ls := fun j e he => by
  show (d.ρ.l ++ ls.map (L.den d1.Φ d1.ρ)).getD (m0 + j) [] = _
  subst hm
  rw [getL_append_right, List.getD_eq_getElem?_getD, List.getElem?_map, he]; rfl

/-- The temporaries of lists that grow. -/
theorem growTs_length {A : Ann} {hp hp1 : List (Option Reg)} : ∀ (t : Nat) (os cs : List SV), (growTs A hp hp1 t os cs).length = cs.length
  | t, o :: os, c :: cs => by simp only [growTs, List.length_cons, growTs_length (t + 1) os cs]
  | _, [], _ => by simp [growTs]
  | _, _ :: _, [] => by simp [growTs]
theorem growTs_get {A : Ann} {hp hp1 : List (Option Reg)} : ∀ (t : Nat) (os cs : List SV) (i : Nat), ∃ u, getT (growTs A hp hp1 t os cs) i = growV A hp hp1 u (getT os i) (getT cs i) ∨ getT (growTs A hp hp1 t os cs) i = getT cs i
  | t, o :: os, c :: cs, 0 => ⟨t, .inl rfl⟩
  | t, o :: os, c :: cs, i + 1 => by
    obtain ⟨u, h⟩ := growTs_get (t + 1) os cs i
    exact ⟨u, by simpa only [growTs, getT] using h⟩
  | _, [], cs, i => ⟨0, .inr (by simp [growTs])⟩
  | _, _ :: _, [], i => ⟨0, .inr (by simp [growTs])⟩
theorem growV_is {A : Ann} {hp hp1 : List (Option Reg)} (hα : d'.α = d.α ∧ d'.κ = d.κ) (hh : ∀ i r', getH hp1 i = some r' → ∃ r, getH hp i = some r ∧ SameTl d d' r.tl r'.tl) {u : Nat} {o c : SV} {x : Value} (ho : o.is d x) (hc : c.is d' x) : (growV A hp hp1 u o c).is d' x := by
  unfold growV
  split
  · rename_i id s off len
    cases memN id A.gs
    · exact hc
    · simp only [cond_true]
      cases memN u A.any
      · trivial
      · simp only [cond_true]
        split
        · rename_i r r1 hr hr1
          split
          · rename_i k l k1 l1 ht ht1
            cases c1 : (off.eqb (.lit 0) && len.eqb (nelE l s)) <;> simp only [cond_false, cond_true]
            · trivial
            · simp only [Bool.and_eq_true] at c1
              have e1 := E.eqb_eq _ _ c1.1
              have e2 := E.eqb_eq _ _ c1.2
              subst e1 e2
              obtain ⟨r', h1, h2⟩ := hh id r1 hr1
              rw [hr] at h1
              cases h1
              rw [ht, ht1] at h2
              have hn : (nelE l1 s).den d'.Φ d'.ρ = (nelE l s).den d.Φ d.ρ := by
                rw [nelE_nat, nelE_nat, h2.2]
              simp only [SV.is, Cell.den] at ho ⊢
              rw [ho, hα.1, hα.2, hn]
              rfl
          · trivial
        · trivial
  · exact hc
theorem growV_ok {A : Ann} {hp hp1 : List (Option Reg)} {u : Nat} {o c : SV} (hc : c.ok d hp1) : (growV A hp hp1 u o c).ok d hp1 := by
  unfold growV
  split
  · rename_i id s off len
    cases memN id A.gs
    · exact hc
    · simp only [cond_true]
      cases memN u A.any
      · trivial
      · simp only [cond_true]
        split
        · rename_i r r1 hr hr1
          split
          · rename_i k l k1 l1 ht ht1
            cases c1 : (off.eqb (.lit 0) && len.eqb (nelE l s)) <;> simp only [cond_false, cond_true]
            · trivial
            · refine ⟨by rw [hr1]; rfl, Int.le_refl _, ?_⟩
              rw [nelE_nat]; exact Int.natCast_nonneg _
          · trivial
        · trivial
  · exact hc
theorem growTs_is {A : Ann} {hp hp1 : List (Option Reg)} (hα : d'.α = d.α ∧ d'.κ = d.κ) (hh : ∀ i r', getH hp1 i = some r' → ∃ r, getH hp i = some r ∧ SameTl d d' r.tl r'.tl) {os cs : List SV} {i : Nat} {x : Value} (ho : (getT os i).is d x) (hc : (getT cs i).is d' x) : (getT (growTs A hp hp1 0 os cs) i).is d' x := by
  obtain ⟨u, h | h⟩ := growTs_get (A := A) (hp := hp) (hp1 := hp1) 0 os cs i
  · rw [h]; exact growV_is hα hh ho hc
  · rw [h]; exact hc
theorem growTs_ok {A : Ann} {hp hp1 : List (Option Reg)} {os cs : List SV} {i : Nat} (hc : (getT cs i).ok d hp1) : (getT (growTs A hp hp1 0 os cs) i).ok d hp1 := by
  obtain ⟨u, h | h⟩ := growTs_get (A := A) (hp := hp) (hp1 := hp1) 0 os cs i
  · rw [h]; exact growV_ok hc
  · rw [h]; exact hc

theorem cutS_split {n0 m : Nat} {A : Ann} {S S1 : St} {es : List E} {les : List (L × List EK)} (h : cutS n0 m A S = some (es, les, S1)) :
    ∃ e1 e2, es = e1 ++ e2 ∧ (∃ ts, cutTs n0 m A n0 0 S.tmps = some (e1, ts) ∧ S1.tmps = growTs A S.heap S1.heap 0 S.tmps ts) ∧ cutHs n0 m A (n0 + e1.length) m 0 S.heap = some (e2, les, S1.heap) := by
  unfold cutS at h
  split at h
  · rename_i e1 ts h1
    simp only [Option.map_eq_some_iff, Prod.mk.injEq] at h
    obtain ⟨⟨e2, l2, hs⟩, h2, rfl, rfl, rfl⟩ := h
    exact ⟨e1, e2, rfl, ⟨ts, h1, rfl⟩, h2⟩
  · cases h

theorem Sat.noCells {S : St} (hS : Sat X d S a w) : ∀ i r, getH S.heap i = some r → r.tl.isSome = true → r.cs = [] := fun i r hr ht => by
  have := hS.hp.reg i r hr
  unfold RegIs at this
  split at this
  · rename_i e; rw [e] at ht; cases ht
  · exact this.1

theorem cutS_has {n0 m : Nat} {A : Ann} {S S1 : St} {es : List E} {les : List (L × List EK)} (h : cutS n0 m A S = some (es, les, S1)) (hs : S.sc n0 m = true) : Has S.heap S1.heap := by
  obtain ⟨e1, e2, rfl, ⟨ts, h1, h0⟩, h2⟩ := cutS_split h
  simp only [St.sc, Bool.and_eq_true] at hs
  exact (cutHs_has _ _ _ _ _ _ _ h2 hs.2).2
/-- The head is sound, whatever its numbers are. -/
theorem cutS_ok {n0 m : Nat} {A : Ann} {S S1 : St} {es : List E} {les : List (L × List EK)} (h : cutS n0 m A S = some (es, les, S1)) (hn : n0 ≤ d.ρ.i.length) (hm : m ≤ d.ρ.l.length) (hs : S.sc n0 m = true) (hS : Sat X d S a w) (ys : List Int) (zs : List (List Int)) : StOk (d.push2 ys zs) S1 := by
  obtain ⟨e1, e2, rfl, ⟨ts, h1, h0⟩, h2⟩ := cutS_split h
  simp only [St.sc, Bool.and_eq_true] at hs
  have hh := cutHs_has _ _ _ _ _ _ _ h2 hs.2
  exact ⟨fun t => by rw [h0]; exact growTs_ok (SV.ok_mono hh.2 (cutTs_ok hn hm _ _ _ _ _ h1 hS.tm.ok t)), fun i r hr c hc => Cell.ok_mono hh.2 (cutHs_ok hn hm _ _ _ _ _ _ _ h2 (fun i r hr => hS.hp.ids i r hr) hS.noCells i r hr c hc)⟩

/-- The state at the head. -/
theorem cutS_enter {n0 m : Nat} {A : Ann} {S S1 : St} {es : List E} {les : List (L × List EK)} (h : cutS n0 m A S = some (es, les, S1)) (hn : d.ρ.i.length = n0) (hm : d.ρ.l.length = m) (hs : S.sc n0 m = true) (hS : Sat X d S a w) :
    Sat X (d.push2 (es.map (E.den d.Φ d.ρ)) ((les.map (·.1)).map (L.den d.Φ d.ρ))) S1 a w := by
  have ho := cutS_ok h (Nat.le_of_eq hn.symm) (Nat.le_of_eq hm.symm) hs hS (es.map (E.den d.Φ d.ρ)) ((les.map (·.1)).map (L.den d.Φ d.ρ))
  have hA := at_push (es := es) hn d ((les.map (·.1)).map (L.den d.Φ d.ρ))
  have hL := atL_push (ls := les.map (·.1)) hm d (es.map (E.den d.Φ d.ρ))
  obtain ⟨e1, e2, rfl, ⟨ts, h1, h0⟩, h2⟩ := cutS_split h
  have h3 : Alike2 n0 m d (d.push2 ((e1 ++ e2).map (E.den d.Φ d.ρ)) ((les.map (·.1)).map (L.den d.Φ d.ρ))) := ⟨rfl, ⟨rfl, rfl⟩, by omega, by simp [Dn.push2, Env.push2]; omega, by
    show (d.ρ.i ++ _).take n0 = _
    rw [List.take_append_of_le_length (by omega)], by omega, by simp [Dn.push2, Env.push2]; omega, by
    show (d.ρ.l ++ _).take m = _
    rw [List.take_append_of_le_length (by omega)]⟩
  have ht := cutTs_is h3 _ _ _ _ _ h1 hA.left
  have hg := cutHs_reg h3 _ _ _ _ _ _ _ h2 hA.right hL
  refine hS.transfer ⟨rfl, rfl⟩ (by rw [h0, growTs_length]; exact ht.1) (fun t x hx => ?_) hg ho (fun p hp1 => cutS_has h hs 0 (hS.hp.pin p hp1).1)
  rw [h0]
  refine growTs_is (d := d) ?_ (fun i r' hr => by obtain ⟨r, a1, _, _, a2, _⟩ := hg i r' hr; exact ⟨r, a1, a2⟩) hx (ht.2 t x hx)
  exact ⟨rfl, rfl⟩

theorem getH_take : ∀ (l : List (Option Reg)) (k i : Nat) (r : Reg), getH (l.take k) i = some r → getH l i = some r
  | [], k, i, r, h => by simp at h; exact h
  | _ :: _, 0, i, r, h => by simp [getH_nil] at h
  | _ :: _, k + 1, 0, r, h => h
  | _ :: l, k + 1, i + 1, r, h => getH_take l k i r h

/-- The state at the end of a round is one at the head. -/
theorem cutS_again {n0 m k : Nat} {A : Ann} {S S1 S2 : St} {es : List E} {les : List (L × List EK)} {d0 : Dn} {xs : List Int} {us : List (List Int)} (h : cutS n0 m A ⟨S.tmps, S.heap.take k⟩ = some (es, les, S2)) (ht : leTs S2.tmps S1.tmps = true) (hh : leHs S2.heap S1.heap = true)
    (hn : d0.ρ.i.length = n0) (hm : d0.ρ.l.length = m) (hd : d.Φ = d0.Φ) (hi : d.ρ.i = d0.ρ.i ++ xs) (hl : d.ρ.l = d0.ρ.l ++ us) (hS : Sat X d S a w) (ho : ∀ ys zs, StOk (d0.push2 ys zs) S1) (hpn : ∀ p, X.pin = some p → (getH S1.heap 0).isSome = true) :
    Sat X ⟨d0.Φ, d0.ρ.push2 (es.map (E.den d.Φ d.ρ)) ((les.map (·.1)).map (L.den d.Φ d.ρ)), d.α, d.κ⟩ S1 a w := by
  let q : Dn := ⟨d0.Φ, d0.ρ, d.α, d.κ⟩
  have hA := at_push (es := es) (d := q) hn d ((les.map (·.1)).map (L.den d.Φ d.ρ))
  have hL := atL_push (ls := les.map (·.1)) (d := q) hm d (es.map (E.den d.Φ d.ρ))
  obtain ⟨e1, e2, rfl, ⟨ts, h1, h0⟩, h2⟩ := cutS_split h
  let d2 := q.push2 ((e1 ++ e2).map (E.den d.Φ d.ρ)) ((les.map (·.1)).map (L.den d.Φ d.ρ))
  have h3 : Alike2 n0 m d d2 := ⟨hd.symm, ⟨rfl, rfl⟩, by rw [hi]; simp; omega, by simp [d2, Dn.push2, Env.push2, q]; omega, by
    show (d0.ρ.i ++ _).take n0 = _
    rw [hi, List.take_append_of_le_length (by omega), List.take_append_of_le_length (by omega)], by rw [hl]; simp; omega, by simp [d2, Dn.push2, Env.push2, q]; omega, by
    show (d0.ρ.l ++ _).take m = _
    rw [hl, List.take_append_of_le_length (by omega), List.take_append_of_le_length (by omega)]⟩
  have k1 := cutTs_is h3 _ _ _ _ _ h1 hA.left
  have k2 := leTs_is (d := d2) ht
  have hg := cutHs_reg h3 _ _ _ _ _ _ _ h2 hA.right hL
  refine hS.transfer (d' := d2) ⟨rfl, rfl⟩ (k2.1.trans (by rw [h0, growTs_length]; exact k1.1)) (fun t x hx => k2.2 t x (by
    rw [h0]
    refine growTs_is (d := d) ?_ (fun i r' hr => by obtain ⟨r, a1, _, _, a2, _⟩ := hg i r' hr; exact ⟨r, a1, a2⟩) hx (k1.2 t x hx)
    exact ⟨rfl, rfl⟩)) (fun i r' hr => ?_) ?_ hpn
  · obtain ⟨r2, a1, a2, a3, a5, a4⟩ := leHs_reg hh i r' hr
    obtain ⟨r, b1, b2, b3, b5, b4⟩ := cutHs_reg h3 _ _ _ _ _ _ _ h2 hA.right hL i r2 a1
    exact ⟨r, getH_take _ _ _ _ b1, a2.trans b2, a3.trans b3, by rw [a5]; exact b5, by rw [a4]; exact b4⟩
  · have := ho ((e1 ++ e2).map (E.den d.Φ d.ρ)) ((les.map (·.1)).map (L.den d.Φ d.ρ))
    exact ⟨fun t => SV.ok_α (this.1 t), fun i r hr c hc => Cell.ok_α (this.2 i r hr c hc)⟩

/-! ### A tree's numbers grow -/
theorem holds_ext {K : Ex → Bds → St → Env → Prop} : ∀ (t : T) (ρ : Env), t.holds Φ Pr ρ K → t.holds Φ Pr ρ fun x R S ρ' => K x R S ρ' ∧ ∃ ys zs, ρ' = ρ.push2 ys zs
  | .fail _, _, h => h
  | .leaf _ _ _, ρ, h => ⟨h, [], [], by simp [Env.push2]⟩
  | .ite _ t e, ρ, h => ⟨fun hb => holds_ext t ρ (h.1 hb), fun hb => holds_ext e ρ (h.2 hb)⟩
  | .need _ t, ρ, h => ⟨h.1, holds_ext t ρ h.2⟩
  | .bind e t, ρ, h => holds_mono t _ (holds_ext t _ h) fun x R S ρ' hk => ⟨hk.1, by obtain ⟨ys, zs, rfl⟩ := hk.2; exact ⟨[e.den Φ ρ] ++ ys, zs, by simp [Env.push2, Env.pushI]⟩⟩
  | .call g as n t, ρ, h => holds_mono t _ (holds_ext t _ h) fun x R S ρ' hk => ⟨hk.1, by obtain ⟨ys, zs, rfl⟩ := hk.2; exact ⟨norm n (Φ g (as.denE Φ ρ) (as.denL Φ ρ)).1 ++ ys, zs, by simp [Env.push2, Env.pushI]⟩⟩
  | .calll _ _ _ _ t, ρ, h => fun ys us h1 h2 h3 => holds_mono t _ (holds_ext t _ (h ys us h1 h2 h3)) fun x R S ρ' hk => ⟨hk.1, by obtain ⟨y, z, rfl⟩ := hk.2; exact ⟨ys ++ y, us ++ z, by simp [Env.push2]⟩⟩
  | .again _ _ _ _ _ _, _, h => h
  | .loop _ _ _ _ _ t, ρ, h => ⟨h.1, h.2.1, fun ys us h1 h2 h3 => holds_mono t _ (holds_ext t _ (h.2.2 ys us h1 h2 h3)) fun x R S ρ' hk => ⟨hk.1, by obtain ⟨y, z, rfl⟩ := hk.2; exact ⟨ys ++ y, us ++ z, by simp [Env.push2]⟩⟩⟩
where
  holds_mono {K K' : Ex → Bds → St → Env → Prop} : ∀ (t : T) (ρ : Env), t.holds Φ Pr ρ K → (∀ x R S ρ', K x R S ρ' → K' x R S ρ') → t.holds Φ Pr ρ K'
    | .fail _, _, h, _ => h
    | .leaf _ _ _, _, h, k => k _ _ _ _ h
    | .ite _ t e, ρ, h, k => ⟨fun hb => holds_mono t ρ (h.1 hb) k, fun hb => holds_mono e ρ (h.2 hb) k⟩
    | .need _ t, ρ, h, k => ⟨h.1, holds_mono t ρ h.2 k⟩
    | .bind _ t, _, h, k => holds_mono t _ h k
    | .call _ _ _ t, _, h, k => holds_mono t _ h k
    | .calll _ _ _ _ t, _, h, k => fun ys us h1 h2 h3 => holds_mono t _ (h ys us h1 h2 h3) k
    | .again _ _ _ _ _ _, _, h, _ => h
    | .loop _ _ _ _ _ t, _, h, k => ⟨h.1, h.2.1, fun ys us h1 h2 h3 => holds_mono t _ (h.2.2 ys us h1 h2 h3) k⟩

end
end Go.Proofs.YtelfpnkhdaaeoaaDoor.Sx
