/-
  The symbolic executor: what values and blocks stand for, and that each operation does what the executor says.
-/
import Derived.Test.YtelfpnkhdaaeoaaDoorSxC
import Derived.Laws.World
import Derived.Laws.Sem
namespace Go.Proofs.YtelfpnkhdaaeoaaDoor.Sx
open Go Go.RowKit

/-- What expressions stand for, and where the blocks lie. -/
structure Dn where
  Φ : Fns
  ρ : Env
  α : Nat → Nat × Nat
  /-- how many elements a block of numbers has room for; nothing: the slice is nil -/
  κ : Nat → Option Nat

def u8 (x : Int) : UInt8 := UInt8.ofNat x.toNat

def Cell.den (d : Dn) : Cell → Value
  | .int k e => .int k (e.den d.Φ d.ρ)
  | .bool b => .bool (b.den d.Φ d.ρ)
  | .ptr id off => .pointer (some ⟨(d.α id).1, (d.α id).2 + off, none⟩)
  | .ptrx id off _ s e => .pointer (some ⟨(d.α id).1, (d.α id).2 + (off + (e.den d.Φ d.ρ).toNat * s), none⟩)
  | .nilp => .pointer none
  | .nilf => .nilFunc
  | .nils => .slice none 0 0
  | .fn f => .func (.func f) #[] #[]
  | .str l => .string ⟨((l.den d.Φ d.ρ).map u8).toArray⟩
  | .slc id off len cap => .slice (some ⟨(d.α id).1, (d.α id).2 + off, none⟩) len cap
  | .sl id s off len => .slice (match d.κ id with
      | none => none
      | some _ => some ⟨(d.α id).1, (d.α id).2 + (off.den d.Φ d.ρ).toNat * s, none⟩) (len.den d.Φ d.ρ).toNat (match d.κ id with
      | none => 0
      | some e => e - (off.den d.Φ d.ρ).toNat)
  | .lp id s e f => .pointer (some ⟨(d.α id).1, (d.α id).2 + ((e.den d.Φ d.ρ).toNat * s + f), none⟩)
  | .ifc t k e => .iface t (.int k (e.den d.Φ d.ρ))
  | .clo g ps => .func (.func g) #[] (ps.map fun p => Value.pointer (some ⟨(d.α p.1).1, (d.α p.1).2 + p.2, none⟩)).toArray

def compV (d : Dn) (p : Bool × List Cell) : Value := match p with
  | (true, cs) => .agg (cs.map (Cell.den d)).toArray
  | (false, c :: _) => c.den d
  | (false, []) => undef

def SV.is (d : Dn) : SV → Value → Prop
  | .one c, v => v = c.den d
  | .agg cs, v => v = .agg (cs.map (Cell.den d)).toArray
  | .tup vs, v => v = .tuple (vs.map (compV d)).toArray
  | .any, _ => True

/-- The block that a cell points to is there. -/
def Cell.ok (d : Dn) (hp : List (Option Reg)) : Cell → Prop
  | .ptr id _ => (getH hp id).isSome = true
  | .slc id _ _ _ => (getH hp id).isSome = true
  | .ptrx id _ n _ e => (getH hp id).isSome = true ∧ 0 ≤ e.den d.Φ d.ρ ∧ e.den d.Φ d.ρ < n
  | .sl id _ off len => (getH hp id).isSome = true ∧ 0 ≤ off.den d.Φ d.ρ ∧ 0 ≤ len.den d.Φ d.ρ
  | .lp id _ e _ => (getH hp id).isSome = true ∧ 0 ≤ e.den d.Φ d.ρ
  | .clo _ ps => ∀ p ∈ ps, (getH hp p.1).isSome = true
  | _ => True
def SV.ok (d : Dn) (hp : List (Option Reg)) : SV → Prop
  | .one c => c.ok d hp
  | .agg cs => ∀ c ∈ cs, c.ok d hp
  | .tup vs => ∀ v ∈ vs, ∀ c ∈ v.2, c.ok d hp
  | .any => True

structure Ctx where
  P : Program
  w0 : World
  /-- a block of before that may be written: block 0 of the state; how many elements it has room for -/
  pin : Option (Nat × Nat)
def Ctx.own0 (X : Ctx) (b : Nat) : Prop := ∃ p, X.pin = some p ∧ p.1 = b
theorem noPin (P : Program) (w : World) : ∀ b, ¬ Ctx.own0 ⟨P, w, none⟩ b := fun _ h => by
  obtain ⟨_, h, _⟩ := h
  cases h
/-- A block that may be written. -/
def Ctx.Mine (X : Ctx) (b : Nat) : Prop := X.w0.heap.size ≤ b ∨ X.own0 b
/-- All else of before is as it was. -/
structure Bl (X : Ctx) (w : World) : Prop where
  os : w.os = X.w0.os
  tape : w.tape = X.w0.tape
  output : w.output = X.w0.output
  size : X.w0.heap.size ≤ w.heap.size
  block : ∀ k, ¬ X.Mine k → w.heap[k]? = X.w0.heap[k]?
theorem Bl.step {X : Ctx} {w w' : World} (h : Bl X w) (o : w'.os = w.os) (t : w'.tape = w.tape) (u : w'.output = w.output) (s : w.heap.size ≤ w'.heap.size) (b : ∀ k, ¬ X.Mine k → w'.heap[k]? = w.heap[k]?) : Bl X w' :=
  ⟨o.trans h.os, t.trans h.tape, u.trans h.output, Nat.le_trans h.size s, fun k hk => (b k hk).trans (h.block k hk)⟩
theorem Ctx.Mine.lt {X : Ctx} {b : Nat} (h : ¬ X.Mine b) : b < X.w0.heap.size := Nat.lt_of_not_le fun h' => h (.inl h')
theorem Bl.trans {X : Ctx} {w w' : World} {n : Nat} (h : Bl X w) (k : Below n w w') (hn : X.w0.heap.size ≤ n) : Bl X w' :=
  h.step k.os k.tape k.output k.size fun i hi => k.block i (Nat.lt_of_lt_of_le (Ctx.Mine.lt hi) hn)
theorem Bl.cell {X : Ctx} {w : World} (h : Bl X w) {p : Addr} (hp : ¬ X.Mine p.block) : w.cell? p = X.w0.cell? p := by
  have := h.block p.block hp
  simp only [World.cell?, this]
theorem Bl.below {X : Ctx} {w : World} (h : Bl X w) (hx : ∀ b, ¬ X.own0 b) : Below X.w0.heap.size X.w0 w :=
  ⟨h.os, h.tape, h.output, h.size, fun k hk => h.block k fun hm => hm.elim (fun h => by omega) (hx k)⟩
theorem Bl.refl (X : Ctx) : Bl X X.w0 := ⟨rfl, rfl, rfl, Nat.le_refl _, fun _ _ => rfl⟩

/-- A number as a value. -/
def kdVal : Kd → Int → Value
  | .i k, n => .int k n
  | .n k _ _, n => .int k n
  | .b, n => .bool (decide (n = 1))
def evl (k : EK) (n : Int) : Value := kdVal k.kd n
theorem evl_one (k : EK) (n : Int) : (evl k n).oneCell' = true := by cases k <;> rfl
theorem eiv_zero (k : EK) : (eiv k).has 0 := by cases k <;> exact ⟨by decide, by decide⟩
/-- The kind of a cell of a block of numbers. -/
def numsV (ks : List EK) (xs : List Int) : List Value := xs.mapIdx fun i x => evl (kindAt ks i) x
/-- Numbers of these kinds, whole elements. -/
def Kinds (ks : List EK) (xs : List Int) : Prop := (∀ i x, xs[i]? = some x → (eiv (kindAt ks i)).has x) ∧ xs.length % ks.length = 0

def RegIs0 (X : Ctx) (d : Dn) (id : Nat) (r : Reg) (w : World) : Prop :=
  if r.own = true then (d.α id).2 = 0 ∧ X.Mine (d.α id).1 ∧ w.heap[(d.α id).1]? = some (.cells (r.cs.map (Cell.den d)).toArray r.ty (0, 0))
  else ¬ X.Mine (d.α id).1 ∧ ∀ i c, r.cs[i]? = some c → X.w0.cell? ⟨(d.α id).1, (d.α id).2 + i, none⟩ = some (c.den d)

def LRegIs (X : Ctx) (d : Dn) (id : Nat) (ks : List EK) (xs : List Int) (own : Bool) (ty : TypeId) (w : World) : Prop :=
  Kinds ks xs ∧ (d.κ id = none → xs = []) ∧
  (if own = true then (d.α id).2 = 0 ∧ X.Mine (d.α id).1 ∧ ∃ rest e, w.heap[(d.α id).1]? = some (.cells (numsV ks xs ++ rest).toArray ty (0, 0)) ∧ d.κ id = some e ∧ xs.length + rest.length = e * ks.length
  else xs ≠ [] → ¬ X.Mine (d.α id).1 ∧ (∀ i x, xs[i]? = some x → X.w0.cell? ⟨(d.α id).1, (d.α id).2 + i, none⟩ = some (evl (kindAt ks i) x)) ∧ ∀ e, d.κ id = some e → xs.length ≤ e * ks.length)

def RegIs (X : Ctx) (d : Dn) (id : Nat) (r : Reg) (w : World) : Prop := match r.tl with
  | none => RegIs0 X d id r w
  | some p => r.cs = [] ∧ LRegIs X d id p.1 (p.2.den d.Φ d.ρ) r.own r.ty w

/-- The same numbers. -/
def SameTl (d d' : Dn) : Option (List EK × L) → Option (List EK × L) → Prop
  | none, none => True
  | some p, some q => q.1 = p.1 ∧ q.2.den d'.Φ d'.ρ = p.2.den d.Φ d.ρ
  | _, _ => False
theorem SameTl.refl (d : Dn) : ∀ t, SameTl d d t t
  | none => trivial
  | some _ => ⟨rfl, rfl⟩
theorem SameTl.eq {d d' : Dn} (hΦ : d'.Φ = d.Φ) (hρ : d'.ρ = d.ρ) : ∀ t, SameTl d d' t t
  | none => trivial
  | some _ => ⟨rfl, by rw [hΦ, hρ]⟩
theorem SameTl.none_iff {d d' : Dn} {t t' : Option (List EK × L)} (h : SameTl d d' t t') : t' = none ↔ t = none := by
  cases t <;> cases t' <;> simp_all [SameTl]

/-- A block in another state. -/
theorem RegIs.move {X : Ctx} {d d' : Dn} {id : Nat} {r r' : Reg} {w w' : World} (h : RegIs X d id r w) (ho : r'.own = r.own) (hty : r'.ty = r.ty) (hα : d'.α id = d.α id) (hκ : d'.κ id = d.κ id)
    (hcs : r'.cs.map (Cell.den d') = r.cs.map (Cell.den d)) (htl : SameTl d d' r.tl r'.tl) (hw : r.own = true → w'.heap[(d.α id).1]? = w.heap[(d.α id).1]?) : RegIs X d' id r' w' := by
  unfold RegIs at *
  cases h1 : r.tl with
  | none =>
    cases h2 : r'.tl with
    | some q => rw [h1, h2] at htl; exact htl.elim
    | none =>
      rw [h1] at h
      simp only at h ⊢
      unfold RegIs0 at *
      rw [ho, hty, hα]
      split
      · rename_i e
        rw [if_pos e] at h
        rw [hw e, hcs]; exact h
      · rename_i e
        rw [if_neg e] at h
        refine ⟨h.1, fun k c hk => ?_⟩
        have : (r.cs.map (Cell.den d))[k]? = some (c.den d') := by rw [← hcs, List.getElem?_map, hk]; rfl
        rw [List.getElem?_map, Option.map_eq_some_iff] at this
        obtain ⟨c', hc', e'⟩ := this
        rw [← e']; exact h.2 k c' hc'
  | some p =>
    cases h2 : r'.tl with
    | none => rw [h1, h2] at htl; exact htl.elim
    | some q =>
      rw [h1] at h
      rw [h1, h2] at htl
      simp only at h ⊢
      obtain ⟨a1, a2, a3, a4⟩ := h
      refine ⟨?_, ?_⟩
      · rw [a1] at hcs
        simpa using hcs
      · unfold LRegIs
        rw [ho, hty, hα, hκ, htl.1, htl.2]
        refine ⟨a2, a3, ?_⟩
        split
        · rename_i e
          rw [if_pos e] at a4
          rw [hw e]; exact a4
        · rename_i e
          rw [if_neg e] at a4
          exact a4
theorem RegIs.zero {X : Ctx} {d : Dn} {id : Nat} {r : Reg} {w : World} (h : RegIs X d id r w) (ht : r.tl = none) : RegIs0 X d id r w := by
  unfold RegIs at h
  rw [ht] at h
  exact h
theorem RegIs.of_zero {X : Ctx} {d : Dn} {id : Nat} {r : Reg} {w : World} (h : RegIs0 X d id r w) (ht : r.tl = none) : RegIs X d id r w := by
  unfold RegIs
  rw [ht]
  exact h
/-- Where a block of the call's own lies. -/
theorem RegIs.at {X : Ctx} {d : Dn} {id : Nat} {r : Reg} {w : World} (h : RegIs X d id r w) (ho : r.own = true) : X.Mine (d.α id).1 ∧ (d.α id).1 < w.heap.size := by
  have lt : ∀ {o : Obj}, w.heap[(d.α id).1]? = some o → (d.α id).1 < w.heap.size := fun e => by
    rcases Nat.lt_or_ge (d.α id).1 w.heap.size with h' | h'
    · exact h'
    · rw [Array.getElem?_eq_none h'] at e; cases e
  unfold RegIs at h
  split at h
  · unfold RegIs0 at h
    rw [if_pos ho] at h
    exact ⟨h.2.1, lt h.2.2⟩
  · unfold LRegIs at h
    rw [if_pos ho] at h
    obtain ⟨_, _, _, _, h2, _, _, h3, _⟩ := h
    exact ⟨h2, lt h3⟩

/-- Block 0 is where it was. -/
def Pin (X : Ctx) (d : Dn) (hp : List (Option Reg)) : Prop := ∀ p, X.pin = some p → (getH hp 0).isSome = true ∧ d.α 0 = (p.1, 0) ∧ d.κ 0 = some p.2
/-- The blocks are as the executor's heap says. -/
structure HP (X : Ctx) (d : Dn) (hp : List (Option Reg)) (w : World) : Prop where
  bl : Bl X w
  reg : ∀ id r, getH hp id = some r → RegIs X d id r w
  sep : ∀ i j ri rj, getH hp i = some ri → getH hp j = some rj → ri.own = true → rj.own = true → i ≠ j → (d.α i).1 ≠ (d.α j).1
  ids : ∀ id r, getH hp id = some r → ∀ c ∈ r.cs, c.ok d hp
  pin : Pin X d hp

/-- The temporaries are as the executor's. -/
structure TM (d : Dn) (hp : List (Option Reg)) (ts : List SV) (arr : Array Value) : Prop where
  len : arr.size = ts.length
  is : ∀ t, (getT ts t).is d (arr.getD t undef)
  ok : ∀ t, (getT ts t).ok d hp

/-- The state is as the executor's. -/
structure Sat (X : Ctx) (d : Dn) (S : St) (a : Act) (w : World) : Prop where
  df : a.defers = []
  tm : TM d S.heap S.tmps a.tmps
  hp : HP X d S.heap w

/-! ## Lists -/
theorem getT_nil (n : Nat) : getT [] n = .undef := by cases n <;> rfl
theorem getT_ge : ∀ (l : List SV) (n : Nat), l.length ≤ n → getT l n = .undef
  | [], n, _ => getT_nil n
  | _ :: _, 0, h => by simp at h
  | _ :: r, n + 1, h => by simp only [getT]; exact getT_ge r n (by simpa using h)
theorem setT_length : ∀ (l : List SV) (n : Nat) (v : SV), (setT l n v).length = l.length
  | [], _, _ => rfl
  | _ :: _, 0, _ => rfl
  | _ :: r, n + 1, v => by simp [setT, setT_length r n v]
theorem getT_setT_same : ∀ (l : List SV) (n : Nat) (v : SV), n < l.length → getT (setT l n v) n = v
  | [], _, _, h => by simp at h
  | _ :: _, 0, _, _ => rfl
  | _ :: r, n + 1, v, h => by simp only [setT, getT]; exact getT_setT_same r n v (by simpa using h)
theorem getT_setT_ne : ∀ (l : List SV) (n m : Nat) (v : SV), n ≠ m → getT (setT l n v) m = getT l m
  | [], _, m, _, _ => by cases m <;> rfl
  | _ :: _, 0, 0, _, h => absurd rfl h
  | _ :: _, 0, m + 1, _, _ => rfl
  | _ :: _, n + 1, 0, _, _ => rfl
  | _ :: r, n + 1, m + 1, v, h => by simp only [setT, getT]; exact getT_setT_ne r n m v (by omega)
theorem setH_length : ∀ (l : List (Option Reg)) (n : Nat) (v : Option Reg), (setH l n v).length = l.length
  | [], _, _ => rfl
  | _ :: _, 0, _ => rfl
  | _ :: r, n + 1, v => by simp [setH, setH_length r n v]
theorem getH_nil (n : Nat) : getH [] n = none := by cases n <;> rfl
theorem getH_ge : ∀ (l : List (Option Reg)) (n : Nat), l.length ≤ n → getH l n = none
  | [], n, _ => getH_nil n
  | _ :: _, 0, h => by simp at h
  | _ :: r, n + 1, h => by simp only [getH]; exact getH_ge r n (by simpa using h)
theorem getH_lt {l : List (Option Reg)} {n : Nat} {r : Reg} (h : getH l n = some r) : n < l.length := by
  rcases Nat.lt_or_ge n l.length with h' | h'
  · exact h'
  · rw [getH_ge l n h'] at h; cases h
theorem getH_setH_same : ∀ (l : List (Option Reg)) (n : Nat) (v : Option Reg), n < l.length → getH (setH l n v) n = v
  | [], _, _, h => by simp at h
  | _ :: _, 0, _, _ => rfl
  | _ :: r, n + 1, v, h => by simp only [setH, getH]; exact getH_setH_same r n v (by simpa using h)
theorem getH_setH_ne : ∀ (l : List (Option Reg)) (n m : Nat) (v : Option Reg), n ≠ m → getH (setH l n v) m = getH l m
  | [], _, m, _, _ => by cases m <;> rfl
  | _ :: _, 0, 0, _, h => absurd rfl h
  | _ :: _, 0, m + 1, _, _ => rfl
  | _ :: _, n + 1, 0, _, _ => rfl
  | _ :: r, n + 1, m + 1, v, h => by simp only [setH, getH]; exact getH_setH_ne r n m v (by omega)
theorem getH_append_none : ∀ (l : List (Option Reg)) (k n : Nat), getH (l ++ List.replicate k none) n = getH l n
  | [], k, n => by
    rw [List.nil_append, getH_nil]
    induction k generalizing n with
    | zero => exact getH_nil n
    | succ k ih => cases n with
      | zero => rfl
      | succ n => exact ih n
  | _ :: _, k, 0 => rfl
  | _ :: r, k, n + 1 => getH_append_none r k n

/-! ## Another place of the blocks, a greater heap -/
/-- d' has the blocks of hp where d has them, and all else alike. -/
structure Agree (hp : List (Option Reg)) (d d' : Dn) : Prop where
  Φ : d'.Φ = d.Φ
  ρ : d'.ρ = d.ρ
  α : ∀ id, (getH hp id).isSome = true → d'.α id = d.α id
  κ : ∀ id, (getH hp id).isSome = true → d'.κ id = d.κ id

theorem Agree.refl (hp : List (Option Reg)) (d : Dn) : Agree hp d d := ⟨rfl, rfl, fun _ _ => rfl, fun _ _ => rfl⟩

/-- hp' has all blocks of hp. -/
def Has (hp hp' : List (Option Reg)) : Prop := ∀ id, (getH hp id).isSome = true → (getH hp' id).isSome = true

theorem Has.refl (hp : List (Option Reg)) : Has hp hp := fun _ h => h
theorem Has.trans {a b c : List (Option Reg)} (h : Has a b) (k : Has b c) : Has a c := fun id hid => k id (h id hid)

theorem Pin.agree {X : Ctx} {hp hp' : List (Option Reg)} {d d' : Dn} (h : Pin X d hp) (ha : Agree hp d d') (hh : Has hp hp') : Pin X d' hp' := fun p hp1 => by
  obtain ⟨h1, h2, h3⟩ := h p hp1
  exact ⟨hh 0 h1, (ha.α 0 h1).trans h2, (ha.κ 0 h1).trans h3⟩
theorem Pin.same {X : Ctx} {hp hp' : List (Option Reg)} {d d' : Dn} (h : Pin X d hp) (hα : d'.α = d.α) (hκ : d'.κ = d.κ) (hh : ∀ p, X.pin = some p → (getH hp' 0).isSome = true) : Pin X d' hp' := fun p hp1 => by
  obtain ⟨h1, h2, h3⟩ := h p hp1
  exact ⟨hh p hp1, by rw [hα]; exact h2, by rw [hκ]; exact h3⟩

theorem Agree.trans {hp hp' : List (Option Reg)} {d d' d'' : Dn} (h : Agree hp d d') (k : Agree hp' d' d'') (hh : Has hp hp') : Agree hp d d'' :=
  ⟨k.Φ.trans h.Φ, k.ρ.trans h.ρ, fun id hid => (k.α id (hh id hid)).trans (h.α id hid), fun id hid => (k.κ id (hh id hid)).trans (h.κ id hid)⟩

theorem Cell.ok_mono {d : Dn} {hp hp' : List (Option Reg)} (h : Has hp hp') {c : Cell} (hc : c.ok d hp) : c.ok d hp' := by
  cases c <;> first | exact h _ hc | exact ⟨h _ hc.1, hc.2⟩ | trivial | exact fun p hp => h _ (hc p hp)
theorem SV.ok_mono {d : Dn} {hp hp' : List (Option Reg)} (h : Has hp hp') {v : SV} (hv : v.ok d hp) : v.ok d hp' := by
  cases v with
  | one c => exact Cell.ok_mono h hv
  | agg cs => exact fun c hc => Cell.ok_mono h (hv c hc)
  | tup vs => exact fun p hp c hc => Cell.ok_mono h (hv p hp c hc)
  | any => trivial

theorem Cell.ok_agree {hp hp' : List (Option Reg)} {d d' : Dn} (h : Agree hp d d') {c : Cell} (hc : c.ok d hp') : c.ok d' hp' := by
  cases c <;> first | exact hc | (simp only [Cell.ok, h.Φ, h.ρ]; exact hc)
theorem SV.ok_agree {hp hp' : List (Option Reg)} {d d' : Dn} (h : Agree hp d d') {v : SV} (hv : v.ok d hp') : v.ok d' hp' := by
  cases v with
  | one c => exact Cell.ok_agree h hv
  | agg cs => exact fun c hc => Cell.ok_agree h (hv c hc)
  | tup vs => exact fun p hp c hc => Cell.ok_agree h (hv p hp c hc)
  | any => trivial

theorem Cell.den_agree {hp : List (Option Reg)} {d d' : Dn} (h : Agree hp d d') {c : Cell} (hc : c.ok d hp) : c.den d' = c.den d := by
  cases c <;> simp only [Cell.den, h.Φ, h.ρ]
  · rw [h.α _ hc]
  · rw [h.α _ hc.1]
  · rw [h.α _ hc]
  · rw [h.α _ hc.1, h.κ _ hc.1]
  · rw [h.α _ hc.1]
  · congr 2
    exact List.map_congr_left fun p hp => by rw [h.α _ (hc p hp)]
theorem cells_agree {hp : List (Option Reg)} {d d' : Dn} (h : Agree hp d d') {cs : List Cell} (hc : ∀ c ∈ cs, c.ok d hp) : cs.map (Cell.den d') = cs.map (Cell.den d) :=
  List.map_congr_left fun c hm => Cell.den_agree h (hc c hm)
theorem compV_agree {hp : List (Option Reg)} {d d' : Dn} (h : Agree hp d d') {p : Bool × List Cell} (hc : ∀ c ∈ p.2, c.ok d hp) : compV d' p = compV d p := by
  obtain ⟨b, cs⟩ := p
  cases b
  · cases cs with
    | nil => rfl
    | cons c cs => exact Cell.den_agree h (hc c List.mem_cons_self)
  · simp only [compV]; rw [cells_agree h hc]
theorem SV.is_agree {hp : List (Option Reg)} {d d' : Dn} (h : Agree hp d d') {v : SV} (hv : v.ok d hp) {x : Value} (hx : v.is d x) : v.is d' x := by
  cases v with
  | one c => simp only [SV.is] at *; rw [hx, Cell.den_agree h hv]
  | agg cs => simp only [SV.is] at *; rw [hx, cells_agree h hv]
  | tup vs =>
    simp only [SV.is] at *
    rw [hx, List.map_congr_left fun p hm => compV_agree h (hv p hm)]
  | any => trivial

theorem TM.agree {hp hp' : List (Option Reg)} {d d' : Dn} {ts : List SV} {arr : Array Value} (h : TM d hp ts arr) (ha : Agree hp d d') (hh : Has hp hp') : TM d' hp' ts arr :=
  ⟨h.len, fun t => SV.is_agree ha (h.ok t) (h.is t), fun t => SV.ok_agree ha (SV.ok_mono hh (h.ok t))⟩

theorem TM.put {d : Dn} {hp : List (Option Reg)} {S : St} {a : Act} (h : TM d hp S.tmps a.tmps) {sv : SV} {v : Value} (hv : sv.is d v) (ho : sv.ok d hp) (dst : Option Nat) :
    TM d hp (S.put dst sv).tmps (a.put dst v).tmps := by
  cases dst with
  | none => exact h
  | some t =>
    refine ⟨by simp [Act.put, St.put, setT_length, h.len], fun k => ?_, fun k => ?_⟩
    · simp only [Act.put, St.put]
      by_cases hk : t = k
      · subst hk
        rcases Nat.lt_or_ge t S.tmps.length with hl | hl
        · rw [getT_setT_same _ _ _ hl]
          have : (a.tmps.setIfInBounds t v).getD t undef = v := by simp [h.len, hl]
          rw [this]; exact hv
        · rw [getT_ge _ _ (by rw [setT_length]; exact hl)]
          have : (a.tmps.setIfInBounds t v).getD t undef = undef := by simp [h.len, Nat.not_lt.2 hl]
          rw [this]; rfl
      · rw [getT_setT_ne _ _ _ _ hk]
        have : (a.tmps.setIfInBounds t v).getD k undef = a.tmps.getD k undef := by simp [Array.getElem?_setIfInBounds_ne hk]
        rw [this]; exact h.is k
    · simp only [St.put]
      by_cases hk : t = k
      · subst hk
        rcases Nat.lt_or_ge t S.tmps.length with hl | hl
        · rw [getT_setT_same _ _ _ hl]; exact ho
        · rw [getT_ge _ _ (by rw [setT_length]; exact hl)]; exact fun _ hm => by cases hm
      · rw [getT_setT_ne _ _ _ _ hk]; exact h.ok k

theorem undef_is (d : Dn) : SV.undef.is d undef := rfl
theorem undef_ok (d : Dn) (hp : List (Option Reg)) : SV.undef.ok d hp := fun _ hm => by cases hm

/-! ## Operands -/
theorem Cell.den_cells (d : Dn) (c : Cell) : (c.den d).cells = #[c.den d] := by
  cases c <;> rfl
theorem Cell.den_oneCell (d : Dn) (c : Cell) : (c.den d).oneCell' = true := by
  cases c <;> rfl

theorem bytes_back (s : ByteArray) : (⟨((bytesL s).map u8).toArray⟩ : ByteArray) = s := by
  have : (bytesL s).map u8 = s.data.toList := by
    unfold bytesL
    rw [List.map_map]
    have : (u8 ∘ fun b : UInt8 => (b.toNat : Int)) = id := by
      funext b; simp [u8]
    rw [this]; simp
  rw [this]

theorem cellOf_den (d : Dn) {v : Value} {c : Cell} (h : cellOf v = some c) : c.den d = v ∧ ∀ hp, c.ok d hp := by
  unfold cellOf at h
  split at h <;> first | cases h | skip
  · exact ⟨rfl, fun _ => trivial⟩
  · exact ⟨rfl, fun _ => trivial⟩
  · exact ⟨rfl, fun _ => trivial⟩
  · exact ⟨rfl, fun _ => trivial⟩
  · exact ⟨rfl, fun _ => trivial⟩
  · exact ⟨by simp only [Cell.den, L.den]; rw [bytes_back], fun _ => trivial⟩
  · rename_i f a b
    cases e : (a.isEmpty && b.isEmpty) <;> simp only [e, cond_false, cond_true] at h
    · cases h
    · cases h
      simp only [Bool.and_eq_true, Array.isEmpty_iff] at e
      exact ⟨by simp only [Cell.den, e.1, e.2], fun _ => trivial⟩

theorem cellsOf_den (d : Dn) : ∀ {vs : List Value} {cs : List Cell}, cellsOf vs = some cs → cs.map (Cell.den d) = vs ∧ ∀ hp, ∀ c ∈ cs, c.ok d hp
  | [], cs, h => by simp only [cellsOf, Option.some.injEq] at h; subst h; exact ⟨rfl, fun _ _ hm => by cases hm⟩
  | v :: r, cs, h => by
    simp only [cellsOf] at h
    split at h
    · rename_i c cs' h1 h2
      cases h
      have e1 := cellOf_den d h1
      have e2 := cellsOf_den d h2
      exact ⟨by simp [e1.1, e2.1], fun hp c hm => by
        cases hm with
        | head => exact e1.2 hp
        | tail _ hm => exact e2.2 hp c hm⟩
    · cases h

theorem ofValue_is (d : Dn) {v : Value} {sv : SV} (h : ofValue v = some sv) : sv.is d v ∧ ∀ hp, sv.ok d hp := by
  unfold ofValue at h
  split at h
  · simp only [Option.map_eq_some_iff] at h
    obtain ⟨cs, hc, rfl⟩ := h
    have e := cellsOf_den d hc
    exact ⟨by simp only [SV.is, e.1], e.2⟩
  · rename_i vs
    cases e : vs.isEmpty <;> simp only [e, cond_false, cond_true] at h
    · cases h
    · cases h
      rw [Array.isEmpty_iff] at e
      exact ⟨by simp only [SV.is, SV.undef, e]; rfl, undef_ok d⟩
  · simp only [Option.map_eq_some_iff] at h
    obtain ⟨c, hc, rfl⟩ := h
    have e := cellOf_den d hc
    exact ⟨e.1.symm, e.2⟩

/-- What operands read as. -/
structure Reads (d : Dn) (hp : List (Option Reg)) (v : Operand → Option SV) (e : Operand → Value) : Prop where
  is : ∀ x sv, v x = some sv → sv.is d (e x)
  ok : ∀ x sv, v x = some sv → sv.ok d hp

theorem TM.reads {d : Dn} {hp : List (Option Reg)} {S : St} {a : Act} (h : TM d hp S.tmps a.tmps) : Reads d hp (valOf S) a.eval where
  is := fun x sv hx => by
    cases x <;> simp only [valOf, Option.some.injEq] at hx
    · subst hx; exact h.is _
    · exact (ofValue_is d hx).1
    · cases hx
    · subst hx; rfl
  ok := fun x sv hx => by
    cases x <;> simp only [valOf, Option.some.injEq] at hx
    · subst hx; exact h.ok _
    · exact (ofValue_is d hx).2 hp
    · cases hx
    · subst hx; trivial

/-! ## Types -/
section types
variable {P : Program} {w : World} {t : TypeId}

theorem run_und {u : TypeDesc} (h : P.underlying t = some u) : (underlying t).run P w = .ok u w := by simp [underlying, h]
theorem run_info {i : TypeInfo} (h : P.info? t = some i) : (typeInfo t).run P w = .ok i w := by simp [typeInfo, h]
theorem run_size {n : Nat} (h : sizeT P t = some n) : (sizeOf t).run P w = .ok n w := by
  unfold sizeT at h
  simp only [Option.map_eq_some_iff] at h
  obtain ⟨i, hi, rfl⟩ := h
  simp [sizeOf, run_info hi]
theorem run_isAgg {u : TypeDesc} (h : P.underlying t = some u) : (isAgg t).run P w = .ok (aggT P t) w := by
  unfold isAgg aggT
  simp only [Sem.run_bind, run_und h, Result.andThen_ok, h]
  cases u <;> rfl
theorem run_zero {sv : SV} (d : Dn) (h : zeroT P t = some sv) : ∃ v, (zeroValue t).run P w = .ok v w ∧ sv.is d v ∧ (∀ hp, sv.ok d hp) := by
  unfold zeroT at h
  split at h
  · rename_i i hi
    split at h
    · rename_i v hv
      exact ⟨v, by simp [zeroValue, run_info hi, hv], ofValue_is d h⟩
    · cases h
  · cases h
theorem und_of_size {n : Nat} (h : sizeT P t = some n) : ∃ i, P.info? t = some i ∧ i.size = n := by
  unfold sizeT at h
  simpa using h
theorem aggT_und (h : aggT P t = true) : ∃ u, P.underlying t = some u := by
  unfold aggT at h
  split at h
  · exact ⟨_, by assumption⟩
  · exact ⟨_, by assumption⟩
  · cases h
end types

/-! ## Memory -/
theorem add_mk (b o n : Nat) : (⟨b, o, none⟩ : Addr).add n = ⟨b, o + n, none⟩ := by
  unfold Addr.add
  split
  · rename_i h; subst h; rfl
  · rfl

theorem RegIs.cell {X : Ctx} {d : Dn} {id : Nat} {r : Reg} {w : World} (h : RegIs X d id r w) (hb : Bl X w) {i : Nat} {c : Cell} (hc : r.cs[i]? = some c) :
    w.cell? ⟨(d.α id).1, (d.α id).2 + i, none⟩ = some (c.den d) := by
  cases ht : r.tl with
  | some p =>
    unfold RegIs at h
    rw [ht] at h
    rw [h.1] at hc
    simp at hc
  | none =>
  have h := h.zero ht
  unfold RegIs0 at h
  split at h
  · obtain ⟨h1, h2, h3⟩ := h
    simp [World.cell?, h3, h1, hc]
  · rw [hb.cell (p := ⟨(d.α id).1, (d.α id).2 + i, none⟩) h.1]
    exact h.2 i c hc
/-- A number of a block of numbers. -/
theorem RegIs.num {X : Ctx} {d : Dn} {id : Nat} {r : Reg} {w : World} (h : RegIs X d id r w) (hb : Bl X w) {ks : List EK} {l : L} (ht : r.tl = some (ks, l)) {i : Nat} {x : Int} (hx : (l.den d.Φ d.ρ)[i]? = some x) :
    w.cell? ⟨(d.α id).1, (d.α id).2 + i, none⟩ = some (evl (kindAt ks i) x) ∧ (eiv (kindAt ks i)).has x := by
  unfold RegIs at h
  rw [ht] at h
  obtain ⟨_, hk, _, h⟩ := h
  refine ⟨?_, hk.1 i x hx⟩
  simp only at h hx ⊢
  split at h
  · obtain ⟨h1, h2, rest, _, h3, _⟩ := h
    have hl : i < (l.den d.Φ d.ρ).length := by
      have := List.getElem?_eq_some_iff.1 hx
      exact this.1
    have hv : (numsV ks (l.den d.Φ d.ρ) ++ rest)[i]? = some (evl (kindAt ks i) x) := by
      rw [List.getElem?_append_left (by simp [numsV]; exact hl)]
      simp [numsV, List.getElem?_mapIdx, hx]
    simp [World.cell?, h3, h1, hv]
  · have hne : l.den d.Φ d.ρ ≠ [] := fun e => by rw [e] at hx; simp at hx
    obtain ⟨h1, h2, _⟩ := h hne
    rw [hb.cell (p := ⟨(d.α id).1, (d.α id).2 + i, none⟩) h1]
    exact h2 i x hx
/-- A list has room where it is. -/
theorem RegIs.cap {X : Ctx} {d : Dn} {id : Nat} {r : Reg} {w : World} (h : RegIs X d id r w) {ks : List EK} {l : L} (ht : r.tl = some (ks, l)) : (l.den d.Φ d.ρ).length ≤ (d.κ id).getD 0 * ks.length := by
  unfold RegIs at h
  rw [ht] at h
  obtain ⟨_, _, h0, h⟩ := h
  simp only at h h0 ⊢
  cases hκ : d.κ id with
  | none => rw [h0 hκ]; simp
  | some e =>
    simp only [Option.getD_some]
    split at h
    · obtain ⟨_, _, rest, e', _, h3, h4⟩ := h
      rw [hκ] at h3
      cases h3
      omega
    · by_cases hne : l.den d.Φ d.ρ = []
      · rw [hne]; simp
      · exact (h hne).2.2 e hκ

theorem loadCellsFrom_run {P : Program} {w : World} (b o : Nat) : ∀ (n i : Nat) (vs : List Value) (acc : Array Value), vs.length = n →
    (∀ k v, vs[k]? = some v → w.cell? ⟨b, o + (i + k), none⟩ = some v) → (loadCellsFrom ⟨b, o, none⟩ i n acc).run P w = .ok (acc ++ vs.toArray) w
  | 0, i, vs, acc, hl, _ => by
    have : vs = [] := List.length_eq_zero_iff.1 hl
    subst this; simp [loadCellsFrom]
  | n + 1, i, [], acc, hl, _ => by simp at hl
  | n + 1, i, v :: vs, acc, hl, h => by
    have h0 := h 0 v rfl
    have ih := loadCellsFrom_run (P := P) (w := w) b o n (i + 1) vs (acc.push v) (by simpa using hl) fun k x hx => by
      have := h (k + 1) x (by simpa using hx)
      rw [show i + 1 + k = i + (k + 1) by omega]; exact this
    simp only [loadCellsFrom, Sem.run_bind, add_mk, run_load]
    rw [show o + i = o + (i + 0) by omega, h0]
    simp only [Result.andThen_ok, ih]
    simp

theorem loadCells_run {P : Program} {w : World} {b o n : Nat} {vs : List Value} (hl : vs.length = n)
    (h : ∀ k v, vs[k]? = some v → w.cell? ⟨b, o + k, none⟩ = some v) : (loadCells ⟨b, o, none⟩ n).run P w = .ok vs.toArray w := by
  unfold loadCells
  rw [loadCellsFrom_run b o n 0 vs #[] hl fun k v hv => by simpa using h k v hv]
  simp

theorem drop_take_get {cs : List Cell} {off n k : Nat} {c : Cell} (h : ((cs.drop off).take n)[k]? = some c) : cs[off + k]? = some c ∧ k < n := by
  rw [List.getElem?_take] at h
  split at h
  · rw [List.getElem?_drop] at h; exact ⟨h, by assumption⟩
  · cases h

theorem headOne_some {cs : List Cell} {sv : SV} (h : headOne cs = some sv) : ∃ c r, cs = c :: r ∧ sv = .one c := by
  cases cs with
  | nil => cases h
  | cons c r => simp only [headOne, Option.some.injEq] at h; exact ⟨c, r, rfl, h.symm⟩

/-- The two forms of a part. -/
theorem partT_some {P : Program} {t : TypeId} {cs : List Cell} {off : Nat} {sv : SV} (h : partT P t cs off = some sv) :
    ∃ u n, P.underlying t = some u ∧ sizeT P t = some n ∧
      ((aggT P t = true ∧ off + n ≤ cs.length ∧ sv = .agg ((cs.drop off).take n)) ∨ (aggT P t = false ∧ ∃ c, cs[off]? = some c ∧ sv = .one c)) := by
  unfold partT at h
  cases e1 : P.underlying t with
  | none => rw [e1] at h; cases h
  | some u => cases e2 : sizeT P t with
    | none => rw [e1, e2] at h; cases h
    | some n =>
      rw [e1, e2] at h
      refine ⟨u, n, rfl, rfl, ?_⟩
      cases e3 : aggT P t <;> simp only [e3, cond_false, cond_true] at h
      · obtain ⟨c, r, hd, rfl⟩ := headOne_some h
        refine .inr ⟨rfl, c, ?_, rfl⟩
        have : (cs.drop off)[0]? = some c := by rw [hd]; rfl
        rw [List.getElem?_drop] at this
        exact this
      · cases e4 : Nat.ble (off + n) cs.length <;> simp only [e4, cond_false, cond_true] at h
        · cases h
        · cases h
          exact .inl ⟨rfl, Nat.le_of_ble_eq_true e4, rfl⟩

theorem partT_ok {P : Program} {t : TypeId} {cs : List Cell} {off : Nat} {sv : SV} {d : Dn} {hp : List (Option Reg)} (h : partT P t cs off = some sv) (hc : ∀ c ∈ cs, c.ok d hp) : sv.ok d hp := by
  obtain ⟨u, n, _, _, h | h⟩ := partT_some h
  · obtain ⟨_, _, rfl⟩ := h
    exact fun c hm => hc c (List.mem_of_mem_drop (List.mem_of_mem_take hm))
  · obtain ⟨_, c, hm, rfl⟩ := h
    exact hc c (List.mem_of_getElem? hm)

/-- 'part' of the model, on the cells of an aggregate. -/
theorem part_run {P : Program} {t : TypeId} {cs : List Cell} {off : Nat} {sv : SV} {w : World} (d : Dn) (h : partT P t cs off = some sv) :
    ∃ v, (part t (cs.map (Cell.den d)).toArray off).run P w = .ok v w ∧ sv.is d v := by
  obtain ⟨u, n, hu, hn, h | h⟩ := partT_some h
  · obtain ⟨ha, hl, rfl⟩ := h
    refine ⟨_, ?_, rfl⟩
    simp only [part, Sem.run_bind, run_isAgg hu, Result.andThen_ok, ha, if_true, run_size hn, Sem.run_pure]
    congr 2
    rw [List.extract_toArray]
    congr 1
    simp only [List.extract_eq_take_drop, List.map_take, List.map_drop]
    rw [show off + n - off = n by omega]
  · obtain ⟨ha, c, hc, rfl⟩ := h
    refine ⟨c.den d, ?_, rfl⟩
    simp only [part, Sem.run_bind, run_isAgg hu, Result.andThen_ok, ha, Bool.false_eq_true, if_false]
    simp [hc]

/-- Reading a variable: the part of a block. -/
theorem loadVar_run {X : Ctx} {P : Program} {d : Dn} {id : Nat} {r : Reg} {w : World} (hr : RegIs X d id r w) (hb : Bl X w)
    {t : TypeId} {off : Nat} {sv : SV} (h : partT P t r.cs off = some sv) :
    ∃ v, (loadVar t ⟨(d.α id).1, (d.α id).2 + off, none⟩).run P w = .ok v w ∧ sv.is d v := by
  obtain ⟨u, n, hu, hn, h | h⟩ := partT_some h
  · obtain ⟨ha, hl, rfl⟩ := h
    refine ⟨_, ?_, rfl⟩
    simp only [loadVar, Sem.run_bind, run_isAgg hu, Result.andThen_ok, ha, if_true, run_size hn, Sem.run_pure]
    rw [loadCells_run (vs := ((r.cs.drop off).take n).map (Cell.den d)) (by simp; omega) fun k v hv => by
      rw [List.getElem?_map, Option.map_eq_some_iff] at hv
      obtain ⟨c, hc, rfl⟩ := hv
      have := drop_take_get hc
      rw [Nat.add_assoc]
      exact hr.cell hb this.1]
    simp only [Result.andThen_ok]
  · obtain ⟨ha, c, hc, rfl⟩ := h
    refine ⟨c.den d, ?_, rfl⟩
    simp only [loadVar, Sem.run_bind, run_isAgg hu, Result.andThen_ok, ha, Bool.false_eq_true, if_false, run_load]
    rw [hr.cell hb hc]

end Go.Proofs.YtelfpnkhdaaeoaaDoor.Sx
