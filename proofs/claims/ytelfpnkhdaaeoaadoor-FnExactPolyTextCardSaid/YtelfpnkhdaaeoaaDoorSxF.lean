/-
  The symbolic executor: each operation that computes or reads does what the executor says.
-/
import Derived.Test.YtelfpnkhdaaeoaaDoorSxE
namespace Go.Proofs.YtelfpnkhdaaeoaaDoor.Sx
open Go Go.RowKit

/-- An obligation, in an environment. -/
structure Pres where
  fn : Nat → List Int → List (List Int) → Prop
  /-- what holds of a loop's numbers at each round, by the numbers ahead of it; and how many rounds are to come at most -/
  inv : Nat → Env → Env → Prop
  mu : Nat → Env → Env → Nat
instance : CoeFun Pres (fun _ => Nat → List Int → List (List Int) → Prop) := ⟨Pres.fn⟩
def O.holds (Φ : Fns) (Pr : Pres) (ρ : Env) : O → Prop
  | .b c => c.den Φ ρ = true
  | .pre g as => Pr g (as.denE Φ ρ) (as.denL Φ ρ)
  | .pan _ => True

def OsHold (Φ : Fns) (Pr : Pres) (ρ : Env) (os : List O) : Prop := ∀ o ∈ os, o.holds Φ Pr ρ

/-- The operation yields a value of the kind that the executor says; the world stays. -/
def Yld (P : Program) (e : Operand → Value) (o : Oper) (w : World) (d : Dn) (hp : List (Option Reg)) (r : Res) : Prop :=
  ∃ v, (execOp e o).run P w = .ok (.value v) w ∧ r.val.is d v ∧ r.val.ok d hp ∧ r.wr = []

section
variable {P : Program} {R : Bds} {d : Dn} {w : World} {hp : List (Option Reg)} {v : Operand → Option SV} {e : Operand → Value} {Pr : Pres}

theorem must_hold {b : B} (h : OsHold d.Φ Pr d.ρ (must b)) : b.den d.Φ d.ρ = true := by
  unfold must at h
  split at h
  · rfl
  · exact h (.b b) List.mem_cons_self

theorem OsHold.ask {Φ : Fns} {Pr : Pres} {ρ : Env} {os : List O} (h : OsHold Φ Pr ρ (os.filter O.ask)) : OsHold Φ Pr ρ os := fun o ho => by
  cases o with
  | pan e => trivial
  | b c => exact h _ (List.mem_filter.2 ⟨ho, rfl⟩)
  | pre g as => exact h _ (List.mem_filter.2 ⟨ho, rfl⟩)
theorem mem_panEs {e : E} : ∀ {os : List O}, e ∈ panEs os ↔ O.pan e ∈ os
  | [] => by simp [panEs]
  | .pan e' :: r => by simp [panEs, mem_panEs (os := r)]
  | .b c :: r => by simp [panEs, mem_panEs (os := r)]
  | .pre g as :: r => by simp [panEs, mem_panEs (os := r)]
theorem panEs_append : ∀ (a b : List O), panEs (a ++ b) = panEs a ++ panEs b
  | [], _ => rfl
  | .pan e' :: r, b => by simp [panEs, panEs_append r b]
  | .b c :: r, b => by simp [panEs, panEs_append r b]
  | .pre g as :: r, b => by simp [panEs, panEs_append r b]
theorem OsHold.left {a b : List O} (h : OsHold d.Φ Pr d.ρ (a ++ b)) : OsHold d.Φ Pr d.ρ a := fun o ho => h o (List.mem_append_left _ ho)
theorem OsHold.right {a b : List O} (h : OsHold d.Φ Pr d.ρ (a ++ b)) : OsHold d.Φ Pr d.ρ b := fun o ho => h o (List.mem_append_right _ ho)

/-! ### Whole numbers -/
theorem binInt_run (hR : RV d.Φ R d.ρ) {op : BinOp} {k : IntKind} {a b : E} {r : Res} (h : binInt R op k a b = some r) (ho : OsHold d.Φ Pr d.ρ r.os) (t : TypeId) :
    ∃ x, (binOp op t (.int k (a.den d.Φ d.ρ)) (.int k (b.den d.Φ d.ρ))).run P w = .ok x w ∧ r.val.is d x ∧ (∀ hp, r.val.ok d hp) ∧ r.wr = [] := by
  have nz : ∀ b : E, (mkNot (mkEq R b (.lit 0))).den d.Φ d.ρ = true → ¬ b.den d.Φ d.ρ = 0 := fun b h => by
    rw [mkNot_den, mkEq_den hR, Bool.not_eq_true'] at h
    have := of_decide_eq_false h
    simpa only [E.den] using this
  cases op <;> simp only [binInt, Option.some.injEq, reduceCtorEq] at h <;> subst h
  case add => exact ⟨.int k (k.wrap (a.den d.Φ d.ρ + b.den d.Φ d.ρ)), by simp [binOp, Op.intArith], by simp only [Res.c, SV.is, Cell.den, mkWrap_den hR, mkAdd_den], fun _ => trivial, rfl⟩
  case sub => exact ⟨.int k (k.wrap (a.den d.Φ d.ρ - b.den d.Φ d.ρ)), by simp [binOp, Op.intArith], by simp only [Res.c, SV.is, Cell.den, mkWrap_den hR, mkSub_den], fun _ => trivial, rfl⟩
  case mul => exact ⟨.int k (k.wrap (a.den d.Φ d.ρ * b.den d.Φ d.ρ)), by simp [binOp, Op.intArith], by simp only [Res.c, SV.is, Cell.den, mkWrap_den hR, mkMul_den], fun _ => trivial, rfl⟩
  case quo =>
    have hz := nz b (must_hold ho)
    refine ⟨.int k (k.wrap ((a.den d.Φ d.ρ).tdiv (b.den d.Φ d.ρ))), by simp [binOp, Op.intDiv, hz], ?_, fun _ => trivial, rfl⟩
    simp only [SV.is, Cell.den, mkWrap_den hR]
    cases hn : nonneg R a <;> simp only [cond_false, cond_true, E.den, mkDiv_den]
    unfold nonneg at hn
    split at hn
    · rename_i iv hiv
      have := (E.iv_ok hR a hiv).1
      rw [ile_iff] at hn
      rw [Int.tdiv_eq_ediv_of_nonneg (by omega)]
    · cases hn
  case rem =>
    have hz := nz b (must_hold ho)
    refine ⟨.int k ((a.den d.Φ d.ρ).tmod (b.den d.Φ d.ρ)), by simp [binOp, Op.intDiv, hz], ?_, fun _ => trivial, rfl⟩
    simp only [SV.is, Cell.den]
    cases hn' : (nonneg R a && positive R b) <;> simp only [cond_false, cond_true, E.den, mkMod_den]
    simp only [Bool.and_eq_true] at hn'
    have hn := hn'.1
    unfold nonneg at hn
    split at hn
    · rename_i iv hiv
      have := (E.iv_ok hR a hiv).1
      rw [ile_iff] at hn
      rw [Int.tmod_eq_emod_of_nonneg (by omega)]
    · cases hn
  case and => exact ⟨.int k (bitsInt .and k (a.den d.Φ d.ρ) (b.den d.Φ d.ρ)), by simp [binOp, Op.intBits, bitsInt], rfl, fun _ => trivial, rfl⟩
  case or => exact ⟨.int k (bitsInt .or k (a.den d.Φ d.ρ) (b.den d.Φ d.ρ)), by simp [binOp, Op.intBits, bitsInt], rfl, fun _ => trivial, rfl⟩
  case xor => exact ⟨.int k (bitsInt .xor k (a.den d.Φ d.ρ) (b.den d.Φ d.ρ)), by simp [binOp, Op.intBits, bitsInt], rfl, fun _ => trivial, rfl⟩
  case andNot => exact ⟨.int k (bitsInt .andNot k (a.den d.Φ d.ρ) (b.den d.Φ d.ρ)), by simp [binOp, Op.intBits, bitsInt], rfl, fun _ => trivial, rfl⟩
  case eql =>
    refine ⟨.bool (decide (a.den d.Φ d.ρ = b.den d.Φ d.ρ)), by simp [binOp, Op.intCmp]; rfl, ?_, fun _ => trivial, rfl⟩
    simp only [Res.c, SV.is, Cell.den, mkEq_den hR]
  case neq =>
    refine ⟨.bool (!decide (a.den d.Φ d.ρ = b.den d.Φ d.ρ)), by simp [binOp, Op.intCmp]; rfl, ?_, fun _ => trivial, rfl⟩
    simp only [Res.c, SV.is, Cell.den, mkNot_den, mkEq_den hR]
  case lss => exact ⟨.bool (decide (a.den d.Φ d.ρ < b.den d.Φ d.ρ)), by simp [binOp, Op.intCmp], by simp only [Res.c, SV.is, Cell.den, mkLt_den hR], fun _ => trivial, rfl⟩
  case leq => exact ⟨.bool (decide (a.den d.Φ d.ρ ≤ b.den d.Φ d.ρ)), by simp [binOp, Op.intCmp], by simp only [Res.c, SV.is, Cell.den, mkLe_den hR], fun _ => trivial, rfl⟩
  case gtr => exact ⟨.bool (decide (b.den d.Φ d.ρ < a.den d.Φ d.ρ)), by simp [binOp, Op.intCmp], by simp only [Res.c, SV.is, Cell.den, mkLt_den hR], fun _ => trivial, rfl⟩
  case geq => exact ⟨.bool (decide (b.den d.Φ d.ρ ≤ a.den d.Φ d.ρ)), by simp [binOp, Op.intCmp], by simp only [Res.c, SV.is, Cell.den, mkLe_den hR], fun _ => trivial, rfl⟩

theorem shiftN_den (hR : RV d.Φ R d.ρ) (k : IntKind) (y : E) (h0 : 0 ≤ y.den d.Φ d.ρ) : ((shiftN R k y).den d.Φ d.ρ).toNat = min (y.den d.Φ d.ρ).toNat k.bits := by
  have gen : ((E.ite (.lt y (.lit k.bits)) y (.lit k.bits)).den d.Φ d.ρ).toNat = min (y.den d.Φ d.ρ).toNat k.bits := by
    simp only [E.den, B.den]
    by_cases hlt : y.den d.Φ d.ρ < (k.bits : Int)
    · simp only [hlt, decide_true, if_true]; omega
    · simp only [hlt, decide_false, Bool.false_eq_true, if_false]; omega
  unfold shiftN
  split
  · rename_i iv hiv
    have := (E.iv_ok hR y hiv).2
    cases c : ile iv.hi k.bits <;> simp only [cond_false, cond_true]
    · exact gen
    · rw [ile_iff] at c; omega
  · exact gen

theorem shiftInt_run (hR : RV d.Φ R d.ρ) {op : BinOp} {k yk : IntKind} {a y : E} {r : Res} (h : shiftInt R op k a y = some r) (ho : OsHold d.Φ Pr d.ρ r.os) (t : TypeId) :
    ∃ x, (binOp op t (.int k (a.den d.Φ d.ρ)) (.int yk (y.den d.Φ d.ρ))).run P w = .ok x w ∧ r.val.is d x ∧ (∀ hp, r.val.ok d hp) ∧ r.wr = [] := by
  cases op <;> simp only [shiftInt, Option.some.injEq, reduceCtorEq] at h <;> subst h
  case shl =>
    have h0 : 0 ≤ y.den d.Φ d.ρ := by
      have := must_hold ho; rw [mkLe_den hR] at this; have := of_decide_eq_true this; simpa only [E.den] using this
    refine ⟨.int k (k.wrap (a.den d.Φ d.ρ * 2 ^ min (y.den d.Φ d.ρ).toNat k.bits)), by simp [binOp, Op.shift, Int.not_lt.2 h0], ?_, fun _ => trivial, rfl⟩
    simp only [SV.is, Cell.den, mkWrap_den hR, mkMul_den, mkPow2_den, shiftN_den hR k y h0]
  case shr =>
    have h0 : 0 ≤ y.den d.Φ d.ρ := by
      have := must_hold ho; rw [mkLe_den hR] at this; have := of_decide_eq_true this; simpa only [E.den] using this
    refine ⟨.int k ((a.den d.Φ d.ρ).fdiv (2 ^ min (y.den d.Φ d.ρ).toNat k.bits)), by simp [binOp, Op.shift, Int.not_lt.2 h0], ?_, fun _ => trivial, rfl⟩
    simp only [SV.is, Cell.den, mkDiv_den, mkPow2_den, shiftN_den hR k y h0]
    rw [Int.fdiv_eq_ediv_of_nonneg]
    exact Int.le_of_lt (Int.pow_pos (by decide))

/-! ### Choosing among cells -/
theorem selE_den (e : E) : ∀ (xs : List E) (j : Nat) (n : Nat) (x : E), xs[n]? = some x → e.den d.Φ d.ρ = ((j + n : Nat) : Int) → (selE e j xs).den d.Φ d.ρ = x.den d.Φ d.ρ
  | [], _, _, _, h, _ => by simp at h
  | [y], j, n, x, h, _ => by
    cases n with
    | zero => simp at h; subst h; rfl
    | succ n => simp at h
  | y :: z :: r, j, n, x, h, he => by
    simp only [selE, E.den, B.den]
    cases n with
    | zero => simp at h; subst h; simp [he]
    | succ n =>
      have : ¬ e.den d.Φ d.ρ = (j : Int) := by rw [he]; omega
      simp only [this, decide_false, Bool.false_eq_true, if_false]
      exact selE_den e (z :: r) (j + 1) n x (by simpa using h) (by rw [he]; congr 1; omega)

theorem intEs_some {k : IntKind} : ∀ {cs : List Cell} {es : List E}, intEs k cs = some es → cs = es.map (Cell.int k)
  | [], es, h => by simp only [intEs, Option.some.injEq] at h; subst h; rfl
  | .int k' x :: r, es, h => by
    simp only [intEs] at h
    cases c : decide (k = k') <;> simp only [c, cond_false, cond_true] at h
    · cases h
    · simp only [decide_eq_true_eq] at c; subst c
      simp only [Option.map_eq_some_iff] at h
      obtain ⟨es', h', rfl⟩ := h
      rw [intEs_some h']; rfl
  | .bool _ :: _, _, h | .ptr _ _ :: _, _, h | .ptrx _ _ _ _ _ :: _, _, h | .nilp :: _, _, h | .nilf :: _, _, h | .fn _ :: _, _, h | .str _ :: _, _, h => by cases h

theorem selCell_some {e : E} {cs : List Cell} {c : Cell} (h : selCell e cs = some c) {n : Nat} (hn : n < cs.length) (he : e.den d.Φ d.ρ = (n : Int)) :
    ∃ c', cs[n]? = some c' ∧ c.den d = c'.den d ∧ ∀ hp, c.ok d hp := by
  unfold selCell at h
  split at h
  · rename_i k _
    simp only [Option.map_eq_some_iff] at h
    obtain ⟨es, hes, rfl⟩ := h
    have := intEs_some hes
    subst this
    have hn' : n < es.length := by simpa using hn
    refine ⟨.int k es[n], by simp [hn'], ?_, fun _ => trivial⟩
    simp only [Cell.den]
    rw [selE_den e es 0 n es[n] (by simp [hn']) (by simpa using he)]
  · cases h

/-! ### Putting a value together -/
theorem fill_run (d : Dn) (place : Nat → Option (Nat × Nat)) : ∀ (ps : List (Nat × SV)) (qs : List (Nat × Value)) (cells out : List Cell),
    ps.length = qs.length → (∀ (k : Nat) (p : Nat × SV) (q : Nat × Value), ps[k]? = some p → qs[k]? = some q → p.1 = q.1 ∧ noTup p.2 = true ∧ p.2.is d q.2) → fillCells place cells ps = some out →
    Instr.fill place (cells.map (Cell.den d)).toArray qs = some (out.map (Cell.den d)).toArray
  | [], qs, cells, out, hl, _, h => by
    simp only [fillCells, Option.some.injEq] at h
    subst h
    have : qs = [] := List.length_eq_zero_iff.1 hl.symm
    subst this; rfl
  | (i, sv) :: ps, [], _, _, hl, _, _ => by simp at hl
  | (i, sv) :: ps, (i', x) :: qs, cells, out, hl, hpq, h => by
    obtain ⟨e1, e2, e3⟩ := hpq 0 (i, sv) (i', x) rfl rfl
    simp only at e1 e2 e3
    subst e1
    simp only [fillCells] at h
    simp only [Instr.fill]
    cases hp : place i with
    | none => simp only [hp] at h; cases h
    | some os =>
      obtain ⟨off, size⟩ := os
      simp only [hp] at h ⊢
      cases c : (Nat.beq sv.cells.length size && Nat.ble (off + size) cells.length) <;> simp only [c, cond_false, cond_true] at h
      · cases h
      · simp only [Bool.and_eq_true] at c
        have c1 := Nat.eq_of_beq_eq_true c.1
        have c2 := Nat.le_of_ble_eq_true c.2
        have hx : x.cells = (sv.cells.map (Cell.den d)).toArray := by
          cases sv with
          | one c => simp only [SV.is] at e3; subst e3; simp [SV.cells, Cell.den_cells]
          | agg cs => simp only [SV.is] at e3; subst e3; rfl
          | tup _ => cases e2
          | any => cases e2
        have hsz : x.cells.size = size := by rw [hx]; simpa using c1
        rw [if_neg (by simp [hsz]; omega)]
        have key : (x.cells.zipIdx.foldl (fun cs (c, j) => cs.setIfInBounds (off + j) c) (cells.map (Cell.den d)).toArray) = ((splice cells sv.cells off).map (Cell.den d)).toArray := by
          rw [hx]
          have gen : ∀ (l : List Value) (k : Nat) (cs : List Value), off + k + l.length ≤ cs.length →
              (l.zipIdx k).foldl (fun (a : Array Value) (p : Value × Nat) => a.setIfInBounds (off + p.2) p.1) cs.toArray = (cs.take (off + k) ++ (l ++ cs.drop (off + k + l.length))).toArray := by
            intro l
            induction l with
            | nil => intro k cs _; simp
            | cons y l ih =>
              intro k cs hk
              simp only [List.length_cons] at hk
              simp only [List.zipIdx_cons, List.foldl_cons, List.setIfInBounds_toArray]
              rw [ih (k + 1) (cs.set (off + k) y) (by simp; omega)]
              congr 1
              have e1 : (cs.set (off + k) y).take (off + (k + 1)) = cs.take (off + k) ++ [y] := by
                rw [show off + (k + 1) = (off + k) + 1 by omega, List.take_add_one]
                rw [List.take_set_of_le (by omega)]
                congr 1
                simp [show off + k < cs.length by omega]
              have e2 : (cs.set (off + k) y).drop (off + (k + 1) + l.length) = cs.drop (off + k + (y :: l).length) := by
                rw [List.drop_set_of_lt (by omega)]
                congr 1
                simp; omega
              rw [e1, e2]; simp
          have g := gen (sv.cells.map (Cell.den d)) 0 (cells.map (Cell.den d)) (by simp; omega)
          rw [← Array.foldl_toList]
          simp only [Array.toList_zipIdx]
          simp only [Nat.add_zero] at g
          rw [g]
          simp [splice, List.map_take, List.map_drop]
        simp only [key]
        exact fill_run d place ps qs (splice cells sv.cells off) out (by simpa using hl) (fun k p q hk hq => hpq (k + 1) p q (by simpa using hk) (by simpa using hq)) h

theorem fillCells_ok {d : Dn} {hp : List (Option Reg)} (place : Nat → Option (Nat × Nat)) : ∀ (ps : List (Nat × SV)) (cells out : List Cell),
    (∀ p ∈ ps, p.2.ok d hp) → (∀ c ∈ cells, c.ok d hp) → fillCells place cells ps = some out → ∀ c ∈ out, c.ok d hp
  | [], cells, out, _, hc, h => by simp only [fillCells, Option.some.injEq] at h; subst h; exact hc
  | (i, sv) :: ps, cells, out, hps, hc, h => by
    simp only [fillCells] at h
    cases hp' : place i with
    | none => simp only [hp'] at h; cases h
    | some os =>
      obtain ⟨off, size⟩ := os
      simp only [hp'] at h
      cases hc' : (Nat.beq sv.cells.length size && Nat.ble (off + size) cells.length) <;> simp only [hc', cond_false, cond_true] at h
      · cases h
      · refine fillCells_ok place ps _ out (fun p hm => hps p (List.mem_cons_of_mem _ hm)) (fun c hm => ?_) h
        simp only [splice, List.mem_append] at hm
        rcases hm with hm | hm | hm
        · exact hc c (List.mem_of_mem_take hm)
        · have := hps (i, sv) List.mem_cons_self
          cases sv with
          | one c' => simp only [SV.cells, List.mem_singleton] at hm; subst hm; exact this
          | agg cs => exact this c hm
          | tup _ => cases hm
          | any => cases hm
        · exact hc c (List.mem_of_mem_drop hm)

theorem svParts_spec (hv : Reads d hp v e) : ∀ {l : List (Nat × Operand)} {ps : List (Nat × SV)}, svParts v l = some ps →
    ps.length = l.length ∧ (∀ (k : Nat) (p : Nat × SV) (q : Nat × Value), ps[k]? = some p → (l.map fun x => (x.1, e x.2))[k]? = some q → p.1 = q.1 ∧ p.2.is d q.2) ∧ ∀ p ∈ ps, p.2.ok d hp
  | [], ps, h => by simp only [svParts, Option.some.injEq] at h; subst h; exact ⟨rfl, fun k p q hk _ => by simp at hk, fun _ hm => by cases hm⟩
  | (i, o) :: r, ps, h => by
    simp only [svParts] at h
    split at h
    · rename_i x xs hx hxs
      cases h
      obtain ⟨h1, h2, h3⟩ := svParts_spec hv hxs
      refine ⟨by simp [h1], fun k p q hk hq => ?_, fun p hm => ?_⟩
      · cases k with
        | zero => simp at hk hq; subst hk hq; exact ⟨rfl, hv.is _ _ hx⟩
        | succ k => exact h2 k p q (by simpa using hk) (by simpa using hq)
      · cases hm with
        | head => exact hv.ok _ _ hx
        | tail _ hm => exact h3 p hm
    · cases h

theorem svs_spec (hv : Reads d hp v e) : ∀ {l : List Operand} {xs : List SV}, svs v l = some xs →
    xs.length = l.length ∧ (∀ (k : Nat) (x : SV) (q : Value), xs[k]? = some x → (l.map e)[k]? = some q → x.is d q) ∧ ∀ x ∈ xs, x.ok d hp
  | [], xs, h => by simp only [svs, Option.some.injEq] at h; subst h; exact ⟨rfl, fun k p q hk _ => by simp at hk, fun _ hm => by cases hm⟩
  | o :: r, xs, h => by
    simp only [svs] at h
    split at h
    · rename_i x xs' hx hxs
      cases h
      obtain ⟨h1, h2, h3⟩ := svs_spec hv hxs
      refine ⟨by simp [h1], fun k p q hk hq => ?_, fun p hm => ?_⟩
      · cases k with
        | zero => simp at hk hq; subst hk hq; exact hv.is _ _ hx
        | succ k => exact h2 k p q (by simpa using hk) (by simpa using hq)
      · cases hm with
        | head => exact hv.ok _ _ hx
        | tail _ hm => exact h3 p hm
    · cases h
end
end Go.Proofs.YtelfpnkhdaaeoaaDoor.Sx
