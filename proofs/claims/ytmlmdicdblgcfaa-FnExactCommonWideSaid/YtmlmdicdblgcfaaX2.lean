/-
  The symbolic executor: reading and writing memory, calls; one operation, whole.
  The symbolic executor: calls; one operation, whole.
  The symbolic executor: one operation of a region, whole.
  The symbolic executor: what a tree asks; binding; a region in the text's order.
  The symbolic executor: a region in the text's order.
  The symbolic executor: a region that draws its order.
  The symbolic executor: regions.
  The symbolic executor: whole regions.
  The symbolic executor: loops that go round with numbers: the state at a loop's head, and a round of it.
  The symbolic executor: code.
  The symbolic executor: whole functions. What is asked of a function's numbers gives what it is known to do.
  The symbolic executor: contracts of functions by functions on lists of numbers.
-/
import Derived.Test.YtmlmdicdblgcfaaX1
import Derived.Tactics
import Derived.Deep.LoopGhost
import Derived.ScopeJumps
namespace Go.Proofs.Ytmlmdicdblgcfaa.Sx
open Go Go.RowKit

/-! ## Numbers as values -/
def kdVal : Kd → Int → Value
  | .i k, n => .int k n
  | .n k _ _, n => .int k n
  | .b, n => .bool (decide (n = 1))

/-- From place j on. -/
def kdVals (xs : List Int) : Nat → List Kd → List Value
  | _, [] => []
  | j, k :: r => kdVal k (xs.getD j 0) :: kdVals xs (j + 1) r

def compVal (agg : Bool) (vs : List Value) : Value := match agg, vs with
  | true, vs => .agg vs.toArray
  | false, v :: _ => v
  | false, [] => undef

def resVals (xs : List Int) : Nat → List (Bool × List Kd) → List Value
  | _, [] => []
  | j, (b, ks) :: r => compVal b (kdVals xs j ks) :: resVals xs (j + ks.length) r

def oneOr (vs : List Value) : Value := match vs with
  | [v] => v
  | vs => .tuple vs.toArray

def resV (s : Sig) (xs : List Int) : Value := oneOr (resVals xs 0 s.res)

/-- The arguments of a call, from number j on. -/
def ArgsAre (w : World) (xs : List Int) : Nat → List PSh → List Value → Prop
  | _, [], args => args = []
  | j, .val b ks :: ps, args => ∃ rest, args = compVal b (kdVals xs j ks) :: rest ∧ (b = false → ks.length = 1) ∧ ArgsAre w xs (j + ks.length) ps rest
  | j, .ptr ks :: ps, args => ∃ b o rest, args = .pointer (some ⟨b, o, none⟩) :: rest ∧ b < w.heap.size ∧
      (∀ (i : Nat) (v : Value), (kdVals xs j ks)[i]? = some v → w.cell? ⟨b, o + i, none⟩ = some v) ∧ ArgsAre w xs (j + ks.length) ps rest

/-- WHAT A FUNCTION IS KNOWN TO DO: called with such arguments it returns what is told of their numbers, and leaves all that was there. -/
def CT (P : Program) (Φ : Fns) (Pr : Pres) (g : Nat) (s : Sig) : Prop :=
  ∀ (w : World) (xs : List Int) (args : List Value), allHas (parIvs s.params) xs → ArgsAre w xs 0 s.params args → Pr g xs [] →
    Calls P g args.toArray w fun e w' => e = .returned (resV s (Φ g xs []).1) ∧ Below w.heap.size w w'

/-- What is known of the functions of a table. -/
structure CTs (C : Cfg) (Φ : Fns) (Pr : Pres) : Prop where
  ct : ∀ g s, sigOf C.sigs g = some s → CT C.P Φ Pr g s
  tot : ∀ g s, sigOf C.sigs g = some s → s.total = true → ∀ xs ls, Pr g xs ls

/-! ## Memory -/
theorem HP.regs {X : Ctx} {d : Dn} {hp : List (Option Reg)} {w w' : World} (h : HP X d hp w) (hb : Below w.heap.size w w') : HP X d hp w' where
  bl := h.bl.trans (hb.mono h.bl.size)
  reg := fun id r hr => by
    have := h.reg id r hr
    unfold RegIs at *
    split
    · rename_i ho
      rw [if_pos ho] at this
      obtain ⟨h1, h2, h3⟩ := this
      refine ⟨h1, h2, ?_⟩
      have hlt : (d.α id).1 < w.heap.size := by
        rcases Nat.lt_or_ge (d.α id).1 w.heap.size with h' | h'
        · exact h'
        · rw [Array.getElem?_eq_none h'] at h3; cases h3
      rw [hb.block _ hlt]; exact h3
    · rename_i ho
      rw [if_neg ho] at this
      exact this
  sep := h.sep
  ids := h.ids

theorem wrAll_nil (hp : List (Option Reg)) : wrAll hp [] = hp := rfl

section
variable {C : Cfg} {R : Bds} {X : Ctx} {d : Dn} {w : World} {hp : List (Option Reg)} {v : Operand → Option SV} {e : Operand → Value} {Pr : Pres}
  {rd : Nat → Option Reg} {new : Nat} {r : Res} {o : Oper}

theorem op_load {t : TypeId} {x : Operand} (hP : HP X d hp w) (hv : Reads d hp v e) (hrd : ∀ id r, rd id = some r → getH hp id = some r)
    (h : opRun C R (.load t x) v rd new = some r) (ho : o.op = .load t x) : Yld C.P e o w d hp r := by
  simp only [opRun] at h
  split at h
  · rename_i id off hx
    split at h
    · rename_i g hg
      simp only [Option.map_eq_some_iff] at h
      obtain ⟨sv, hs, rfl⟩ := h
      have hg := hrd _ _ hg
      have h1 := hv.is _ _ hx
      simp only [SV.is, Cell.den] at h1
      obtain ⟨y, hy, hy2⟩ := loadVar_run (hP.reg _ _ hg) hP.bl hs
      refine ⟨y, ?_, hy2, partT_ok hs (hP.ids _ _ hg), rfl⟩
      simp only [execOp, ho, h1, Instr.loadAt, Instr.sureAddr, Sem.run_bind, Sem.run_pure, Result.andThen_ok, hy]
    · cases h
  · rename_i id off n ix hx
    split at h
    · rename_i g hg
      cases c : (!aggT C.P t && (C.P.underlying t).isSome && Nat.ble (off + n) g.cs.length) <;> simp only [c, cond_false, cond_true] at h
      · cases h
      · simp only [Bool.and_eq_true, Bool.not_eq_true'] at c
        obtain ⟨⟨c1, c2⟩, c3⟩ := c
        have c3 := Nat.le_of_ble_eq_true c3
        obtain ⟨u, hu⟩ := Option.isSome_iff_exists.1 c2
        simp only [Option.map_eq_some_iff] at h
        obtain ⟨c, hc, rfl⟩ := h
        have hg := hrd _ _ hg
        have h1 := hv.is _ _ hx
        simp only [SV.is, Cell.den] at h1
        obtain ⟨_, b1, b2⟩ := hv.ok _ _ hx
        obtain ⟨j, hj⟩ := Int.eq_ofNat_of_zero_le b1
        have hjn : j < n := by omega
        obtain ⟨c', g1, g2, g3⟩ := selCell_some hc (n := j) (by simp; omega) hj
        have g1' := (drop_take_get g1).1
        refine ⟨c'.den d, ?_, g2.symm ▸ rfl, g3 hp, rfl⟩
        have := (hP.reg _ _ hg).cell hP.bl g1'
        simp only [execOp, ho, h1, Instr.loadAt, Instr.sureAddr, Sem.run_bind, Sem.run_pure, Result.andThen_ok, loadVar, run_isAgg hu, c1, Bool.false_eq_true, if_false, run_load,
          hj, Int.toNat_natCast, Nat.mul_one, this]
    · cases h
  · cases h
/-! ### Blocks that are written -/
/-- What stands behind an operation. -/
def Aft (X : Ctx) (d : Dn) (hp hp' : List (Option Reg)) (sv : SV) (x : Value) (w' : World) : Prop :=
  ∃ d', Agree hp d d' ∧ Has hp hp' ∧ HP X d' hp' w' ∧ sv.is d' x ∧ sv.ok d' hp'

/-- Cells of a block that are changed in place; all else stays. -/
structure Cut (w w' : World) (b : Nat) (o : Obj) : Prop where
  os : w'.os = w.os
  tape : w'.tape = w.tape
  output : w'.output = w.output
  size : w'.heap.size = w.heap.size
  other : ∀ k, k ≠ b → w'.heap[k]? = w.heap[k]?
  it : w'.heap[b]? = some o

theorem setCell_cut {w : World} {b off : Nat} {c : List Value} {t : TypeId} {x : Value} (h : w.heap[b]? = some (.cells c.toArray t (0, 0))) :
    Cut w (w.setCell ⟨b, off, none⟩ x) b (.cells (c.set off x).toArray t (0, 0)) where
  os := rfl
  tape := rfl
  output := rfl
  size := by simp
  other := fun k hk => Below.heap_setCell _ _ _ _ hk
  it := by
    simp only [World.setCell, Array.getElem?_modify, if_true, h, Option.map_some]
    simp

theorem Cut.trans {w w' w'' : World} {b : Nat} {o o' : Obj} (h : Cut w w' b o) (k : Cut w' w'' b o') : Cut w w'' b o' :=
  ⟨k.os.trans h.os, k.tape.trans h.tape, k.output.trans h.output, k.size.trans h.size, fun i hi => (k.other i hi).trans (h.other i hi), k.it⟩

theorem storeCells_run {P : Program} {b off : Nat} {t : TypeId} : ∀ (vs : List Value) (i : Nat) (w : World) (c : List Value), w.heap[b]? = some (.cells c.toArray t (0, 0)) →
    off + i + vs.length ≤ c.length → (∀ x ∈ vs, x.oneCell' = true) →
    ∃ w', (storeCells ⟨b, off, none⟩ vs i).run P w = .ok () w' ∧ Cut w w' b (.cells (c.take (off + i) ++ (vs ++ c.drop (off + i + vs.length))).toArray t (0, 0))
  | [], i, w, c, h, _, _ => ⟨w, rfl, ⟨rfl, rfl, rfl, rfl, fun _ _ => rfl, by rw [h]; simp⟩⟩
  | x :: vs, i, w, c, h, hl, hv => by
    simp only [List.length_cons] at hl
    have hc : w.cell? ⟨b, off + i, none⟩ = some c[off + i] := by
      simp [World.cell?, h, show off + i < c.length by omega]
    have hf : w.frozen? ⟨b, off + i, none⟩ = false := by
      simp [World.frozen?, h]
    have hcut := setCell_cut (off := off + i) (x := x) h
    obtain ⟨w', h1, h2⟩ := storeCells_run (P := P) (off := off) vs (i + 1) (w.setCell ⟨b, off + i, none⟩ x) (c.set (off + i) x) hcut.it (by rw [List.length_set]; omega) (fun y hy => hv y (List.mem_cons_of_mem _ hy))
    refine ⟨w', ?_, ?_⟩
    · simp only [storeCells, Sem.run_bind, add_mk]
      rw [run_store P w _ x .plain (hv x List.mem_cons_self), hc]
      simp only [hf, Bool.false_eq_true, if_false, Result.andThen_ok, h1]
    · have := hcut.trans h2
      have e1 : (c.set (off + i) x).take (off + (i + 1)) = c.take (off + i) ++ [x] := by
        rw [show off + (i + 1) = (off + i) + 1 by omega, List.take_add_one, List.take_set_of_le (by omega)]
        congr 1
        simp [show off + i < c.length by omega]
      have e2 : (c.set (off + i) x).drop (off + (i + 1) + vs.length) = c.drop (off + i + (x :: vs).length) := by
        rw [List.drop_set_of_lt (by omega)]
        congr 1
        simp; omega
      rw [e1, e2] at this
      simpa using this

theorem HP.lt (hP : HP X d hp w) {id : Nat} {g : Reg} (hg : getH hp id = some g) (ho : g.own = true) : (d.α id).1 < w.heap.size := by
  have := hP.reg _ _ hg
  unfold RegIs at this
  rw [if_pos ho] at this
  rcases Nat.lt_or_ge (d.α id).1 w.heap.size with h' | h'
  · exact h'
  · rw [Array.getElem?_eq_none h'] at this; cases this.2.2

theorem Has.setH {hp : List (Option Reg)} (id : Nat) (g : Reg) : Has hp (setH hp id (some g)) := fun k hk => by
  by_cases h : id = k
  · subst h
    obtain ⟨r, hr⟩ := Option.isSome_iff_exists.1 hk
    rw [getH_setH_same _ _ _ (getH_lt hr)]; rfl
  · rw [getH_setH_ne _ _ _ _ h]; exact hk

/-- A new block. -/
theorem HP.alloc (hP : HP X d hp w) {cs : List Cell} (hcs : ∀ c ∈ cs, c.ok d hp) {t : TypeId} (hn : getH hp new = none) (hl : new < hp.length) :
    Aft X d hp (setH hp new (some ⟨cs, true, t⟩)) (.one (.ptr new 0)) (.pointer (some ⟨w.heap.size, 0, none⟩)) { w with heap := w.heap.push (.cells (cs.map (Cell.den d)).toArray t) } := by
  let d' : Dn := ⟨d.Φ, d.ρ, fun id => if id = new then (w.heap.size, 0) else d.α id⟩
  have ag : Agree hp d d' := ⟨rfl, rfl, fun id hid => by
    have : id ≠ new := fun h => by subst h; rw [hn] at hid; cases hid
    simp [d', this]⟩
  have hasH := Has.setH (hp := hp) new ⟨cs, true, t⟩
  have hnew : d'.α new = (w.heap.size, 0) := by simp [d']
  refine ⟨d', ag, hasH, ⟨?_, ?_, ?_, ?_⟩, ?_, ?_⟩
  · exact hP.bl.alloc hP.bl.size _
  · intro id g hg
    by_cases h : new = id
    · subst h
      rw [getH_setH_same _ _ _ hl] at hg
      cases hg
      unfold RegIs
      rw [if_pos rfl, hnew]
      refine ⟨rfl, hP.bl.size, ?_⟩
      simp only [Array.getElem?_push, if_true]
      rw [cells_agree ag hcs]
    · rw [getH_setH_ne _ _ _ _ h] at hg
      have old := hP.reg _ _ hg
      have ha := ag.α id (by rw [hg]; rfl)
      unfold RegIs at *
      rw [ha]
      split
      · rename_i ho
        rw [if_pos ho] at old
        obtain ⟨h1, h2, h3⟩ := old
        have hlt := hP.lt hg ho
        refine ⟨h1, h2, ?_⟩
        rw [Array.getElem?_push, if_neg (by omega), h3, cells_agree ag (hP.ids _ _ hg)]
      · rename_i ho
        rw [if_neg ho] at old
        refine ⟨old.1, fun i c hc => ?_⟩
        rw [old.2 i c hc, Cell.den_agree ag (hP.ids _ _ hg c (List.mem_of_getElem? hc))]
  · intro i j ri rj hi hj oi oj hij
    by_cases h1 : new = i
    · subst h1
      rw [getH_setH_ne _ _ _ _ hij] at hj
      rw [hnew, ag.α j (by rw [hj]; rfl)]
      have := hP.lt hj oj
      simp only; omega
    · rw [getH_setH_ne _ _ _ _ h1] at hi
      rw [ag.α i (by rw [hi]; rfl)]
      by_cases h2 : new = j
      · subst h2
        rw [hnew]
        have := hP.lt hi oi
        simp only; omega
      · rw [getH_setH_ne _ _ _ _ h2] at hj
        rw [ag.α j (by rw [hj]; rfl)]
        exact hP.sep i j ri rj hi hj oi oj hij
  · intro id g hg c hc
    by_cases h : new = id
    · subst h
      rw [getH_setH_same _ _ _ hl] at hg
      cases hg
      exact Cell.ok_agree ag (Cell.ok_mono hasH (hcs c hc))
    · rw [getH_setH_ne _ _ _ _ h] at hg
      exact Cell.ok_agree ag (Cell.ok_mono hasH (hP.ids _ _ hg c hc))
  · simp only [SV.is, Cell.den, hnew]
  · show (getH _ new).isSome = true
    rw [getH_setH_same _ _ _ hl]; rfl

/-- A block of the call's own, written in place. -/
theorem HP.write (hP : HP X d hp w) {id : Nat} {g : Reg} (hg : getH hp id = some g) (ho : g.own = true) {cs : List Cell} (hcs : ∀ c ∈ cs, c.ok d hp) {w' : World}
    (hw : Cut w w' (d.α id).1 (.cells (cs.map (Cell.den d)).toArray g.ty (0, 0))) : HP X d (setH hp id (some { g with cs := cs })) w' where
  bl := by
    have r := hP.reg _ _ hg
    unfold RegIs at r
    rw [if_pos ho] at r
    exact hP.bl.trans ⟨hw.os, hw.tape, hw.output, by rw [hw.size]; exact Nat.le_refl _, fun k hk => hw.other k (by omega)⟩
  reg := fun k q hq => by
    by_cases h : id = k
    · subst h
      rw [getH_setH_same _ _ _ (getH_lt hg)] at hq
      cases hq
      have r := hP.reg _ _ hg
      unfold RegIs at *
      rw [if_pos ho] at r
      rw [if_pos ho]
      exact ⟨r.1, r.2.1, hw.it⟩
    · rw [getH_setH_ne _ _ _ _ h] at hq
      have old := hP.reg _ _ hq
      unfold RegIs at *
      split
      · rename_i hqo
        rw [if_pos hqo] at old
        refine ⟨old.1, old.2.1, ?_⟩
        rw [hw.other _ (hP.sep k id q g hq hg hqo ho (fun e => h e.symm))]
        exact old.2.2
      · rename_i hqo
        rw [if_neg hqo] at old
        exact old
  sep := fun i j ri rj hi hj oi oj hij => by
    have get : ∀ k q, getH (setH hp id (some { g with cs := cs })) k = some q → q.own = true → ∃ q', getH hp k = some q' ∧ q'.own = true := fun k q hq hqo => by
      by_cases h : id = k
      · subst h; exact ⟨g, hg, ho⟩
      · rw [getH_setH_ne _ _ _ _ h] at hq; exact ⟨q, hq, hqo⟩
    obtain ⟨qi, h1, h2⟩ := get i ri hi oi
    obtain ⟨qj, h3, h4⟩ := get j rj hj oj
    exact hP.sep i j qi qj h1 h3 h2 h4 hij
  ids := fun k q hq c hc => by
    by_cases h : id = k
    · subst h
      rw [getH_setH_same _ _ _ (getH_lt hg)] at hq
      cases hq
      exact Cell.ok_mono (Has.setH id _) (hcs c hc)
    · rw [getH_setH_ne _ _ _ _ h] at hq
      exact Cell.ok_mono (Has.setH id _) (hP.ids _ _ hq c hc)

theorem noTup_cells {sv : SV} {x : Value} (h : noTup sv = true) (hx : sv.is d x) : x.cells = (sv.cells.map (Cell.den d)).toArray := by
  cases sv with
  | one c => simp only [SV.is] at hx; subst hx; simp [SV.cells, Cell.den_cells]
  | agg cs => simp only [SV.is] at hx; subst hx; rfl
  | tup _ => cases h
  | any => cases h

theorem noTup_ok {sv : SV} (h : noTup sv = true) (hx : sv.ok d hp) : ∀ c ∈ sv.cells, c.ok d hp := by
  cases sv with
  | one c => intro c' hc; simp only [SV.cells, List.mem_singleton] at hc; subst hc; exact hx
  | agg cs => exact hx
  | tup _ => cases h
  | any => cases h

theorem op_new (hP : HP X d hp w) (hv : Reads d hp v e) (h : opRun C R o.op v rd new = some r) (ho : isNew o.op = true) (hn : getH hp new = none) (hl : new < hp.length) :
    ∃ x w', (execOp e o).run C.P w = .ok (.value x) w' ∧ Aft X d hp (wrAll hp r.wr) r.val x w' := by
  cases hop : o.op <;> rw [hop] at ho <;> simp only [isNew, Bool.false_eq_true] at ho
  case alloc t =>
    rw [hop] at h
    simp only [opRun] at h
    split at h
    · rename_i z hz
      cases c : noTup z <;> simp only [c, cond_false, cond_true] at h
      · cases h
      · cases h
        obtain ⟨x, hx1, hx2, hx3⟩ := run_zero (w := w) d hz
        refine ⟨_, _, ?_, hP.alloc (noTup_ok c (hx3 hp)) hn hl⟩
        simp only [execOp, hop, Instr.alloc, Sem.run_bind, hx1, Result.andThen_ok]
        simp [newVar, newRow, noTup_cells c hx2]
    · cases h
  case box t y =>
    rw [hop] at h
    simp only [opRun] at h
    split at h
    · rename_i z hz
      cases c : noTup z <;> simp only [c, cond_false, cond_true] at h
      · cases h
      · cases h
        refine ⟨_, _, ?_, hP.alloc (noTup_ok c (hv.ok _ _ hz)) hn hl⟩
        simp only [execOp, hop, Instr.box, Sem.run_bind]
        simp [newVar, newRow, noTup_cells c (hv.is _ _ hz)]
    · cases h

theorem storeVar_run {P : Program} {b off n : Nat} {c : List Value} {t ty : TypeId} {x : Value} {vs : List Value} (h : w.heap[b]? = some (.cells c.toArray ty (0, 0))) (ht : sizeT P t = some n)
    (hx : x.cells = vs.toArray) (hn : n = vs.length) (hl : off + vs.length ≤ c.length) (hv : ∀ y ∈ vs, y.oneCell' = true) :
    ∃ w', (storeVar t ⟨b, off, none⟩ x).run P w = .ok () w' ∧ Cut w w' b (.cells (c.take off ++ (vs ++ c.drop (off + vs.length))).toArray ty (0, 0)) := by
  obtain ⟨w', h1, h2⟩ := storeCells_run (P := P) (off := off) vs 0 w c h (by simpa using hl) hv
  refine ⟨w', ?_, by simpa using h2⟩
  simp only [storeVar, Sem.run_bind, run_size ht, Result.andThen_ok, hx, List.size_toArray, hn, ne_eq, not_true_eq_false, if_false]
  simpa using h1

theorem putCells_den (e : E) (k : IntKind) (x : E) : ∀ (es : List E) (j n : Nat), n < es.length → e.den d.Φ d.ρ = ((j + n : Nat) : Int) →
    (putCells e k x j (es.map (Cell.int k))).map (Cell.den d) = ((es.map (Cell.int k)).map (Cell.den d)).set n (.int k (x.den d.Φ d.ρ))
  | [], _, _, h, _ => by simp at h
  | y :: r, j, 0, _, he => by
    simp only [List.map_cons, putCells, Cell.den, E.den, B.den, he, Nat.add_zero, decide_true, if_true, List.set_cons_zero]
    congr 1
    have rest : ∀ (es : List E) (i : Nat), j < i → (putCells e k x i (es.map (Cell.int k))).map (Cell.den d) = (es.map (Cell.int k)).map (Cell.den d) := by
      intro es
      induction es with
      | nil => intro i _; rfl
      | cons z es ih =>
        intro i hi
        have hne : ¬ e.den d.Φ d.ρ = (i : Int) := by rw [he]; omega
        simp only [List.map_cons, putCells, Cell.den, E.den, B.den, hne, decide_false, Bool.false_eq_true, if_false]
        rw [ih (i + 1) (by omega)]
    rw [rest r (j + 1) (by omega)]
  | y :: r, j, n + 1, h, he => by
    have hne : ¬ e.den d.Φ d.ρ = (j : Int) := by rw [he]; omega
    simp only [List.map_cons, putCells, Cell.den, E.den, B.den, hne, decide_false, Bool.false_eq_true, if_false, List.set_cons_succ]
    rw [putCells_den e k x r (j + 1) n (by simpa using h) (by rw [he]; congr 1; omega)]

theorem splice_mem {cs new : List Cell} {off : Nat} {c : Cell} (h : c ∈ splice cs new off) : c ∈ cs ∨ c ∈ new := by
  simp only [splice, List.mem_append] at h
  rcases h with h | h | h
  · exact .inl (List.mem_of_mem_take h)
  · exact .inr h
  · exact .inl (List.mem_of_mem_drop h)

theorem putCells_ok (e : E) (k : IntKind) (x : E) : ∀ (cs : List Cell) (j : Nat), (∀ c ∈ cs, c.ok d hp) → ∀ c ∈ putCells e k x j cs, c.ok d hp
  | [], _, _, c, h => by cases h
  | y :: r, j, hc, c, h => by
    have ih := putCells_ok e k x r (j + 1) (fun c h => hc c (List.mem_cons_of_mem _ h))
    cases y <;> simp only [putCells, List.mem_cons] at h <;> rcases h with h | h
    all_goals first
      | exact ih c h
      | (subst h; exact hc _ List.mem_cons_self)
      | (subst h; trivial)

theorem putCells_length (e : E) (k : IntKind) (x : E) : ∀ (cs : List Cell) (j : Nat), (putCells e k x j cs).length = cs.length
  | [], _ => rfl
  | y :: r, j => by cases y <;> simp [putCells, putCells_length e k x r (j + 1)]

theorem op_store {t : TypeId} {y z : Operand} (hP : HP X d hp w) (hv : Reads d hp v e) (hrd : ∀ id r, rd id = some r → getH hp id = some r)
    (h : opRun C R (.store t y z) v rd new = some r) (ho : o.op = .store t y z) :
    ∃ w', (execOp e o).run C.P w = .ok .skip w' ∧ Aft X d hp (wrAll hp r.wr) r.val undef w' := by
  simp only [opRun] at h
  split at h
  · rename_i id off sz hy hz
    split at h
    · rename_i g hg
      cases c : (noTup sz && g.own && decide (sizeT C.P t = some sz.cells.length) && Nat.ble (off + sz.cells.length) g.cs.length) <;> simp only [c, cond_false, cond_true] at h
      · cases h
      · cases h
        simp only [Bool.and_eq_true, decide_eq_true_eq] at c
        obtain ⟨⟨⟨c1, c2⟩, c3⟩, c4⟩ := c
        have c4 := Nat.le_of_ble_eq_true c4
        have hg := hrd _ _ hg
        have h1 := hv.is _ _ hy
        simp only [SV.is, Cell.den] at h1
        have hr := hP.reg _ _ hg
        unfold RegIs at hr
        rw [if_pos c2] at hr
        have hb : w.heap[(d.α id).1]? = some (.cells (g.cs.map (Cell.den d)).toArray g.ty (0, 0)) := hr.2.2
        obtain ⟨w', g1, g2⟩ := storeVar_run (P := C.P) (w := w) (off := off) (x := e z) (vs := sz.cells.map (Cell.den d)) hb c3 (noTup_cells c1 (hv.is _ _ hz)) (by simp) (by simpa using c4)
          (fun q hq => by obtain ⟨c, _, rfl⟩ := List.mem_map.1 hq; exact Cell.den_oneCell d c)
        refine ⟨w', ?_, d, Agree.refl _ _, Has.setH id _, ?_, undef_is d, undef_ok d _⟩
        · simp only [execOp, ho, h1, Instr.storeAt, Instr.sureAddr, Sem.run_bind, Sem.run_pure, Result.andThen_ok, hr.1, Nat.zero_add, g1]
        · refine hP.write hg c2 (cs := splice g.cs sz.cells off) (fun q hq => ?_) ?_
          · rcases splice_mem hq with hq | hq
            · exact hP.ids _ _ hg q hq
            · exact noTup_ok c1 (hv.ok _ _ hz) q hq
          · simpa [splice, List.map_take, List.map_drop] using g2
    · cases h
  · rename_i id off n ix k x hy hz
    split at h
    · rename_i g hg
      cases c : (g.own && decide (sizeT C.P t = some 1) && Nat.ble (off + n) g.cs.length && (intEs k ((g.cs.drop off).take n)).isSome) <;> simp only [c, cond_false, cond_true] at h
      · cases h
      · cases h
        simp only [Bool.and_eq_true, decide_eq_true_eq] at c
        obtain ⟨⟨⟨c1, c2⟩, c3⟩, c4⟩ := c
        have c3 := Nat.le_of_ble_eq_true c3
        obtain ⟨es, hes⟩ := Option.isSome_iff_exists.1 c4
        have hes := intEs_some hes
        have hg := hrd _ _ hg
        have h1 := hv.is _ _ hy
        have h2 := hv.is _ _ hz
        simp only [SV.is, Cell.den] at h1 h2
        obtain ⟨_, b1, b2⟩ := hv.ok _ _ hy
        obtain ⟨j, hj⟩ := Int.eq_ofNat_of_zero_le b1
        have hjn : j < n := by omega
        have hr := hP.reg _ _ hg
        unfold RegIs at hr
        rw [if_pos c1] at hr
        have hb : w.heap[(d.α id).1]? = some (.cells (g.cs.map (Cell.den d)).toArray g.ty (0, 0)) := hr.2.2
        obtain ⟨w', g1, g2⟩ := storeVar_run (P := C.P) (w := w) (off := off + j) (x := e z) (vs := [.int k (x.den d.Φ d.ρ)]) hb c2 (by rw [h2]; rfl) rfl (by simp; omega)
          (fun q hq => by simp only [List.mem_singleton] at hq; subst hq; rfl)
        refine ⟨w', ?_, d, Agree.refl _ _, Has.setH id _, ?_, undef_is d, undef_ok d _⟩
        · simp only [execOp, ho, h1, Instr.storeAt, Instr.sureAddr, Sem.run_bind, Sem.run_pure, Result.andThen_ok, hr.1, Nat.zero_add, hj, Int.toNat_natCast, Nat.mul_one, g1]
        · refine hP.write hg c1 (cs := splice g.cs (putCells ix k x 0 ((g.cs.drop off).take n)) off) (fun q hq => ?_) ?_
          · rcases splice_mem hq with hq | hq
            · exact hP.ids _ _ hg q hq
            · exact putCells_ok _ _ _ _ _ (fun c hc => hP.ids _ _ hg c (List.mem_of_mem_drop (List.mem_of_mem_take hc))) q hq
          · have hlen : es.length = n := by
              have := congrArg List.length hes
              simp at this; omega
            have hput := putCells_den (d := d) ix k x es 0 j (by omega) (by rw [hj]; congr 1; omega)
            rw [← hes] at hput
            have hl2 : (putCells ix k x 0 ((g.cs.drop off).take n)).length = n := by rw [putCells_length]; simp; omega
            have key : (splice g.cs (putCells ix k x 0 ((g.cs.drop off).take n)) off).map (Cell.den d) =
                (g.cs.map (Cell.den d)).take (off + j) ++ ([.int k (x.den d.Φ d.ρ)] ++ (g.cs.map (Cell.den d)).drop (off + j + 1)) := by
              simp only [splice, List.map_append, hput, hl2]
              have e0 : ((g.cs.map (Cell.den d)).set (off + j) (.int k (x.den d.Φ d.ρ))) = (g.cs.map (Cell.den d)).take (off + j) ++ ([.int k (x.den d.Φ d.ρ)] ++ (g.cs.map (Cell.den d)).drop (off + j + 1)) := by
                rw [List.set_eq_take_append_cons_drop, if_pos (by simp; omega)]; simp
              rw [← e0]
              apply List.ext_getElem?
              intro i
              simp only [List.map_take, List.map_drop]
              rw [List.getElem?_append]
              simp only [List.length_take, List.length_map]
              have ho : min off g.cs.length = off := by omega
              rw [ho]
              split
              · rename_i hi
                rw [List.getElem?_take_of_lt hi, List.getElem?_set_ne (by omega)]
              · rename_i hi
                rw [List.getElem?_append]
                simp only [List.length_set, List.length_take, List.length_drop, List.length_map]
                split
                · rename_i hi2
                  rw [List.getElem?_set, List.getElem?_set]
                  by_cases hij : j = i - off
                  · have : off + j = i := by omega
                    rw [if_pos hij, if_pos this, if_pos (by simp; omega), if_pos (by simp; omega)]
                  · have : ¬ off + j = i := by omega
                    rw [if_neg hij, if_neg this, List.getElem?_take_of_lt (by omega), List.getElem?_drop]
                    congr 1; omega
                · rename_i hi2
                  rw [List.getElem?_drop, List.getElem?_set_ne (by omega)]
                  congr 1; omega
            rw [key]
            simpa using g2
    · cases h
  · cases h

end
end Go.Proofs.Ytmlmdicdblgcfaa.Sx

namespace Go.Proofs.Ytmlmdicdblgcfaa.Sx
open Go Go.RowKit

section
variable {C : Cfg} {R : Bds} {X : Ctx} {d : Dn} {w : World} {hp : List (Option Reg)} {v : Operand → Option SV} {e : Operand → Value} {Pr : Pres}
  {rd : Nat → Option Reg} {new : Nat} {r : Res} {o : Oper}

/-! ### Arguments -/
theorem kdE_spec (hR : RV d.Φ R d.ρ) {k : Kd} {c : Cell} {x : E} (h : kdE R k c = some x) : c.den d = kdVal k (x.den d.Φ d.ρ) ∧ k.iv.has (x.den d.Φ d.ρ) := by
  unfold kdE at h
  split at h
  · rename_i k k' x'
    cases c : decide (k = k') <;> simp only [c, cond_false, cond_true] at h
    · cases h
    · simp only [decide_eq_true_eq] at c; subst c
      split at h
      · rename_i iv hiv
        cases c2 : iv.sub (kiv k) <;> simp only [c2, cond_false, cond_true] at h
        · cases h
        · cases h
          exact ⟨rfl, Iv.sub_has c2 (E.iv_ok hR _ hiv)⟩
      · cases h
  · rename_i k lo hi k' x'
    cases c : decide (k = k') <;> simp only [c, cond_false, cond_true] at h
    · cases h
    · simp only [decide_eq_true_eq] at c; subst c
      split at h
      · rename_i iv hiv
        cases c2 : iv.sub (Kd.n k lo hi).iv <;> simp only [c2, cond_false, cond_true] at h
        · cases h
        · cases h
          exact ⟨rfl, Iv.sub_has c2 (E.iv_ok hR _ hiv)⟩
      · cases h
  · rename_i b
    cases h
    rw [ofB_den hR]
    simp only [Cell.den, kdVal, Kd.iv, Iv.has]
    cases b.den d.Φ d.ρ <;> simp
  · cases h

/-- Cells as numbers, ahead of others. -/
theorem cellsAS_spec (hR : RV d.Φ R d.ρ) : ∀ {ks : List Kd} {cs : List Cell} {as out : AS}, cellsAS R ks cs as = some out →
    ∃ xs : List Int, xs.length = ks.length ∧ out.denE d.Φ d.ρ = xs ++ as.denE d.Φ d.ρ ∧ out.denL d.Φ d.ρ = as.denL d.Φ d.ρ ∧
      cs.map (Cell.den d) = List.zipWith kdVal ks xs ∧ allHas (ks.map Kd.iv) xs
  | [], [], as, out, h => by simp only [cellsAS, Option.some.injEq] at h; subst h; exact ⟨[], rfl, rfl, rfl, rfl, trivial⟩
  | [], _ :: _, _, _, h => by cases h
  | _ :: _, [], _, _, h => by cases h
  | k :: ks, c :: cs, as, out, h => by
    simp only [cellsAS] at h
    split at h
    · rename_i x q hx hq
      cases h
      obtain ⟨xs, h1, h2, h3, h4, h5⟩ := cellsAS_spec hR hq
      obtain ⟨k1, k2⟩ := kdE_spec hR hx
      exact ⟨x.den d.Φ d.ρ :: xs, by simp [h1], by simp [AS.denE, h2], by simp [AS.denL, h3], by simp [h4, k1], k2, h5⟩
    · cases h

theorem kdVals_append {xs ys : List Int} : ∀ (ks : List Kd) (j : Nat) (zs : List Int), zs.length = ks.length → xs.length = j → kdVals (xs ++ (zs ++ ys)) j ks = List.zipWith kdVal ks zs
  | [], _, zs, h, _ => by simp [kdVals]
  | k :: ks, j, [], h, _ => by simp at h
  | k :: ks, j, z :: zs, h, hj => by
    simp only [kdVals, List.zipWith_cons_cons]
    congr 1
    · congr 1
      rw [← hj, show xs.length = xs.length + 0 by omega, getD_append_right]; rfl
    · have := kdVals_append (xs := xs ++ [z]) (ys := ys) ks (j + 1) zs (by simpa using h) (by simp [hj])
      simpa using this

theorem valArg {agg : Bool} {ks : List Kd} {sv : SV} {as out : AS} (hR : RV d.Φ R d.ρ) (h : argAS R rd (.val agg ks) sv as = some out) {x : Value} (hx : sv.is d x) :
    ∃ zs : List Int, zs.length = ks.length ∧ out.denE d.Φ d.ρ = zs ++ as.denE d.Φ d.ρ ∧ out.denL d.Φ d.ρ = as.denL d.Φ d.ρ ∧
      x = compVal agg (List.zipWith kdVal ks zs) ∧ (agg = false → ks.length = 1) ∧ allHas (ks.map Kd.iv) zs := by
  cases agg with
  | false => cases sv with
    | one c =>
      obtain ⟨zs, h1, h2, h3, h4, h5⟩ := cellsAS_spec hR (d := d) h
      have hl : ks.length = 1 := by
        have := congrArg List.length h4
        simp at this; omega
      refine ⟨zs, h1, h2, h3, ?_, fun _ => hl, h5⟩
      simp only [SV.is] at hx
      rw [hx, ← h4]; rfl
    | agg cs => cases h
    | tup _ => cases h
    | any => cases h
  | true => cases sv with
    | agg cs =>
      obtain ⟨zs, h1, h2, h3, h4, h5⟩ := cellsAS_spec hR (d := d) h
      refine ⟨zs, h1, h2, h3, ?_, (fun hf => by cases hf), h5⟩
      simp only [SV.is] at hx
      rw [hx, ← h4]; rfl
    | one c => cases h
    | tup _ => cases h
    | any => cases h

theorem allHas_append : ∀ {a b : List Iv} {xs ys : List Int}, allHas a xs → allHas b ys → allHas (a ++ b) (xs ++ ys)
  | [], _, [], _, _, h => h
  | [], _, _ :: _, _, h, _ => h.elim
  | _ :: _, _, [], _, h, _ => h.elim
  | _ :: _, _, _ :: _, _, h, k => ⟨h.1, allHas_append h.2 k⟩

theorem argsAS_spec (hR : RV d.Φ R d.ρ) (hP : HP X d hp w) (hrd : ∀ id r, rd id = some r → getH hp id = some r) :
    ∀ {ps : List PSh} {svs : List SV} {as : AS} {args : List Value}, argsAS R rd ps svs = some as → svs.length = args.length →
    (∀ (k : Nat) (x : SV) (q : Value), svs[k]? = some x → args[k]? = some q → x.is d q) →
    as.denL d.Φ d.ρ = [] ∧ allHas (parIvs ps) (as.denE d.Φ d.ρ) ∧ ∀ pre : List Int, ArgsAre w (pre ++ as.denE d.Φ d.ρ) pre.length ps args
  | [], [], as, args, h, hl, _ => by
    simp only [argsAS, Option.some.injEq] at h; subst h
    have : args = [] := List.length_eq_zero_iff.1 hl.symm
    subst this
    exact ⟨rfl, trivial, fun _ => rfl⟩
  | [], _ :: _, _, _, h, _, _ => by cases h
  | _ :: _, [], _, _, h, _, _ => by cases h
  | p :: ps, sv :: svs, as, [], h, hl, _ => by simp at hl
  | p :: ps, sv :: svs, as, a :: args, h, hl, his => by
    simp only [argsAS] at h
    split at h
    · rename_i as' has
      obtain ⟨i1, i2, i3⟩ := argsAS_spec hR hP hrd has (by simpa using hl) (fun k x q hk hq => his (k + 1) x q (by simpa using hk) (by simpa using hq))
      have ha := his 0 sv a rfl rfl
      cases p with
      | val agg ks =>
        obtain ⟨zs, h1, h2, h3, h4, h5, h6⟩ := valArg hR h ha
        refine ⟨by rw [h3, i1], ?_, fun pre => ?_⟩
        · rw [h2]; exact allHas_append h6 i2
        · rw [h2]
          refine ⟨args, ?_, h5, ?_⟩
          · rw [kdVals_append ks pre.length zs h1 rfl, h4]
          · have := i3 (pre ++ zs)
            rw [List.length_append, h1, List.append_assoc] at this
            exact this
      | ptr ks =>
        cases sv with
        | agg _ => cases h
        | tup _ => cases h
        | any => cases h
        | one c => cases c with
        | int _ _ => cases h
        | bool _ => cases h
        | ptrx _ _ _ _ _ => cases h
        | nilp => cases h
        | nilf => cases h
        | fn _ => cases h
        | str _ => cases h
        | slc _ _ _ _ => cases h
        | ptr id off =>
          simp only [argAS] at h
          split at h
          · rename_i g hg
            cases c : Nat.ble (off + ks.length) g.cs.length <;> simp only [c, cond_false, cond_true] at h
            · cases h
            · have c := Nat.le_of_ble_eq_true c
              obtain ⟨zs, h1, h2, h3, h4, h5⟩ := cellsAS_spec hR (d := d) h
              have hg := hrd _ _ hg
              refine ⟨by rw [h3, i1], ?_, fun pre => ?_⟩
              · rw [h2]; exact allHas_append h5 i2
              · rw [h2]
                simp only [SV.is, Cell.den] at ha
                have hb : (d.α id).1 < w.heap.size := by
                  by_cases ho : g.own = true
                  · exact hP.lt hg ho
                  · have := hP.reg _ _ hg
                    unfold RegIs at this
                    rw [if_neg ho] at this
                    exact Nat.lt_of_lt_of_le this.1 hP.bl.size
                refine ⟨(d.α id).1, (d.α id).2 + off, args, by rw [ha], hb, fun i x hx => ?_, ?_⟩
                · rw [kdVals_append ks pre.length zs h1 rfl, ← h4, List.getElem?_map, Option.map_eq_some_iff] at hx
                  obtain ⟨c', hc', rfl⟩ := hx
                  have := drop_take_get hc'
                  have := (hP.reg _ _ hg).cell hP.bl this.1
                  rw [Nat.add_assoc]; exact this
                · have := i3 (pre ++ zs)
                  rw [List.length_append, h1, List.append_assoc] at this
                  exact this
          · cases h
    · cases h

/-! ### Results -/
theorem resCells_den (hR : RV d.Φ R d.ρ) (g : Nat) (as : AS) : ∀ (ks : List Kd) (j : Nat),
    (resCells R g as j ks).map (Cell.den d) = kdVals (d.Φ g (as.denE d.Φ d.ρ) (as.denL d.Φ d.ρ)).1 j ks
  | [], _ => rfl
  | .i k :: ks, j => by simp only [resCells, List.map_cons, kdVals, Cell.den, E.den, kdVal, resCells_den hR g as ks (j + 1)]
  | .n k _ _ :: ks, j => by simp only [resCells, List.map_cons, kdVals, Cell.den, E.den, kdVal, resCells_den hR g as ks (j + 1)]
  | .b :: ks, j => by
    simp only [resCells, List.map_cons, kdVals, Cell.den, kdVal, resCells_den hR g as ks (j + 1), toB_den hR]
    rfl

theorem varCells_den {n N : Nat} {xs : List Int} (hv : ∀ j, j < N → d.ρ.i.getD (n + j) 0 = xs.getD j 0) : ∀ (ks : List Kd) (j : Nat), j + ks.length ≤ N →
    (varCells (n + j) ks).map (Cell.den d) = kdVals xs j ks
  | [], _, _ => rfl
  | .i k :: ks, j, h => by
    simp only [List.length_cons] at h
    have := varCells_den hv ks (j + 1) (by omega)
    simp only [varCells, List.map_cons, kdVals, Cell.den, E.den, kdVal, hv j (by omega)]
    rw [show n + j + 1 = n + (j + 1) by omega, this]
  | .n k _ _ :: ks, j, h => by
    simp only [List.length_cons] at h
    have := varCells_den hv ks (j + 1) (by omega)
    simp only [varCells, List.map_cons, kdVals, Cell.den, E.den, kdVal, hv j (by omega)]
    rw [show n + j + 1 = n + (j + 1) by omega, this]
  | .b :: ks, j, h => by
    simp only [List.length_cons] at h
    have := varCells_den hv ks (j + 1) (by omega)
    simp only [varCells, List.map_cons, kdVals, Cell.den, B.den, kdVal]
    rw [show n + j + 1 = n + (j + 1) by omega, this]
    congr 1
    simp only [E.den, hv j (by omega)]

theorem compV_compVal (b : Bool) (cs : List Cell) : compV d (b, cs) = compVal b (cs.map (Cell.den d)) := by
  cases b
  · cases cs <;> rfl
  · rfl

theorem resComps_den (hR : RV d.Φ R d.ρ) (g : Nat) (as : AS) : ∀ (res : List (Bool × List Kd)) (j : Nat),
    (resComps R g as j res).map (compV d) = resVals (d.Φ g (as.denE d.Φ d.ρ) (as.denL d.Φ d.ρ)).1 j res
  | [], _ => rfl
  | (b, ks) :: res, j => by simp only [resComps, List.map_cons, resVals, compV_compVal, resCells_den hR, resComps_den hR g as res (j + ks.length)]

theorem varComps_den {n N : Nat} {xs : List Int} (hv : ∀ j, j < N → d.ρ.i.getD (n + j) 0 = xs.getD j 0) : ∀ (res : List (Bool × List Kd)) (j : Nat), j + (res.flatMap (·.2)).length ≤ N →
    (varComps (n + j) res).map (compV d) = resVals xs j res
  | [], _, _ => rfl
  | (b, ks) :: res, j, h => by
    simp only [List.flatMap_cons, List.length_append] at h
    have := varComps_den hv res (j + ks.length) (by omega)
    simp only [varComps, List.map_cons, resVals, compV_compVal, varCells_den hv ks j (by omega)]
    rw [show n + j + ks.length = n + (j + ks.length) by omega, this]

theorem resSV_is {comps : List (Bool × List Cell)} {sv : SV} (h : resSV comps = some sv) : sv.is d (oneOr (comps.map (compV d))) := by
  unfold resSV at h
  split at h
  · cases h; rfl
  · cases h; rfl
  · cases h
  · rename_i cs h1 h2 h3
    cases h
    simp only [SV.is]
    cases comps with
    | nil => rfl
    | cons p r => cases r with
      | nil => exact absurd rfl (h3 p)
      | cons q r => rfl

/-- Cells without pointers. -/
def Cell.plain : Cell → Bool
  | .int _ _ | .bool _ => true
  | _ => false
theorem Cell.plain_ok {c : Cell} (h : c.plain = true) : c.ok d hp := by cases c <;> first | trivial | cases h
theorem resCells_plain (R : Bds) (g : Nat) (as : AS) : ∀ (ks : List Kd) (j : Nat), ∀ c ∈ resCells R g as j ks, c.plain = true
  | [], _, _, h => by cases h
  | .i k :: ks, j, c, h => by
    simp only [resCells, List.mem_cons] at h
    rcases h with h | h
    · subst h; rfl
    · exact resCells_plain R g as ks (j + 1) c h
  | .n k _ _ :: ks, j, c, h => by
    simp only [resCells, List.mem_cons] at h
    rcases h with h | h
    · subst h; rfl
    · exact resCells_plain R g as ks (j + 1) c h
  | .b :: ks, j, c, h => by
    simp only [resCells, List.mem_cons] at h
    rcases h with h | h
    · subst h; rfl
    · exact resCells_plain R g as ks (j + 1) c h
theorem varCells_plain : ∀ (ks : List Kd) (n : Nat), ∀ c ∈ varCells n ks, c.plain = true
  | [], _, _, h => by cases h
  | .i k :: ks, n, c, h => by
    simp only [varCells, List.mem_cons] at h
    rcases h with h | h
    · subst h; rfl
    · exact varCells_plain ks (n + 1) c h
  | .n k _ _ :: ks, n, c, h => by
    simp only [varCells, List.mem_cons] at h
    rcases h with h | h
    · subst h; rfl
    · exact varCells_plain ks (n + 1) c h
  | .b :: ks, n, c, h => by
    simp only [varCells, List.mem_cons] at h
    rcases h with h | h
    · subst h; rfl
    · exact varCells_plain ks (n + 1) c h
theorem resComps_plain (R : Bds) (g : Nat) (as : AS) : ∀ (res : List (Bool × List Kd)) (j : Nat), ∀ p ∈ resComps R g as j res, ∀ c ∈ p.2, c.plain = true
  | [], _, _, h => by cases h
  | (b, ks) :: res, j, p, h => by
    simp only [resComps, List.mem_cons] at h
    rcases h with h | h
    · subst h; exact resCells_plain R g as ks j
    · exact resComps_plain R g as res _ p h
theorem varComps_plain : ∀ (res : List (Bool × List Kd)) (n : Nat), ∀ p ∈ varComps n res, ∀ c ∈ p.2, c.plain = true
  | [], _, _, h => by cases h
  | (b, ks) :: res, n, p, h => by
    simp only [varComps, List.mem_cons] at h
    rcases h with h | h
    · subst h; exact varCells_plain ks n
    · exact varComps_plain res _ p h
theorem resSV_ok {comps : List (Bool × List Cell)} {sv : SV} (h : resSV comps = some sv) (hc : ∀ p ∈ comps, ∀ c ∈ p.2, c.plain = true) : sv.ok d hp := by
  unfold resSV at h
  split at h
  · rename_i cs
    cases h
    exact fun c hm => Cell.plain_ok (hc _ List.mem_cons_self c hm)
  · rename_i c
    cases h
    exact Cell.plain_ok (hc _ List.mem_cons_self c List.mem_cons_self)
  · cases h
  · cases h
    exact fun p hp c hm => Cell.plain_ok (hc p hp c hm)

theorem callOp_some {q : Op} {g : Nat} {s : Sig} {as : AS} (h : callOp C R v rd q = some (g, s, as)) :
    ∃ c f args, q = .call c ∧ c.callee = .value f ∧ v f = some (.one (.fn g)) ∧ svs v c.args.toList = some args ∧ sigOf C.sigs g = some s ∧ plainFn C.P g = true ∧ argsAS R rd s.params args = some as := by
  unfold callOp at h
  split at h
  · rename_i c
    split at h
    · rename_i f hc
      split at h
      · rename_i g' args hf ha
        split at h
        · rename_i s' hs
          cases c1 : plainFn C.P g' <;> simp only [c1, cond_false, cond_true] at h
          · cases h
          · simp only [Option.map_eq_some_iff, Prod.mk.injEq] at h
            obtain ⟨as', h1, rfl, rfl, rfl⟩ := h
            exact ⟨c, f, args, rfl, hc, hf, ha, hs, c1, h1⟩
        · cases h
      · cases h
    · cases h
  · cases h

/-- A CALL: whatever the executor asks of its outcome. -/
theorem call_wp (hC : CTs C d.Φ Pr) (hR : RV d.Φ R d.ρ) (hP : HP X d hp w) {a : Act} (he : e = a.eval) (hv : Reads d hp v e) (hrd : ∀ id r, rd id = some r → getH hp id = some r)
    {g : Nat} {s : Sig} {as : AS} (h : callOp C R v rd o.op = some (g, s, as)) (hpre : s.total = true ∨ Pr g (as.denE d.Φ d.ρ) (as.denL d.Φ d.ρ))
    {K : Act → World → Prop} {Q : Exit → Act → World → Prop}
    (hK : ∀ w', HP X d hp w' → K (a.put o.dst (resV s (d.Φ g (as.denE d.Φ d.ρ) (as.denL d.Φ d.ρ)).1)) w') : o.wp C.P a w K Q := by
  obtain ⟨c, f, args, hq, hc, hf, ha, hs, hpl, has⟩ := callOp_some h
  obtain ⟨l1, l2, _⟩ := svs_spec hv ha
  obtain ⟨m1, m2, m3⟩ := argsAS_spec hR hP hrd has (args := c.args.toList.map e) (by simp [l1]) l2
  have hpr : Pr g (as.denE d.Φ d.ρ) [] := by
    rcases hpre with ht | hp'
    · exact hC.tot g s hs ht _ _
    · rw [m1] at hp'; exact hp'
  have hcall := hC.ct g s hs w (as.denE d.Φ d.ρ) (c.args.toList.map e) m2 (by simpa using m3 []) hpr
  have hfe := hv.is _ _ hf
  simp only [SV.is, Cell.den] at hfe
  unfold plainFn at hpl
  split at hpl
  · rename_i fn hfn
    simp only [Bool.and_eq_true, Bool.not_eq_true'] at hpl
    obtain ⟨p1, p2⟩ := hpl
    have run : (execOp a.eval o).run C.P w = .ok (.enter g (c.args.toList.map e).toArray) w := by
      subst he
      simp only [execOp, hq, resolve, hc, hfe, Deferred.ofValue, Sem.run_bind, Sem.run_pure, Result.andThen_ok, invoke, callFunc, run_program, hfn]
      have : (fn.name == "runtime.NumGoroutine") = false := p2
      simp only [this, Bool.false_eq_true, if_false]
      have hb : fn.body.isNone = false := by cases hb : fn.body <;> simp [hb] at p1 ⊢
      simp [hb, ← List.map_toArray]
    unfold Oper.wp
    rw [run, Oper.upon_enter]
    refine Calls.mono hcall fun x w' ⟨hx, hw⟩ => ?_
    subst hx
    rw [m1] at hK
    exact hK w' (hP.regs hw)
  · cases hpl

end
end Go.Proofs.Ytmlmdicdblgcfaa.Sx

namespace Go.Proofs.Ytmlmdicdblgcfaa.Sx
open Go Go.RowKit

section
variable {C : Cfg} {R : Bds} {X : Ctx} {d : Dn} {w : World} {S : St} {a : Act} {Pr : Pres} {new : Nat} {r : Res} {o : Oper}
  {K : Act → World → Prop} {Q : Exit → Act → World → Prop}

theorem memN_iff {x : Nat} : ∀ {l : List Nat}, memN x l = true ↔ x ∈ l
  | [] => by simp [memN]
  | y :: r => by
    simp only [memN, Bool.or_eq_true, memN_iff (l := r), List.mem_cons]
    refine or_congr ⟨fun h => Nat.eq_of_beq_eq_true h, fun h => by subst h; exact Nat.beq_refl _⟩ Iff.rfl

theorem rd_ok {hp : List (Option Reg)} {ids : List Nat} : ∀ id r, (bif memN id ids then getH hp id else none) = some r → getH hp id = some r := fun id r h => by
  cases c : memN id ids <;> simp only [c, cond_false, cond_true] at h
  · cases h
  · exact h

theorem Sat.reads (h : Sat X d S a w) : Reads d S.heap (valOf S) a.eval := h.tm.reads

theorem Sat.after (h : Sat X d S a w) {d' : Dn} {x : Value} {w' : World} (ha : Agree S.heap d d') (hh : Has S.heap (wrAll S.heap r.wr)) (hP : HP X d' (wrAll S.heap r.wr) w')
    (hi : r.val.is d' x) (hk : r.val.ok d' (wrAll S.heap r.wr)) (dst : Option Nat) : Sat X d' (r.put dst S) (a.put dst x) w' where
  df := by cases dst <;> exact h.df
  tm := (h.tm.agree ha hh).put hi hk dst
  hp := hP

theorem yld_wp (h : Sat X d S a w) (hy : Yld C.P a.eval o w d S.heap r) (hK : ∀ d' a' w', Agree S.heap d d' → Sat X d' (r.put o.dst S) a' w' → K a' w') : o.wp C.P a w K Q := by
  obtain ⟨x, h1, h2, h3, h4⟩ := hy
  unfold Oper.wp
  rw [h1, Oper.upon_value]
  exact hK d _ w (Agree.refl _ _) (h.after (Agree.refl _ _) (by rw [h4]; exact Has.refl _) (by rw [h4]; exact h.hp) h2 (by rw [h4]; exact h3) o.dst)

theorem op_len {c : Call} {v : Operand → Option SV} {e : Operand → Value} {rd : Nat → Option Reg} {hp : List (Option Reg)} (hv : Reads d hp v e)
    (hc : c.callee = .builtin .len) (h : opRun C R (.call c) v rd new = some r) (ho : o.op = .call c) : Yld C.P e o w d hp r := by
  simp only [opRun, hc] at h
  split at h
  · rename_i l hs hu
    cases h
    obtain ⟨l1, l2, _⟩ := svs_spec hv hs
    have hz : ∃ y, c.args.toList = [y] := by
      cases hl : c.args.toList with
      | nil => rw [hl] at l1; simp at l1
      | cons y r => cases r with
        | nil => exact ⟨y, rfl⟩
        | cons _ _ => rw [hl] at l1; simp at l1
    obtain ⟨y, hy⟩ := hz
    have h1 := l2 0 (.one (.str l)) (e y) rfl (by simp [hy])
    simp only [SV.is, Cell.den] at h1
    have ha : c.args = #[y] := by rw [← Array.toArray_toList (xs := c.args), hy]
    rw [Option.bind_eq_some_iff] at hu
    obtain ⟨t, ht, hu⟩ := hu
    refine ⟨.int .i64 ((l.den d.Φ d.ρ).length : Int), ?_, rfl, trivial, rfl⟩
    have hlen : (Builtin.len_ c.argTypes o.type #[e y]).run C.P w = .ok (.int .i64 ((l.den d.Φ d.ρ).length : Int)) w := by
      rw [h1]
      have h0 : (#[Value.string ⟨((l.den d.Φ d.ρ).map u8).toArray⟩] : Array Value)[0]? = some (.string ⟨((l.den d.Φ d.ρ).map u8).toArray⟩) := rfl
      simp only [Builtin.len_, ht, h0, Sem.run_bind, run_und hu, Result.andThen_ok, Sem.run_pure, goInt, ByteArray.size, List.size_toArray, List.length_map]
    have hm : c.args.map e = #[e y] := by rw [ha]; simp
    simp only [execOp, ho, resolve, hc, Sem.run_bind, Sem.run_pure, Result.andThen_ok, invoke, builtin, hm, hlen]
  · rename_i sv n _ hs hu
    cases h
    obtain ⟨l1, l2, _⟩ := svs_spec hv hs
    have hz : ∃ y, c.args.toList = [y] := by
      cases hl : c.args.toList with
      | nil => rw [hl] at l1; simp at l1
      | cons y r => cases r with
        | nil => exact ⟨y, rfl⟩
        | cons _ _ => rw [hl] at l1; simp at l1
    obtain ⟨y, hy⟩ := hz
    have ha : c.args = #[y] := by rw [← Array.toArray_toList (xs := c.args), hy]
    rw [Option.bind_eq_some_iff] at hu
    obtain ⟨t, ht, hu⟩ := hu
    refine ⟨.int .i64 (n : Int), ?_, rfl, trivial, rfl⟩
    have hlen : (Builtin.len_ c.argTypes o.type #[e y]).run C.P w = .ok (.int .i64 (n : Int)) w := by
      have h0 : (#[e y] : Array Value)[0]? = some (e y) := rfl
      simp only [Builtin.len_, ht, h0, Sem.run_bind, run_und hu, Result.andThen_ok, Sem.run_pure, goInt]
    have hm : c.args.map e = #[e y] := by rw [ha]; simp
    simp only [execOp, ho, resolve, hc, Sem.run_bind, Sem.run_pure, Result.andThen_ok, invoke, builtin, hm, hlen]
  · cases h

/-- copy, from cells to a block of the call's own. -/
theorem op_copy {c : Call} {v : Operand → Option SV} {e : Operand → Value} {rd : Nat → Option Reg} {hp : List (Option Reg)} (hP : HP X d hp w) (hv : Reads d hp v e)
    (hrd : ∀ id r, rd id = some r → getH hp id = some r) (hc : c.callee = .builtin .copy) (h : opRun C R (.call c) v rd new = some r) (ho : o.op = .call c) :
    ∃ x w', (execOp e o).run C.P w = .ok (.value x) w' ∧ Aft X d hp (wrAll hp r.wr) r.val x w' := by
  simp only [opRun, hc] at h
  split at h
  · rename_i id off len cap id' off' len' cap' el hs hu
    split at h
    · rename_i g g' m hg hg' hm
      cases c1 : (g.own && (Nat.ble (off + Nat.min len' len * m) g.cs.length && Nat.ble (off' + Nat.min len' len * m) g'.cs.length)) <;> simp only [c1, cond_false, cond_true] at h
      · cases h
      · cases h
        simp only [Bool.and_eq_true] at c1
        obtain ⟨c1, c2, c3⟩ := c1
        have c2 := Nat.le_of_ble_eq_true c2
        have c3 := Nat.le_of_ble_eq_true c3
        have hg := hrd _ _ hg
        have hg' := hrd _ _ hg'
        obtain ⟨l1, l2, _⟩ := svs_spec hv hs
        have hz : ∃ y z, c.args.toList = [y, z] := by
          cases hl : c.args.toList with
          | nil => rw [hl] at l1; simp at l1
          | cons y r => cases r with
            | nil => rw [hl] at l1; simp at l1
            | cons z r => cases r with
              | nil => exact ⟨y, z, rfl⟩
              | cons _ _ => rw [hl] at l1; simp at l1
        obtain ⟨y, z, hy⟩ := hz
        have h1 := l2 0 (.one (.slc id off len cap)) (e y) rfl (by simp [hy])
        have h2 := l2 1 (.one (.slc id' off' len' cap')) (e z) rfl (by simp [hy])
        simp only [SV.is, Cell.den] at h1 h2
        have ha : c.args = #[y, z] := by rw [← Array.toArray_toList (xs := c.args), hy]
        rw [Option.bind_eq_some_iff] at hu
        obtain ⟨t, ht, hu⟩ := hu
        have hr := hP.reg _ _ hg
        unfold RegIs at hr
        rw [if_pos c1] at hr
        have hb : w.heap[(d.α id).1]? = some (.cells (g.cs.map (Cell.den d)).toArray g.ty (0, 0)) := hr.2.2
        have hld : (loadCells ⟨(d.α id').1, (d.α id').2 + off', none⟩ (Nat.min len' len * m)).run C.P w = .ok (((g'.cs.drop off').take (Nat.min len' len * m)).map (Cell.den d)).toArray w :=
          loadCells_run (by simp; omega) fun k q hq => by
            rw [List.getElem?_map, Option.map_eq_some_iff] at hq
            obtain ⟨c, hc, rfl⟩ := hq
            have := drop_take_get hc
            rw [Nat.add_assoc]
            exact (hP.reg _ _ hg').cell hP.bl this.1
        obtain ⟨w', g1, g2⟩ := storeCells_run (P := C.P) (off := off) (((g'.cs.drop off').take (Nat.min len' len * m)).map (Cell.den d)) 0 w (g.cs.map (Cell.den d)) hb (by simp; omega)
          (fun q hq => by obtain ⟨c, _, rfl⟩ := List.mem_map.1 hq; exact Cell.den_oneCell d c)
        refine ⟨.int .i64 (Nat.min len' len : Nat), w', ?_, d, Agree.refl _ _, Has.setH id _, ?_, rfl, trivial⟩
        · have hcp : (Builtin.copy_ c.argTypes o.type #[e y, e z]).run C.P w = .ok (.int .i64 (Nat.min len' len : Nat)) w' := by
            rw [h1, h2, hr.1, Nat.zero_add]
            have k0 : (#[Value.slice (some ⟨(d.α id).1, off, none⟩) len cap, Value.slice (some ⟨(d.α id').1, (d.α id').2 + off', none⟩) len' cap'] : Array Value)[0]? = some (.slice (some ⟨(d.α id).1, off, none⟩) len cap) := rfl
            have k1 : (#[Value.slice (some ⟨(d.α id).1, off, none⟩) len cap, Value.slice (some ⟨(d.α id').1, (d.α id').2 + off', none⟩) len' cap'] : Array Value)[1]? = some (.slice (some ⟨(d.α id').1, (d.α id').2 + off', none⟩) len' cap') := rfl
            simp only [Builtin.copy_, ht, k0, k1, Sem.run_bind, run_und hu, Result.andThen_ok, Builtin.lenOf, Sem.run_pure, run_size hm, Builtin.firstCells, hld, g1, goInt]
          have hmm : c.args.map e = #[e y, e z] := by rw [ha]; simp
          simp only [execOp, ho, resolve, hc, Sem.run_bind, Sem.run_pure, Result.andThen_ok, invoke, builtin, hmm, hcp]
        · refine hP.write hg c1 (cs := splice g.cs ((g'.cs.drop off').take (Nat.min len' len * m)) off) (fun q hq => ?_) ?_
          · rcases splice_mem hq with hq | hq
            · exact hP.ids _ _ hg q hq
            · exact hP.ids _ _ hg' q (List.mem_of_mem_drop (List.mem_of_mem_take hq))
          · simpa [splice, List.map_take, List.map_drop] using g2
    · cases h
  · cases h

theorem opRun_wp (hC : CTs C d.Φ Pr) (hR : RV d.Φ R d.ρ) (h : Sat X d S a w) {ids : List Nat}
    (hr : opRun C R o.op (valOf S) (fun id => bif memN id ids then getH S.heap id else none) new = some r)
    (hnew : isNew o.op = true → getH S.heap new = none ∧ new < S.heap.length) (hos : OsHold d.Φ Pr d.ρ r.os)
    (hK : ∀ d' a' w', Agree S.heap d d' → Sat X d' (r.put o.dst S) a' w' → K a' w') : o.wp C.P a w K Q := by
  have hv := h.reads
  have viaNew : isNew o.op = true → o.wp C.P a w K Q := fun hn => by
    obtain ⟨n1, n2⟩ := hnew hn
    obtain ⟨x, w', h1, d', h2, h3, h4, h5, h6⟩ := op_new h.hp hv hr hn n1 n2
    unfold Oper.wp
    rw [h1, Oper.upon_value]
    exact hK d' _ w' h2 (h.after h2 h3 h4 h5 h6 o.dst)
  cases hop : o.op with
  | move x => rw [hop] at hr; exact yld_wp h (op_move hv (by simpa [opRun] using hr) (.inl hop)) hK
  | assign x => rw [hop] at hr; exact yld_wp h (op_move hv (by simpa [opRun] using hr) (.inr hop)) hK
  | alloc t => exact viaNew (by rw [hop]; rfl)
  | box t x => exact viaNew (by rw [hop]; rfl)
  | build t ps => rw [hop] at hr; exact yld_wp h (op_build hv hr hop) hK
  | load t x => rw [hop] at hr; exact yld_wp h (op_load h.hp hv rd_ok hr hop) hK
  | store t x y =>
    rw [hop] at hr
    obtain ⟨w', h1, d', h2, h3, h4, h5, h6⟩ := op_store h.hp hv rd_ok hr hop
    unfold Oper.wp
    rw [h1, Oper.upon_skip]
    exact hK d' _ w' h2 (h.after h2 h3 h4 h5 h6 o.dst)
  | nilCheck x => rw [hop] at hr; exact yld_wp h (op_nilCheck hv hr hop) hK
  | binOp op t x y u => rw [hop] at hr; exact yld_wp h (op_binOp hR hv hr hop hos) hK
  | unOp u t x => rw [hop] at hr; exact yld_wp h (op_unOp hR hv hr hop) hK
  | convert s t x => rw [hop] at hr; exact yld_wp h (op_convert hR hv hr hop) hK
  | fieldAddr s x f => rw [hop] at hr; exact yld_wp h (op_fieldAddr hv hr hop) hK
  | field s x f => rw [hop] at hr; exact yld_wp h (op_field hv hr hop) hK
  | indexAddr t x i => rw [hop] at hr; exact yld_wp h (op_indexAddr hR hv hr hop hos) hK
  | index t x i => rw [hop] at hr; exact yld_wp h (op_index hR hv hr hop hos) hK
  | extract t i => rw [hop] at hr; exact yld_wp h (op_extract hv hr hop) hK
  | call c =>
    rw [hop] at hr
    cases hc : c.callee with
    | value f =>
      have hr' := hr
      simp only [opRun, hc] at hr'
      split at hr'
      · rename_i g s as hg
        simp only [Option.map_eq_some_iff] at hr'
        obtain ⟨sv, hsv, rfl⟩ := hr'
        refine call_wp hC hR h.hp rfl hv rd_ok (by rw [hop]; exact hg) ?_ fun w' hw' => ?_
        · cases ht : s.total
          · right
            have := hos (.pre g as) (by simp [ht])
            exact this
          · exact .inl rfl
        · have hi := resSV_is (d := d) hsv
          rw [resComps_den hR] at hi
          exact hK d _ w' (Agree.refl _ _) (Sat.after (r := ⟨sv, [], bif s.total then [] else [.pre g as]⟩) h (Agree.refl _ _) (Has.refl _) hw' hi (resSV_ok hsv (resComps_plain R g as s.res 0)) o.dst)
      · cases hr'
    | invoke _ _ => simp only [opRun, hc] at hr; cases hr
    | builtin b =>
      cases b
      case len => exact yld_wp h (op_len hv hc hr hop) hK
      case copy =>
        obtain ⟨x, w', h1, d', h2, h3, h4, h5, h6⟩ := op_copy h.hp hv rd_ok hc hr hop
        unfold Oper.wp
        rw [h1, Oper.upon_value]
        exact hK d' _ w' h2 (h.after h2 h3 h4 h5 h6 o.dst)
      all_goals (simp only [opRun, hc] at hr; cases hr)
  | sliceToArrayPointer t x => rw [hop] at hr; exact yld_wp h (op_sl2ap hv hr hop) hK
  | slice t x lo hi mx =>
    rw [hop] at hr
    cases lo with
    | some _ => simp only [opRun] at hr; cases hr
    | none => cases mx with
      | some _ => simp only [opRun] at hr; cases hr
      | none => exact yld_wp h (op_slice hv hr hop) hK
  | pick _ _ _ | buildSlice _ _ _ | insert _ _ _ _ | ready _ | waits _ | makeInterface _ _ | makeFunc _ _ _ | makeMap _ _ | makeChan _ _
  | makeSlice _ _ _ | lookup _ _ _ _ | mapUpdate _ _ _ _ | mapEntry _ _ _ | entryStore _ _ _ _ | range _ _ | next _ _ | entry _ | typeAssert _ _ _ _ | go _ | defer _ | panic _
  | send _ _ | recv _ _ _ | select _ _ => rw [hop] at hr; simp only [opRun] at hr; cases hr

theorem opStep_wp (hC : CTs C d.Φ Pr) (hR : RV d.Φ R d.ρ) (h : Sat X d S a w) {dec : Bool} (hr : opStep C R o.op dec S new = some r) (hdec : ∀ b, pickOf S o.op = some b → b.den d.Φ d.ρ = dec)
    (hnew : isNew o.op = true → getH S.heap new = none ∧ new < S.heap.length) (hos : OsHold d.Φ Pr d.ρ r.os)
    (hK : ∀ d' a' w', Agree S.heap d d' → Sat X d' (r.put o.dst S) a' w' → K a' w') : o.wp C.P a w K Q := by
  unfold opStep at hr
  split at hr
  · rename_i c x y hop
    split at hr
    · rename_i b hb
      simp only [Option.map_eq_some_iff] at hr
      obtain ⟨sv, hs, rfl⟩ := hr
      have hd := hdec b (by simp only [hop, pickOf, hb])
      have hc := h.reads.is _ _ hb
      simp only [SV.is, Cell.den] at hc
      refine yld_wp h ?_ hK
      refine ⟨a.eval (bif dec then x else y), ?_, h.reads.is _ _ hs, h.reads.ok _ _ hs, rfl⟩
      simp only [execOp, hop, hc, asBool, Sem.run_bind, Sem.run_pure, Result.andThen_ok, hd]
      cases dec <;> rfl
    · cases hr
  · exact opRun_wp hC hR h hr hnew hos hK

/-! ### Guards -/
theorem wanted_none (h : o.guard = none) (f : Nat → Option Bool) : Region.wanted o f = true := by
  simp [Region.wanted, h]

/-- What the executor asks of a guard is what the model asks. -/
theorem guardOf_spec {ops : Array Oper} (h : Sat X d S a w) : match guardOf ops S o with
    | .run => Region.wanted o (yielded ops a.tmps) = true
    | .skip => Region.wanted o (yielded ops a.tmps) = false
    | .ask b => Region.wanted o (yielded ops a.tmps) = b.den d.Φ d.ρ
    | .bad => True := by
  unfold guardOf
  cases hg : o.guard with
  | none => exact wanted_none hg _
  | some gw =>
    obtain ⟨g, want⟩ := gw
    simp only
    cases ht : (ops[g]?).bind (·.dst) with
    | none => trivial
    | some t =>
      have his := h.tm.is t
      have hgetD : ∀ x, a.tmps.getD t undef = x → x ≠ undef → a.tmps[t]? = some x := fun x hx hn => by
        cases hq : a.tmps[t]? with
        | none => simp [hq] at hx; exact absurd hx.symm hn
        | some y => simp [hq] at hx; rw [hx]
      have hyd : yielded ops a.tmps g = match a.tmps[t]? with | some (.bool b) => some b | _ => none := by
        simp only [yielded, ht, Option.bind_some]
        cases a.tmps[t]? with
        | none => rfl
        | some y => cases y <;> rfl
      simp only
      cases hsv : getT S.tmps t with
      | one c =>
        rw [hsv] at his
        cases c with
        | bool b =>
          simp only [SV.is, Cell.den] at his
          have := hgetD _ his (fun h => by cases h)
          simp only [Region.wanted, hg, hyd, this]
          cases want <;> simp [mkNot_den] <;> cases b.den d.Φ d.ρ <;> rfl
        | _ => trivial
      | tup vs =>
        rw [hsv] at his
        cases vs with
        | nil =>
          simp only [SV.is, List.map_nil] at his
          simp only [Region.wanted, hg, hyd]
          cases hq : a.tmps[t]? with
          | none => rfl
          | some y =>
            simp [hq] at his
            subst his
            rfl
        | cons _ _ => trivial
      | agg _ => trivial
      | any => trivial
end
end Go.Proofs.Ytmlmdicdblgcfaa.Sx

namespace Go.Proofs.Ytmlmdicdblgcfaa.Sx
open Go Go.RowKit

/-- What a tree asks in an environment, of what is asked at its leaves. -/
def T.holds (Φ : Fns) (Pr : Pres) : T → Env → (Ex → Bds → St → Env → Prop) → Prop
  | .fail _, _, _ => False
  | .leaf x R S, ρ, K => K x R S ρ
  | .ite b t e, ρ, K => (b.den Φ ρ = true → t.holds Φ Pr ρ K) ∧ (b.den Φ ρ = false → e.holds Φ Pr ρ K)
  | .need os t, ρ, K => OsHold Φ Pr ρ os ∧ t.holds Φ Pr ρ K
  | .bind e t, ρ, K => t.holds Φ Pr (ρ.pushI [e.den Φ ρ]) K
  | .call g as n t, ρ, K => t.holds Φ Pr (ρ.pushI (norm n (Φ g (as.denE Φ ρ) (as.denL Φ ρ)).1)) K
  | .again k n0 rs es, ρ, _ => allHas rs (es.map (E.den Φ ρ)) ∧ Pr.inv k (ρ.i.take n0) (es.map (E.den Φ ρ)) ∧
      Pr.mu k (ρ.i.take n0) (es.map (E.den Φ ρ)) < Pr.mu k (ρ.i.take n0) ((ρ.i.drop n0).take rs.length)
  | .loop k es rs t, ρ, K => allHas rs (es.map (E.den Φ ρ)) ∧ Pr.inv k ρ.i (es.map (E.den Φ ρ)) ∧
      ∀ ys, allHas rs ys → Pr.inv k ρ.i ys → t.holds Φ Pr (ρ.pushI ys) K

section
variable {C : Cfg} {R : Bds} {X : Ctx} {d : Dn} {w : World} {S : St} {a : Act} {Pr : Pres} {new : Nat} {r : Res} {o : Oper}
  {Q : Exit → Act → World → Prop} {K : Ex → Bds → St → Env → Prop}

/-- d after more numbers. -/
def Dn.push (d : Dn) (ys : List Int) : Dn := ⟨d.Φ, d.ρ.pushI ys, d.α⟩

theorem need_holds {os : List O} {t : T} {ρ : Env} (h : (needT os t).holds d.Φ Pr ρ K) : OsHold d.Φ Pr ρ os ∧ t.holds d.Φ Pr ρ K := by
  cases os with
  | nil => exact ⟨(fun _ hm => by cases hm), h⟩
  | cons x r =>
    unfold needT at h
    cases hc : (x :: r).any O.isFalse <;> simp only [hc, cond_false, cond_true] at h
    · exact h
    · exact h.elim

theorem askT_holds (hR : RV d.Φ R d.ρ) {b : B} {yes no : Bds → T} (h : (askT R b yes no).holds d.Φ Pr d.ρ K) :
    (b.den d.Φ d.ρ = true ∧ ∃ R', RV d.Φ R' d.ρ ∧ R'.i.length = R.i.length ∧ (yes R').holds d.Φ Pr d.ρ K) ∨
    (b.den d.Φ d.ρ = false ∧ ∃ R', RV d.Φ R' d.ρ ∧ R'.i.length = R.i.length ∧ (no R').holds d.Φ Pr d.ρ K) := by
  have al : ∀ v, (R.assume b v).i.length = R.i.length := fun v => refine_length _ _ _
  unfold askT at h
  split at h
  · rename_i hk
    exact .inl ⟨known_ok hR b _ hk, R, hR, rfl, h⟩
  · rename_i hk
    exact .inr ⟨known_ok hR b _ hk, R, hR, rfl, h⟩
  · cases hb : b.den d.Φ d.ρ
    · exact .inr ⟨rfl, _, hR.assume b false hb, al _, h.2 hb⟩
    · exact .inl ⟨rfl, _, hR.assume b true hb, al _, h.1 hb⟩

/-! ### More numbers -/
theorem Cell.den_pushD {n m : Nat} {ys : List Int} (hn : n ≤ d.ρ.i.length) {c : Cell} (h : c.sc n m = true) : c.den (d.push ys) = c.den d := by
  cases c <;> simp only [Cell.sc] at h <;> simp only [Cell.den, Dn.push]
  · rw [E.den_push hn _ h]
  · rw [B.den_push hn _ h]
  · rw [E.den_push hn _ h]
  · rw [L.den_push hn _ h]
theorem Cell.ok_pushD {n m : Nat} {ys : List Int} {hp : List (Option Reg)} (hn : n ≤ d.ρ.i.length) {c : Cell} (h : c.sc n m = true) (hc : c.ok d hp) : c.ok (d.push ys) hp := by
  cases c <;> first | exact hc | skip
  simp only [Cell.sc] at h
  simp only [Cell.ok, Dn.push, E.den_push hn _ h]
  exact hc
theorem cells_pushD {n m : Nat} {ys : List Int} (hn : n ≤ d.ρ.i.length) {cs : List Cell} (h : cs.all (·.sc n m) = true) : cs.map (Cell.den (d.push ys)) = cs.map (Cell.den d) :=
  List.map_congr_left fun c hm => Cell.den_pushD hn (List.all_eq_true.1 h c hm)
theorem SV.is_pushD {n m : Nat} {ys : List Int} (hn : n ≤ d.ρ.i.length) {v : SV} (h : v.sc n m = true) {x : Value} (hx : v.is d x) : v.is (d.push ys) x := by
  cases v with
  | one c => simp only [SV.is] at *; rw [hx, Cell.den_pushD hn h]
  | agg cs => simp only [SV.is] at *; rw [hx, cells_pushD hn h]
  | tup vs =>
    simp only [SV.is] at *
    rw [hx]
    congr 2
    refine List.map_congr_left fun p hm => ?_
    have hp := List.all_eq_true.1 h p hm
    rw [compV_compVal, compV_compVal, cells_pushD hn hp]
  | any => trivial
theorem SV.ok_pushD {n m : Nat} {ys : List Int} {hp : List (Option Reg)} (hn : n ≤ d.ρ.i.length) {v : SV} (h : v.sc n m = true) (hv : v.ok d hp) : v.ok (d.push ys) hp := by
  cases v with
  | one c => exact Cell.ok_pushD hn h hv
  | agg cs => exact fun c hm => Cell.ok_pushD hn (List.all_eq_true.1 h c hm) (hv c hm)
  | tup vs => exact fun p hm c hc => Cell.ok_pushD hn (List.all_eq_true.1 (List.all_eq_true.1 h p hm) c hc) (hv p hm c hc)
  | any => trivial

theorem getT_mem : ∀ (l : List SV) (t : Nat), getT l t ∈ l ∨ getT l t = .undef
  | [], t => .inr (getT_nil t)
  | _ :: _, 0 => .inl List.mem_cons_self
  | _ :: r, t + 1 => (getT_mem r t).imp (List.mem_cons_of_mem _) id
theorem getH_mem : ∀ (l : List (Option Reg)) (t : Nat) (g : Reg), getH l t = some g → some g ∈ l
  | [], t, g, h => by rw [getH_nil] at h; cases h
  | _ :: _, 0, g, h => by simp only [getH] at h; subst h; exact List.mem_cons_self
  | _ :: r, t + 1, g, h => List.mem_cons_of_mem _ (getH_mem r t g h)

theorem Sat.push {n m : Nat} (h : Sat X d S a w) (hn : n ≤ d.ρ.i.length) (hs : S.sc n m = true) (ys : List Int) : Sat X (d.push ys) S a w := by
  simp only [St.sc, Bool.and_eq_true, List.all_eq_true] at hs
  have ht : ∀ t, (getT S.tmps t).sc n m = true := fun t => by
    rcases getT_mem S.tmps t with h' | h'
    · exact hs.1 _ h'
    · rw [h']; rfl
  have hh : ∀ id g, getH S.heap id = some g → g.cs.all (·.sc n m) = true := fun id g hg => hs.2 _ (getH_mem _ _ _ hg)
  refine ⟨h.df, ⟨h.tm.len, fun t => SV.is_pushD hn (ht t) (h.tm.is t), fun t => SV.ok_pushD hn (ht t) (h.tm.ok t)⟩, ⟨h.hp.bl, fun id g hg => ?_, h.hp.sep, fun id g hg c hc => ?_⟩⟩
  · have old := h.hp.reg id g hg
    have hc := hh id g hg
    unfold RegIs at *
    split
    · rename_i ho
      rw [if_pos ho] at old
      rw [cells_pushD hn hc]
      exact old
    · rename_i ho
      rw [if_neg ho] at old
      exact ⟨old.1, fun i c hi => by
        rw [Cell.den_pushD hn (List.all_eq_true.1 hc c (List.mem_of_getElem? hi))]
        exact old.2 i c hi⟩
  · exact Cell.ok_pushD hn (List.all_eq_true.1 (hh id g hg) c hc) (h.hp.ids id g hg c hc)

/-! ### Other cells for the same values -/
/-- Two cells that stand for the same, and are both sound. -/
def SameC (d : Dn) (c c' : Cell) : Prop := c'.den d = c.den d ∧ ∀ hp, c.ok d hp → c'.ok d hp
def SameCs (d : Dn) : List Cell → List Cell → Prop
  | [], [] => True
  | c :: r, c' :: r' => SameC d c c' ∧ SameCs d r r'
  | _, _ => False

theorem SameC.refl (d : Dn) (c : Cell) : SameC d c c := ⟨rfl, fun _ h => h⟩
theorem SameCs.refl (d : Dn) : ∀ cs, SameCs d cs cs
  | [] => trivial
  | c :: r => ⟨SameC.refl d c, SameCs.refl d r⟩
theorem SameCs.map : ∀ {cs cs' : List Cell}, SameCs d cs cs' → cs'.map (Cell.den d) = cs.map (Cell.den d)
  | [], [], _ => rfl
  | c :: r, c' :: r', h => by simp [h.1.1, SameCs.map h.2]
  | [], _ :: _, h => h.elim
  | _ :: _, [], h => h.elim
theorem SameCs.ok {hp : List (Option Reg)} : ∀ {cs cs' : List Cell}, SameCs d cs cs' → (∀ c ∈ cs, c.ok d hp) → ∀ c ∈ cs', c.ok d hp
  | [], [], _, _, _, hm => by cases hm
  | c :: r, c' :: r', h, hc, x, hm => by
    cases hm with
    | head => exact h.1.2 hp (hc c List.mem_cons_self)
    | tail _ hm => exact SameCs.ok h.2 (fun c hc' => hc c (List.mem_cons_of_mem _ hc')) x hm
  | [], _ :: _, h, _, _, _ => h.elim
  | _ :: _, [], h, _, _, _ => h.elim

theorem Sat.setT' (h : Sat X d S a w) {t : Nat} {v : SV} (hi : ∀ x, (getT S.tmps t).is d x → v.is d x) (ho : (getT S.tmps t).ok d S.heap → v.ok d S.heap) :
    Sat X d { S with tmps := setT S.tmps t v } a w := by
  refine ⟨h.df, ⟨by rw [setT_length]; exact h.tm.len, fun k => ?_, fun k => ?_⟩, h.hp⟩
  · by_cases hk : t = k
    · subst hk
      rcases Nat.lt_or_ge t S.tmps.length with hl | hl
      · rw [getT_setT_same _ _ _ hl]; exact hi _ (h.tm.is t)
      · rw [getT_ge _ _ (by rw [setT_length]; exact hl)]
        have := h.tm.is t
        rw [getT_ge _ _ hl] at this; exact this
    · rw [getT_setT_ne _ _ _ _ hk]; exact h.tm.is k
  · by_cases hk : t = k
    · subst hk
      rcases Nat.lt_or_ge t S.tmps.length with hl | hl
      · rw [getT_setT_same _ _ _ hl]; exact ho (h.tm.ok t)
      · rw [getT_ge _ _ (by rw [setT_length]; exact hl)]; exact undef_ok d _
    · rw [getT_setT_ne _ _ _ _ hk]; exact h.tm.ok k

/-- The same blocks are there. -/
def SameH (hp hp' : List (Option Reg)) : Prop := hp'.length = hp.length ∧ ∀ k, (getH hp' k).isSome = (getH hp k).isSome
theorem SameH.refl (hp : List (Option Reg)) : SameH hp hp := ⟨rfl, fun _ => rfl⟩
theorem SameH.trans {x y z : List (Option Reg)} (h : SameH x y) (k : SameH y z) : SameH x z := ⟨k.1.trans h.1, fun i => (k.2 i).trans (h.2 i)⟩
theorem SameH.has {x y : List (Option Reg)} (h : SameH x y) : Has x y := fun k hk => by rw [h.2 k]; exact hk

theorem Sat.setH' (h : Sat X d S a w) {id : Nat} {g : Reg} (hg : getH S.heap id = some g) {cs : List Cell} (hs : SameCs d g.cs cs) :
    Sat X d { S with heap := setH S.heap id (some { g with cs := cs }) } a w ∧ SameH S.heap (setH S.heap id (some { g with cs := cs })) := by
  have hsame : SameH S.heap (setH S.heap id (some { g with cs := cs })) := ⟨setH_length _ _ _, fun k => by
    by_cases hk : id = k
    · subst hk; rw [getH_setH_same _ _ _ (getH_lt hg), hg]; rfl
    · rw [getH_setH_ne _ _ _ _ hk]⟩
  have get : ∀ k q, getH (setH S.heap id (some { g with cs := cs })) k = some q → ∃ q', getH S.heap k = some q' ∧ q'.own = q.own ∧ q'.ty = q.ty ∧ SameCs d q'.cs q.cs := fun k q hq => by
    by_cases hk : id = k
    · subst hk
      rw [getH_setH_same _ _ _ (getH_lt hg)] at hq
      cases hq
      exact ⟨g, hg, rfl, rfl, hs⟩
    · rw [getH_setH_ne _ _ _ _ hk] at hq
      exact ⟨q, hq, rfl, rfl, SameCs.refl d _⟩
  refine ⟨⟨h.df, ⟨h.tm.len, h.tm.is, fun t => SV.ok_mono hsame.has (h.tm.ok t)⟩, ⟨h.hp.bl, fun k q hq => ?_, fun i j ri rj hi hj oi oj hij => ?_, fun k q hq c hc => ?_⟩⟩, hsame⟩
  · obtain ⟨q', h1, h2, h3, h4⟩ := get k q hq
    have old := h.hp.reg k q' h1
    unfold RegIs at *
    rw [h2, h3, ← h4.map] at old
    split
    · rename_i ho; rw [if_pos ho] at old; exact old
    · rename_i ho
      rw [if_neg ho] at old
      refine ⟨old.1, fun i c hi => ?_⟩
      have hm := h4.map
      have : (q'.cs.map (Cell.den d))[i]? = some (c.den d) := by rw [← hm, List.getElem?_map, hi]; rfl
      rw [List.getElem?_map, Option.map_eq_some_iff] at this
      obtain ⟨c', hc', e⟩ := this
      rw [← e]; exact old.2 i c' hc'
  · obtain ⟨qi, h1, h2, _, _⟩ := get i ri hi
    obtain ⟨qj, h3, h4, _, _⟩ := get j rj hj
    exact h.hp.sep i j qi qj h1 h3 (h2.trans oi) (h4.trans oj) hij
  · obtain ⟨q', h1, _, _, h4⟩ := get k q hq
    exact Cell.ok_mono hsame.has (h4.ok (h.hp.ids k q' h1) c hc)

/-! ### Binding -/
theorem cut_spec (hR : RV d.Φ R d.ρ) {c c' : Cell} {e : E} {iv : Iv} (h : c.cut R R.i.length = some (e, iv, c')) (hs : c.sc R.i.length R.l.length = true) :
    iv.has (e.den d.Φ d.ρ) ∧ SameC (d.push [e.den d.Φ d.ρ]) c c' := by
  have hn : R.i.length ≤ d.ρ.i.length := by rw [hR.li]; exact Nat.le_refl _
  have hvar : ∀ x : Int, (d.ρ.pushI [x]).i.getD R.i.length 0 = x := fun x => by
    have := getD_append_right (xs := d.ρ.i) (ys := [x]) (n := 0)
    rw [Nat.add_zero, hR.li] at this
    exact this
  unfold Cell.cut at h
  split at h
  · rename_i k x
    cases c1 : x.small <;> simp only [c1, cond_false, cond_true] at h
    · simp only [Option.map_eq_some_iff, Prod.mk.injEq] at h
      obtain ⟨iv', h1, rfl, rfl, rfl⟩ := h
      refine ⟨E.iv_ok hR _ h1, ?_, fun _ _ => trivial⟩
      rw [Cell.den_pushD hn hs]
      simp only [Cell.den, Dn.push, E.den, hvar]
    · cases h
  · rename_i b
    cases c1 : b.small <;> simp only [c1, cond_false, cond_true] at h
    · split at h
      · rename_i iv' h1
        cases c2 : (ile 0 iv'.lo && ile iv'.hi 1) <;> simp only [c2, cond_false, cond_true] at h
        · cases h
        · cases h
          refine ⟨E.iv_ok hR _ h1, ?_, fun _ _ => trivial⟩
          rw [Cell.den_pushD hn hs]
          simp only [Cell.den, Dn.push, B.den, ofB_den hR]
          congr 1
          have : ∀ x : Int, decide (E.den d.Φ (d.ρ.pushI [x]) (E.var R.i.length) = E.den d.Φ (d.ρ.pushI [x]) (E.lit 1)) = decide (x = 1) := fun x => by
            simp only [E.den, hvar]
          rw [this]
          cases b.den d.Φ d.ρ <;> rfl
      · cases h
    · cases h
  · cases h

theorem cutCells_spec (hR : RV d.Φ R d.ρ) : ∀ {cs cs' : List Cell} {e : E} {iv : Iv}, cutCells R R.i.length cs = some (e, iv, cs') → cs.all (·.sc R.i.length R.l.length) = true →
    iv.has (e.den d.Φ d.ρ) ∧ SameCs (d.push [e.den d.Φ d.ρ]) cs cs'
  | [], _, _, _, h, _ => by cases h
  | c :: cs, cs', e, iv, h, hs => by
    simp only [List.all_cons, Bool.and_eq_true] at hs
    simp only [cutCells] at h
    split at h
    · rename_i e' iv' c' hc
      cases h
      have := cut_spec hR hc hs.1
      exact ⟨this.1, this.2, SameCs.refl _ _⟩
    · simp only [Option.map_eq_some_iff, Prod.mk.injEq] at h
      obtain ⟨⟨e', iv', cs''⟩, h1, rfl, rfl, rfl⟩ := h
      have := cutCells_spec hR h1 hs.2
      exact ⟨this.1, SameC.refl _ _, this.2⟩

theorem cutPl_spec (hR : RV d.Φ R d.ρ) (h : Sat X d S a w) {p : Pl} {e : E} {iv : Iv} {S' : St} (hc : cutPl R R.i.length S p = some (e, iv, S')) (hs : S.sc R.i.length R.l.length = true) :
    iv.has (e.den d.Φ d.ρ) ∧ Sat X (d.push [e.den d.Φ d.ρ]) S' a w ∧ SameH S.heap S'.heap := by
  have hn : R.i.length ≤ d.ρ.i.length := by rw [hR.li]; exact Nat.le_refl _
  have hP := h.push hn hs [e.den d.Φ d.ρ]
  have hs' := hs
  simp only [St.sc, Bool.and_eq_true, List.all_eq_true] at hs'
  unfold cutPl at hc
  split at hc
  · rename_i t
    have hst : (getT S.tmps t).sc R.i.length R.l.length = true := by
      rcases getT_mem S.tmps t with h' | h'
      · exact hs'.1 _ h'
      · rw [h']; rfl
    split at hc
    · rename_i c ht
      rw [ht] at hst
      simp only [Option.map_eq_some_iff, Prod.mk.injEq] at hc
      obtain ⟨⟨e', iv', c'⟩, h1, rfl, rfl, rfl⟩ := hc
      obtain ⟨k1, k2⟩ := cut_spec hR h1 hst
      refine ⟨k1, hP.setT' (fun x hx => ?_) (fun ho => ?_), SameH.refl _⟩
      · rw [ht] at hx; simp only [SV.is] at hx ⊢; rw [hx, k2.1]
      · rw [ht] at ho; exact k2.2 _ ho
    · rename_i cs ht
      rw [ht] at hst
      simp only [Option.map_eq_some_iff, Prod.mk.injEq] at hc
      obtain ⟨⟨e', iv', cs'⟩, h1, rfl, rfl, rfl⟩ := hc
      obtain ⟨k1, k2⟩ := cutCells_spec hR h1 hst
      refine ⟨k1, hP.setT' (fun x hx => ?_) (fun ho => ?_), SameH.refl _⟩
      · rw [ht] at hx; simp only [SV.is] at hx ⊢; rw [hx, k2.map]
      · rw [ht] at ho; exact k2.ok ho
    · cases hc
  · rename_i id
    split at hc
    · rename_i g hg
      simp only [Option.map_eq_some_iff, Prod.mk.injEq] at hc
      obtain ⟨⟨e', iv', cs'⟩, h1, rfl, rfl, rfl⟩ := hc
      obtain ⟨k1, k2⟩ := cutCells_spec hR h1 (hs'.2 _ (getH_mem _ _ _ hg))
      exact ⟨k1, hP.setH' hg k2⟩
    · cases hc

/-- A step of the tree that has come to 'fin'. -/
def Comes' (X : Ctx) (Pr : Pres) (d : Dn) (S : St) (a : Act) (w : World) (fin : Bds → St → T) (K : Ex → Bds → St → Env → Prop) : Prop :=
  ∃ R' S' d', d'.Φ = d.Φ ∧ RV d'.Φ R' d'.ρ ∧ Sat X d' S' a w ∧ SameH S.heap S'.heap ∧ (fin R' S').holds d'.Φ Pr d'.ρ K

theorem bindT_sound {fin : Bds → St → T} : ∀ (f : Nat) (R : Bds) (ps : List Pl) (S : St) (d : Dn), RV d.Φ R d.ρ → Sat X d S a w → (bindT fin f R ps S).holds d.Φ Pr d.ρ K →
    Comes' X Pr d S a w fin K
  | 0, R, _, S, d, hR, h, ht => ⟨R, S, d, rfl, hR, h, SameH.refl _, ht⟩
  | f + 1, R, [], S, d, hR, h, ht => ⟨R, S, d, rfl, hR, h, SameH.refl _, ht⟩
  | f + 1, R, p :: ps, S, d, hR, h, ht => by
    simp only [bindT] at ht
    split at ht
    · rename_i e iv S' hc
      cases c1 : (e.sc R.i.length R.l.length && scAll R S) <;> simp only [c1, cond_false, cond_true] at ht
      · exact ⟨R, S, d, rfl, hR, h, SameH.refl _, ht⟩
      · simp only [Bool.and_eq_true, scAll] at c1
        obtain ⟨k1, k2, k3⟩ := cutPl_spec hR h hc c1.2.1
        have hR' : RV d.Φ (R.push [iv]) (d.ρ.pushI [e.den d.Φ d.ρ]) := hR.push ⟨k1, trivial⟩ c1.2.2
        obtain ⟨R', S'', d', e1, e2, e3, e4, e5⟩ := bindT_sound f (R.push [iv]) (p :: ps) S' (d.push [e.den d.Φ d.ρ]) hR' k2 ht
        exact ⟨R', S'', d', e1, e2, e3, k3.trans e4, e5⟩
    · exact bindT_sound f R ps S d hR h ht

end
end Go.Proofs.Ytmlmdicdblgcfaa.Sx

namespace Go.Proofs.Ytmlmdicdblgcfaa.Sx
open Go Go.RowKit

section
variable {C : Cfg} {R : Bds} {X : Ctx} {d : Dn} {w : World} {S : St} {a : Act} {Pr : Pres} {new : Nat} {r : Res} {o : Oper}
  {Q : Exit → Act → World → Prop} {K : Ex → Bds → St → Env → Prop}

/-- n places from 'new' on are free. -/
def Free (hp : List (Option Reg)) (new n : Nat) : Prop := new + n ≤ hp.length ∧ ∀ k, new ≤ k → k < new + n → getH hp k = none

theorem Free.same {hp hp' : List (Option Reg)} {n : Nat} (h : Free hp new n) (hs : SameH hp hp') : Free hp' new n :=
  ⟨by rw [hs.1]; exact h.1, fun k h1 h2 => by
    have := hs.2 k
    rw [h.2 k h1 h2] at this
    cases hq : getH hp' k with
    | none => rfl
    | some q => rw [hq] at this; cases this⟩

theorem opRun_wr {q : Op} {v : Operand → Option SV} {rd : Nat → Option Reg} (h : opRun C R q v rd new = some r) :
    (isNew q = false ∧ (r.wr = [] ∨ ∃ id g, (∃ g', rd id = some g') ∧ r.wr = [(id, g)])) ∨ (isNew q = true ∧ ∃ g, r.wr = [(new, g)]) := by
  cases q
  case alloc t =>
    simp only [opRun] at h
    split at h
    · rename_i z hz
      cases c : noTup z <;> simp only [c, cond_false, cond_true] at h
      · cases h
      · cases h; exact .inr ⟨rfl, _, rfl⟩
    · cases h
  case box t x =>
    simp only [opRun] at h
    split at h
    · rename_i z hz
      cases c : noTup z <;> simp only [c, cond_false, cond_true] at h
      · cases h
      · cases h; exact .inr ⟨rfl, _, rfl⟩
    · cases h
  case store t x y =>
    refine .inl ⟨rfl, .inr ?_⟩
    simp only [opRun] at h
    split at h
    · rename_i id off sz hy hz
      split at h
      · rename_i g hg
        cases c : (noTup sz && g.own && decide (sizeT C.P t = some sz.cells.length) && Nat.ble (off + sz.cells.length) g.cs.length) <;> simp only [c, cond_false, cond_true] at h
        · cases h
        · cases h; exact ⟨id, _, ⟨g, hg⟩, rfl⟩
      · cases h
    · rename_i id off n ix k x hy hz
      split at h
      · rename_i g hg
        cases c : (g.own && decide (sizeT C.P t = some 1) && Nat.ble (off + n) g.cs.length && (intEs k ((g.cs.drop off).take n)).isSome) <;> simp only [c, cond_false, cond_true] at h
        · cases h
        · cases h; exact ⟨id, _, ⟨g, hg⟩, rfl⟩
      · cases h
    · cases h
  case call c =>
    refine .inl ⟨rfl, ?_⟩
    cases hc : c.callee with
    | value f =>
      refine .inl ?_
      simp only [opRun, hc] at h
      split at h
      · simp only [Option.map_eq_some_iff] at h; obtain ⟨_, _, rfl⟩ := h; rfl
      · cases h
    | invoke _ _ => simp only [opRun, hc] at h; cases h
    | builtin b =>
      cases b
      case len =>
        refine .inl ?_
        simp only [opRun, hc] at h
        split at h
        · cases h; rfl
        · cases h; rfl
        · cases h
      case copy =>
        refine .inr ?_
        simp only [opRun, hc] at h
        split at h
        · rename_i id off len cap id' off' len' cap' el hs hu
          split at h
          · rename_i g g' m hg hg' hm
            generalize (g.own && _) = c1 at h
            cases c1 <;> simp only [cond_false, cond_true] at h
            · cases h
            · cases h; exact ⟨id, _, ⟨g, hg⟩, rfl⟩
          · cases h
        · cases h
      all_goals (simp only [opRun, hc] at h; cases h)
  all_goals refine .inl ⟨rfl, .inl ?_⟩
  case slice t x lo hi mx =>
    cases lo with
    | some _ => simp only [opRun] at h; cases h
    | none => cases mx with
      | some _ => simp only [opRun] at h; cases h
      | none =>
        simp only [opRun] at h
        split at h
        · generalize (_ && _) = c at h
          cases c <;> simp only [cond_false, cond_true] at h
          · cases h
          · cases h; rfl
        · generalize (_ && _) = c at h
          cases c <;> simp only [cond_false, cond_true] at h
          · cases h
          · cases h; rfl
        · cases h
  case sliceToArrayPointer t x =>
    simp only [opRun] at h
    split at h
    · generalize Nat.ble _ _ = c at h
      cases c <;> simp only [cond_false, cond_true] at h
      · cases h
      · cases h; rfl
    · cases h
  case move x => simp only [opRun, Option.map_eq_some_iff] at h; obtain ⟨_, _, rfl⟩ := h; rfl
  case assign x => simp only [opRun, Option.map_eq_some_iff] at h; obtain ⟨_, _, rfl⟩ := h; rfl
  case build t ps =>
    simp only [opRun] at h
    split at h
    · split at h
      · rename_i fs _
        generalize (fs.toList.all _ && _) = c at h
        cases c <;> simp only [cond_false, cond_true] at h
        · cases h
        · simp only [Option.map_eq_some_iff] at h; obtain ⟨_, _, rfl⟩ := h; rfl
      · split at h
        · generalize (List.all _ _) = c at h
          cases c <;> simp only [cond_false, cond_true] at h
          · cases h
          · simp only [Option.map_eq_some_iff] at h; obtain ⟨_, _, rfl⟩ := h; rfl
        · cases h
      · cases h
    · cases h
  case load t x =>
    simp only [opRun] at h
    split at h
    · split at h
      · simp only [Option.map_eq_some_iff] at h; obtain ⟨_, _, rfl⟩ := h; rfl
      · cases h
    · split at h
      · generalize (!aggT C.P t && _ && _) = c at h
        cases c <;> simp only [cond_false, cond_true] at h
        · cases h
        · simp only [Option.map_eq_some_iff] at h; obtain ⟨_, _, rfl⟩ := h; rfl
      · cases h
    · cases h
  case nilCheck x =>
    simp only [opRun] at h
    split at h
    · cases h; rfl
    · cases h
  case binOp op t x y u =>
    simp only [opRun] at h
    have bi : ∀ {op k a b}, binInt R op k a b = some r → r.wr = [] := fun {op k a b} h => by
      cases op <;> simp only [binInt, Option.some.injEq, reduceCtorEq] at h <;> subst h <;> rfl
    have si : ∀ {op k a b}, shiftInt R op k a b = some r → r.wr = [] := fun {op k a b} h => by
      cases op <;> simp only [shiftInt, Option.some.injEq, reduceCtorEq] at h <;> subst h <;> rfl
    split at h
    · split at h
      · exact si h
      · exact si h
      · rename_i k a k' b hx hy _ _ _
        cases c : decide (k = k') <;> simp only [c, cond_false, cond_true] at h
        · cases h
        · exact bi h
    · generalize (shapeOk C.P t _ && _) = c at h
      cases c <;> simp only [cond_false, cond_true] at h
      · cases h
      · split at h
        · simp only [Option.map_eq_some_iff] at h; obtain ⟨_, _, rfl⟩ := h; rfl
        · simp only [Option.map_eq_some_iff] at h; obtain ⟨_, _, rfl⟩ := h; rfl
        · cases h
    · cases h
  case unOp u t x =>
    simp only [opRun] at h
    split at h
    · cases h; rfl
    · cases h; rfl
    · cases h
  case convert s t x =>
    simp only [opRun] at h
    split at h
    · cases h; rfl
    · cases h
  case fieldAddr s x f =>
    simp only [opRun] at h
    split at h
    · split at h
      · cases h; rfl
      · cases h
    · cases h
  case field s x f =>
    simp only [opRun] at h
    split at h
    · simp only [Option.map_eq_some_iff] at h; obtain ⟨_, _, rfl⟩ := h; rfl
    · cases h
  case indexAddr t x i =>
    simp only [opRun] at h
    split at h
    · split at h
      · split at h
        · generalize Nat.blt _ _ = c at h
          cases c <;> simp only [cond_false, cond_true] at h
          · cases h
          · cases h; rfl
        · generalize Nat.blt _ _ = c at h
          cases c <;> simp only [cond_false, cond_true] at h
          · cases h
          · cases h; rfl
      · cases h
    · cases h
  case index t x i =>
    simp only [opRun] at h
    split at h
    · split at h
      · split at h
        · generalize Nat.blt _ _ = c at h
          cases c <;> simp only [cond_false, cond_true] at h
          · cases h
          · simp only [Option.map_eq_some_iff] at h; obtain ⟨_, _, rfl⟩ := h; rfl
        · generalize (Nat.beq _ 1 && _ && _ && _ && _) = c at h
          cases c <;> simp only [cond_false, cond_true] at h
          · cases h
          · simp only [Option.map_eq_some_iff] at h; obtain ⟨_, _, rfl⟩ := h; rfl
      · cases h
    · split at h
      · generalize Iv.sub _ _ = c at h
        cases c <;> simp only [cond_false, cond_true] at h
        · cases h
        · cases h; rfl
      · cases h
    · cases h
  case extract t i =>
    simp only [opRun] at h
    split at h
    · split at h
      · cases h; rfl
      · cases h; rfl
      · cases h
    · cases h
  all_goals (simp only [opRun] at h; cases h)

theorem opStep_wr {dec : Bool} (h : opStep C R o.op dec S new = some r) :
    (isNew o.op = false ∧ (r.wr = [] ∨ ∃ id g, (getH S.heap id).isSome = true ∧ r.wr = [(id, g)])) ∨ (isNew o.op = true ∧ ∃ g, r.wr = [(new, g)]) := by
  unfold opStep at h
  split at h
  · rename_i c x y hop
    split at h
    · simp only [Option.map_eq_some_iff] at h
      obtain ⟨_, _, rfl⟩ := h
      exact .inl ⟨by rw [hop]; rfl, .inl rfl⟩
    · cases h
  · rcases opRun_wr h with ⟨h1, h2⟩ | h1
    · refine .inl ⟨h1, h2.imp id ?_⟩
      rintro ⟨id, g, ⟨g', hg'⟩, h3⟩
      exact ⟨id, g, by rw [rd_ok _ _ hg']; rfl, h3⟩
    · exact .inr h1

/-- The free places behind an operation. -/
theorem Free.step {rest : List Oper} (hf : Free S.heap new (countNew (o :: rest))) {dec : Bool} (h : opStep C R o.op dec S new = some r) :
    (isNew o.op = true → getH S.heap new = none ∧ new < S.heap.length) ∧ Free (wrAll S.heap r.wr) (bif isNew o.op then new + 1 else new) (countNew rest) := by
  rcases opStep_wr h with ⟨h1, h2⟩ | ⟨h1, g, h2⟩
  · simp only [countNew, h1, cond_false] at hf ⊢
    refine ⟨(fun h => by cases h), ?_⟩
    rcases h2 with h2 | ⟨id, g, h3, h2⟩
    · rw [h2]; exact hf
    · rw [h2]
      obtain ⟨q, hq⟩ := Option.isSome_iff_exists.1 h3
      refine hf.same ⟨setH_length _ _ _, fun k => ?_⟩
      by_cases hk : id = k
      · subst hk; simp only [wrAll]; rw [getH_setH_same _ _ _ (getH_lt hq), hq]; rfl
      · simp only [wrAll]; rw [getH_setH_ne _ _ _ _ hk]
  · simp only [countNew, h1, cond_true] at hf ⊢
    have hl : new < S.heap.length := by have := hf.1; omega
    refine ⟨fun _ => ⟨hf.2 new (Nat.le_refl _) (by omega), hl⟩, ?_⟩
    rw [h2]
    simp only [wrAll]
    exact ⟨by rw [setH_length]; have := hf.1; omega, fun k k1 k2 => by
      rw [getH_setH_ne _ _ _ _ (by omega)]
      exact hf.2 k (by omega) (by omega)⟩

theorem skip_sat (h : Sat X d S a w) (dst : Option Nat) : Sat X d (S.put dst .undef) (a.put dst undef) w where
  df := by cases dst <;> exact h.df
  tm := by
    have := h.tm.put (undef_is d) (undef_ok d S.heap) dst
    cases dst <;> exact this
  hp := by cases dst <;> exact h.hp

theorem put_heap (S : St) (dst : Option Nat) (v : SV) : (S.put dst v).heap = S.heap := by cases dst <;> rfl

/-- WHAT FOLLOWS A REGION: at every state that a leaf stands for. -/
def Then (X : Ctx) (Pr : Pres) (Φ : Fns) (fin : Bds → St → T) (K : Ex → Bds → St → Env → Prop) (Q : Exit → Act → World → Prop) : Prop :=
  ∀ R S d a w, d.Φ = Φ → RV d.Φ R d.ρ → Sat X d S a w → (fin R S).holds d.Φ Pr d.ρ K → Q .normal a w

theorem seqT_sound {ops : Array Oper} {fin : Bds → St → T} {Φ : Fns} (hC : CTs C Φ Pr) (hΦ : ∀ g s, sigOf C.sigs g = some s → ∀ xs ls, allHas ((resKds s).map Kd.iv) (norm (resKds s).length (Φ g xs ls).1))
    (hT : Then X Pr Φ fin K Q) :
    ∀ (l : List Oper) (new : Nat) (R : Bds) (S : St) (d : Dn) (a : Act) (w : World), d.Φ = Φ → RV d.Φ R d.ρ → Sat X d S a w → Free S.heap new (countNew l) →
      (seqT C ops fin l new R S).holds d.Φ Pr d.ρ K → wpList C.P ops Q l a w
  | [], new, R, S, d, a, w, hd, hR, h, _, ht => hT R S d a w hd hR h ht
  | o :: rest, new, R, S, d, a, w, hd, hR, h, hf, ht => by
    have ih := seqT_sound (ops := ops) hC hΦ hT rest
    simp only [seqT] at ht
    -- carried out
    have go : ∀ (dec : Bool) (R : Bds), RV d.Φ R d.ρ → (∀ b, pickOf S o.op = some b → b.den d.Φ d.ρ = dec) →
        T.holds d.Φ Pr (match opStep C R o.op dec S new with
          | some r => needT r.os (bindT (fun R S => seqT C ops fin rest (bif isNew o.op then new + 1 else new) R S) 100 R (bindOf S o) (r.put o.dst S))
          | none => .fail 1) d.ρ K → o.wp C.P a w (wpList C.P ops Q rest) Q := by
      intro dec R hR hdec ht
      cases hs : opStep C R o.op dec S new with
      | none => rw [hs] at ht; exact ht.elim
      | some r =>
        rw [hs] at ht
        obtain ⟨ho, ht⟩ := need_holds ht
        obtain ⟨f1, f2⟩ := hf.step hs
        refine opStep_wp (by rw [hd]; exact hC) hR h hs hdec f1 ho fun d' a' w' ag hs' => ?_
        have hb := bindT_sound (X := X) (a := a') (w := w') 100 R (bindOf S o) (r.put o.dst S) d' (by rw [ag.Φ, ag.ρ]; exact hR) hs' (by rw [ag.Φ, ag.ρ]; exact ht)
        obtain ⟨R', S', d'', e1, e2, e3, e4, e5⟩ := hb
        exact ih _ R' S' d'' a' w' (by rw [e1, ag.Φ, hd]) e2 e3 (f2.same e4) e5
    have run : ∀ (R : Bds), RV d.Φ R d.ρ → T.holds d.Φ Pr (match callOp C R (valOf S) (fun id => bif memN id (idsOf S o.op) then getH S.heap id else none) o.op with
        | some (g, s, as) =>
          bif as.sc R.i.length R.l.length && scAll R S then
            match resSV (varComps R.i.length s.res) with
            | some v => needT (bif s.total then [] else [.pre g as]) (.call g as (resKds s).length (seqT C ops fin rest (bif isNew o.op then new + 1 else new) (R.push ((resKds s).map Kd.iv)) (S.put o.dst v)))
            | none => .fail 2
          else .fail 3
        | none => match pickOf S o.op with
          | some b => askT R b (fun R => match opStep C R o.op true S new with
              | some r => needT r.os (bindT (fun R S => seqT C ops fin rest (bif isNew o.op then new + 1 else new) R S) 100 R (bindOf S o) (r.put o.dst S))
              | none => .fail 1) (fun R => match opStep C R o.op false S new with
              | some r => needT r.os (bindT (fun R S => seqT C ops fin rest (bif isNew o.op then new + 1 else new) R S) 100 R (bindOf S o) (r.put o.dst S))
              | none => .fail 1)
          | none => match opStep C R o.op true S new with
              | some r => needT r.os (bindT (fun R S => seqT C ops fin rest (bif isNew o.op then new + 1 else new) R S) 100 R (bindOf S o) (r.put o.dst S))
              | none => .fail 1) d.ρ K → o.wp C.P a w (wpList C.P ops Q rest) Q := by
      intro R hR ht
      split at ht
      · rename_i g s as hc
        cases c1 : (as.sc R.i.length R.l.length && scAll R S) <;> simp only [c1, cond_false, cond_true] at ht
        · exact ht.elim
        · simp only [Bool.and_eq_true, scAll] at c1
          split at ht
          · rename_i v hv
            obtain ⟨ho, ht⟩ := need_holds ht
            have hn : R.i.length ≤ d.ρ.i.length := by rw [hR.li]; exact Nat.le_refl _
            obtain ⟨_, _, _, hq, _, _, _, hs, _, _⟩ := callOp_some hc
            refine call_wp (by rw [hd]; exact hC) hR h.hp rfl h.reads rd_ok hc ?_ fun w' hw' => ?_
            · cases hst : s.total
              · exact .inr (ho (.pre g as) (by simp [hst]))
              · exact .inl rfl
            · simp only [T.holds] at ht
              let ys := norm (resKds s).length (d.Φ g (as.denE d.Φ d.ρ) (as.denL d.Φ d.ρ)).1
              have hR' : RV d.Φ (R.push ((resKds s).map Kd.iv)) (d.ρ.pushI ys) := hR.push (by subst hd; exact hΦ g s hs _ _) c1.2.2
              have h0 : Sat X d S a w' := ⟨h.df, h.tm, hw'⟩
              have h1 := h0.push hn c1.2.1 ys
              have hiv : v.is (d.push ys) (resV s (d.Φ g (as.denE d.Φ d.ρ) (as.denL d.Φ d.ρ)).1) := by
                have e1 := resSV_is (d := d.push ys) hv
                have hlen : (resKds s).length = ys.length := (norm_length _ _).symm
                have e2 : (varComps R.i.length s.res).map (compV (d.push ys)) = resVals (d.Φ g (as.denE d.Φ d.ρ) (as.denL d.Φ d.ρ)).1 0 s.res := by
                  have hlt : ∀ j, j < (resKds s).length → (d.push ys).ρ.i.getD (R.i.length + j) 0 = (d.Φ g (as.denE d.Φ d.ρ) (as.denL d.Φ d.ρ)).1.getD j 0 := fun j hj => by
                    rw [← norm_getD (resKds s).length _ j hj]
                    have := getD_append_right (xs := d.ρ.i) (ys := ys) (n := j)
                    rw [hR.li] at this
                    exact this
                  have gen := varComps_den (d := d.push ys) hlt s.res 0 (by simp [resKds])
                  simpa using gen
                rw [e2] at e1
                exact e1
              refine ih _ _ (S.put o.dst v) (d.push ys) (a.put o.dst _) w' (by exact hd) hR' ?_ ?_ ht
              · have := h1.tm.put hiv (resSV_ok hv (varComps_plain s.res _)) o.dst
                refine ⟨by cases o.dst <;> exact h.df, ?_, ?_⟩
                · rw [put_heap]; exact this
                · rw [put_heap]; exact h1.hp
              · rw [put_heap]
                have : isNew o.op = false := by rw [hq]; rfl
                simp only [countNew, this, cond_false] at hf ⊢
                exact hf
          · exact ht.elim
      · split at ht
        · rename_i b hb
          rcases askT_holds hR ht with ⟨hb', R', hR', _, ht⟩ | ⟨hb', R', hR', _, ht⟩
          · exact go true R' hR' (fun b' h' => by rw [hb] at h'; cases h'; exact hb') ht
          · exact go false R' hR' (fun b' h' => by rw [hb] at h'; cases h'; exact hb') ht
        · rename_i hb
          exact go true R hR (fun b' h' => by rw [hb] at h'; cases h') ht
    have skip : ∀ (R : Bds), RV d.Φ R d.ρ → (seqT C ops fin rest (bif isNew o.op then new + 1 else new) R (S.put o.dst .undef)).holds d.Φ Pr d.ρ K → wpList C.P ops Q rest (a.put o.dst undef) w := by
      intro R hR ht
      refine ih _ R _ d _ w hd hR (skip_sat h o.dst) ?_ ht
      rw [put_heap]
      cases hn : isNew o.op <;> simp only [countNew, hn, cond_false, cond_true] at hf ⊢
      · exact hf
      · exact ⟨by have := hf.1; omega, fun k k1 k2 => hf.2 k (by omega) (by omega)⟩
    have hg := guardOf_spec (ops := ops) (o := o) h
    unfold wpList
    cases hgd : guardOf ops S o with
    | run =>
      rw [hgd] at ht hg
      simp only at hg
      rw [if_pos hg]
      exact .inl (run R hR ht)
    | skip =>
      rw [hgd] at ht hg
      simp only at hg
      rw [if_neg (by rw [hg]; simp)]
      exact skip R hR ht
    | ask b =>
      rw [hgd] at ht hg
      simp only at hg ht
      rcases askT_holds hR ht with ⟨hb', R', hR', _, ht⟩ | ⟨hb', R', hR', _, ht⟩
      · rw [if_pos (by rw [hg]; exact hb')]
        exact .inl (run R' hR' ht)
      · rw [if_neg (by rw [hg, hb']; simp)]
        exact skip R' hR' ht
    | bad => rw [hgd] at ht; exact ht.elim
end
end Go.Proofs.Ytmlmdicdblgcfaa.Sx

namespace Go.Proofs.Ytmlmdicdblgcfaa.Sx
open Go Go.RowKit

/-- An operation of a region: its place, and the number that a block of its own gets. -/
structure Item where
  ix : Nat
  o : Oper
  nw : Nat

def items : List Oper → Nat → Nat → List Item
  | [], _, _ => []
  | o :: r, i, n => ⟨i, o, n⟩ :: items r (i + 1) (bif isNew o.op then n + 1 else n)

def decOf (Φ : Fns) (ρ : Env) (S : St) (o : Op) : Bool := match pickOf S o with
  | some b => b.den Φ ρ
  | none => true

def runOne (Φ : Fns) (ρ : Env) (C : Cfg) (R : Bds) (ops : Array Oper) (it : Item) (S : St) : Option (Res × Fp) :=
  match opStep C R it.o.op (decOf Φ ρ S it.o.op) S it.nw with
  | some r => some (r, mkFp ops it.ix it.o S r)
  | none => none

def skipOne (ops : Array Oper) (it : Item) : Res × Fp := (⟨.undef, [], []⟩, skipFp ops it.ix it.o)

/-- What an operation does in an environment. -/
def effD (Φ : Fns) (ρ : Env) (C : Cfg) (R : Bds) (ops : Array Oper) (it : Item) (S : St) : Option (Res × Fp) :=
  match guardOf ops S it.o with
  | .run => runOne Φ ρ C R ops it S
  | .skip => some (skipOne ops it)
  | .ask b => if b.den Φ ρ = true then runOne Φ ρ C R ops it S else some (skipOne ops it)
  | .bad => none

section
variable {C : Cfg} {R : Bds} {X : Ctx} {d : Dn} {w : World} {S : St} {a : Act} {Pr : Pres} {Φ : Fns} {ρ : Env} {ops : Array Oper}
  {Q : Exit → Act → World → Prop} {K : Ex → Bds → St → Env → Prop}

/-! ### An operation hangs on what it reads -/
theorem valOf_congr {S S' : St} {q : Op} (h : ∀ t ∈ operandTmps q, getT S'.tmps t = getT S.tmps t) : ∀ x ∈ q.operands, valOf S' x = valOf S x := fun x hx => by
  cases x with
  | tmp t =>
    have : t ∈ operandTmps q := List.mem_filterMap.2 ⟨.tmp t, by simpa using hx, rfl⟩
    simp only [valOf, h t this]
  | _ => rfl

theorem svs_congr {v v' : Operand → Option SV} : ∀ (l : List Operand), (∀ x ∈ l, v' x = v x) → svs v' l = svs v l
  | [], _ => rfl
  | x :: r, h => by
    simp only [svs, h x List.mem_cons_self, svs_congr r fun y hy => h y (List.mem_cons_of_mem _ hy)]
theorem svParts_congr {v v' : Operand → Option SV} : ∀ (l : List (Nat × Operand)), (∀ x ∈ l.map (·.2), v' x = v x) → svParts v' l = svParts v l
  | [], _ => rfl
  | (i, x) :: r, h => by
    simp only [svParts, h x (by simp), svParts_congr r fun y hy => h y (by simp only [List.map_cons, List.mem_cons]; exact .inr hy)]

theorem callOp_congr {v v' : Operand → Option SV} {rd : Nat → Option Reg} (q : Op) (h : ∀ x ∈ q.operands, v' x = v x) : callOp C R v' rd q = callOp C R v rd q := by
  unfold callOp
  cases q with
  | call c =>
    simp only
    cases hc : c.callee with
    | value f =>
      simp only
      rw [h f (by simp [Op.operands, Call.operands, hc]), svs_congr c.args.toList fun x hx => h x (by simp [Op.operands, Call.operands, Array.mem_toList_iff.1 hx])]
    | _ => rfl
  | _ => rfl

theorem opIds_congr {v v' : Operand → Option SV} (q : Op) (h : ∀ x ∈ q.operands, v' x = v x) : opIds v' q = opIds v q := by
  unfold opIds
  cases q with
  | load t x => simp only; rw [h x (by simp [Op.operands])]
  | store t x y => simp only; rw [h x (by simp [Op.operands])]
  | call c =>
    simp only
    have : ∀ x ∈ c.args.toList, ptrId (v' x) = ptrId (v x) := fun x hx => by rw [h x (by simp [Op.operands, Call.operands, Array.mem_toList_iff.1 hx])]
    generalize c.args.toList = l at this
    induction l with
    | nil => rfl
    | cons x r ih =>
      simp only [List.flatMap_cons]
      rw [this x List.mem_cons_self, ih fun y hy => this y (List.mem_cons_of_mem _ hy)]
  | _ => rfl

theorem opRun_congr {v v' : Operand → Option SV} {rd : Nat → Option Reg} {new : Nat} (q : Op) (h : ∀ x ∈ q.operands, v' x = v x) : opRun C R q v' rd new = opRun C R q v rd new := by
  cases q with
  | call c =>
    have hc := callOp_congr (C := C) (R := R) (rd := rd) (.call c) h
    simp only [opRun, hc]
    rw [svs_congr c.args.toList fun x hx => h x (by simp [Op.operands, Call.operands, Array.mem_toList_iff.1 hx])]
  | build t ps =>
    simp only [opRun]
    rw [svParts_congr ps.toList fun x hx => h x (by simpa [Op.operands] using hx)]
  | move x => simp only [opRun, h x (by simp [Op.operands])]
  | assign x => simp only [opRun, h x (by simp [Op.operands])]
  | box t x => simp only [opRun, h x (by simp [Op.operands])]
  | load t x => simp only [opRun, h x (by simp [Op.operands])]
  | nilCheck x => simp only [opRun, h x (by simp [Op.operands])]
  | unOp u t x => simp only [opRun, h x (by simp [Op.operands])]
  | convert s t x => simp only [opRun, h x (by simp [Op.operands])]
  | fieldAddr s x f => simp only [opRun, h x (by simp [Op.operands])]
  | field s x f => simp only [opRun, h x (by simp [Op.operands])]
  | extract x i => simp only [opRun, h x (by simp [Op.operands])]
  | store t x y => simp only [opRun, h x (by simp [Op.operands]), h y (by simp [Op.operands])]
  | binOp op t x y u => simp only [opRun, h x (by simp [Op.operands]), h y (by simp [Op.operands])]
  | indexAddr t x y => simp only [opRun, h x (by simp [Op.operands]), h y (by simp [Op.operands])]
  | index t x y => simp only [opRun, h x (by simp [Op.operands]), h y (by simp [Op.operands])]
  | sliceToArrayPointer t x => simp only [opRun, h x (by simp [Op.operands])]
  | slice t x lo hi mx =>
    cases lo with
    | some _ => rfl
    | none => cases mx with
      | some _ => rfl
      | none => cases hi with
        | none => simp only [opRun, h x (by simp [Op.operands]), Option.map_none]
        | some y => simp only [opRun, h x (by simp [Op.operands]), Option.map_some, h y (by simp [Op.operands])]
  | alloc t => rfl
  | _ => rfl

/-- The states are alike where the operation looks. -/
structure Alike (S S' : St) (f : Fp) : Prop where
  t : ∀ t ∈ f.rt, getT S'.tmps t = getT S.tmps t
  h : ∀ id ∈ f.rh, getH S'.heap id = getH S.heap id

theorem operandTmps_sub {o : Oper} : ∀ t ∈ operandTmps o.op, t ∈ readsT ops o := fun t ht => by
  unfold readsT
  split
  · split
    · exact List.mem_cons_of_mem _ ht
    · exact ht
  · exact ht

theorem guardOf_congr {S S' : St} {o : Oper} (h : ∀ t ∈ readsT ops o, getT S'.tmps t = getT S.tmps t) : guardOf ops S' o = guardOf ops S o := by
  unfold guardOf
  cases hg : o.guard with
  | none => rfl
  | some gw =>
    obtain ⟨g, want⟩ := gw
    simp only
    cases ht : (ops[g]?).bind (·.dst) with
    | none => rfl
    | some t =>
      simp only
      rw [h t (by unfold readsT; rw [hg]; simp only [ht]; exact List.mem_cons_self)]

theorem pickOf_congr {S S' : St} {q : Op} (h : ∀ x ∈ q.operands, valOf S' x = valOf S x) : pickOf S' q = pickOf S q := by
  unfold pickOf
  cases q with
  | pick c x y => simp only; rw [h c (by simp [Op.operands])]
  | _ => rfl

theorem opStep_congr {S S' : St} {o : Oper} {dec : Bool} {new : Nat} (h : ∀ x ∈ o.op.operands, valOf S' x = valOf S x) (hh : ∀ id ∈ idsOf S o.op, getH S'.heap id = getH S.heap id) :
    opStep C R o.op dec S' new = opStep C R o.op dec S new := by
  unfold opStep
  split
  · rename_i c x y hop
    rw [h c (by rw [hop]; simp [Op.operands])]
    have : valOf S' (bif dec then x else y) = valOf S (bif dec then x else y) := by
      cases dec
      · exact h y (by rw [hop]; simp [Op.operands])
      · exact h x (by rw [hop]; simp [Op.operands])
    rw [this]
  · have hi : idsOf S' o.op = idsOf S o.op := opIds_congr o.op h
    rw [opRun_congr o.op h, hi]
    congr 1
    funext id
    cases c : memN id (idsOf S o.op)
    · rfl
    · simp only [cond_true]; exact hh id (memN_iff.1 c)

theorem runOne_congr {it : Item} {S S' : St} {r : Res} {f : Fp} (h : runOne Φ ρ C R ops it S = some (r, f)) (ha : Alike S S' f) : runOne Φ ρ C R ops it S' = some (r, f) := by
  unfold runOne at h ⊢
  cases hs : opStep C R it.o.op (decOf Φ ρ S it.o.op) S it.nw with
  | none => rw [hs] at h; cases h
  | some r' =>
    rw [hs] at h
    simp only [Option.some.injEq, Prod.mk.injEq] at h
    obtain ⟨rfl, rfl⟩ := h
    have hv := valOf_congr (q := it.o.op) fun t ht => ha.t t (operandTmps_sub (ops := ops) t ht)
    have hd : decOf Φ ρ S' it.o.op = decOf Φ ρ S it.o.op := by unfold decOf; rw [pickOf_congr hv]
    rw [hd, opStep_congr hv ha.h, hs]
    simp only [mkFp, idsOf, opIds_congr it.o.op hv]

theorem fp_of_run {it : Item} {S : St} {r : Res} {f : Fp} (h : runOne Φ ρ C R ops it S = some (r, f)) : f = mkFp ops it.ix it.o S r ∧ opStep C R it.o.op (decOf Φ ρ S it.o.op) S it.nw = some r := by
  unfold runOne at h
  split at h
  · simp only [Option.some.injEq, Prod.mk.injEq] at h
    obtain ⟨rfl, rfl⟩ := h
    exact ⟨rfl, by assumption⟩
  · cases h

/-- The form of an operation's trace. -/
theorem effD_fp {it : Item} {S : St} {r : Res} {f : Fp} (h : effD Φ ρ C R ops it S = some (r, f)) :
    f.ix = it.ix ∧ f.rt = readsT ops it.o ∧ f.wt = it.o.dst ∧ f.wh = r.wr.map (·.1) ∧ (r.wr = [] ∨ ∃ id g, r.wr = [(id, g)] ∧ ((getH S.heap id).isSome = true ∨ (isNew it.o.op = true ∧ id = it.nw))) := by
  have run : runOne Φ ρ C R ops it S = some (r, f) → f.ix = it.ix ∧ f.rt = readsT ops it.o ∧ f.wt = it.o.dst ∧ f.wh = r.wr.map (·.1) ∧ (r.wr = [] ∨ ∃ id g, r.wr = [(id, g)] ∧ ((getH S.heap id).isSome = true ∨ (isNew it.o.op = true ∧ id = it.nw))) := fun h => by
    obtain ⟨rfl, h2⟩ := fp_of_run h
    refine ⟨rfl, rfl, rfl, rfl, ?_⟩
    rcases opStep_wr h2 with ⟨_, h3 | ⟨id, g, h4, h3⟩⟩ | ⟨h4, g, h3⟩
    · exact .inl h3
    · exact .inr ⟨id, g, h3, .inl h4⟩
    · exact .inr ⟨it.nw, g, h3, .inr ⟨h4, rfl⟩⟩
  have skip : some (skipOne ops it) = some (r, f) → f.ix = it.ix ∧ f.rt = readsT ops it.o ∧ f.wt = it.o.dst ∧ f.wh = r.wr.map (·.1) ∧ (r.wr = [] ∨ ∃ id g, r.wr = [(id, g)] ∧ ((getH S.heap id).isSome = true ∨ (isNew it.o.op = true ∧ id = it.nw))) := fun h => by
    simp only [skipOne, Option.some.injEq, Prod.mk.injEq] at h
    obtain ⟨rfl, rfl⟩ := h
    exact ⟨rfl, rfl, rfl, rfl, .inl rfl⟩
  unfold effD at h
  split at h
  · exact run h
  · exact skip h
  · split at h
    · exact run h
    · exact skip h
  · cases h

theorem effD_congr {it : Item} {S S' : St} {r : Res} {f : Fp} (h : effD Φ ρ C R ops it S = some (r, f)) (ha : Alike S S' f) : effD Φ ρ C R ops it S' = some (r, f) := by
  have hrt := (effD_fp h).2.1
  have hg : guardOf ops S' it.o = guardOf ops S it.o := guardOf_congr fun t ht => ha.t t (by rw [hrt]; exact ht)
  unfold effD at h ⊢
  rw [hg]
  split at h
  · exact runOne_congr h ha
  · exact h
  · split at h
    · rename_i hb; rw [if_pos hb]; exact runOne_congr h ha
    · rename_i hb; rw [if_neg hb]; exact h
  · cases h

/-! ### Two operations that are apart -/
theorem disj_spec : ∀ {l m : List Nat}, disj l m = true → ∀ x, x ∈ l → x ∉ m
  | [], _, _, x, hx, _ => by cases hx
  | y :: r, m, h, x, hx, hm => by
    simp only [disj, Bool.and_eq_true, Bool.not_eq_true'] at h
    cases hx with
    | head => rw [memN_iff.2 hm] at h; exact absurd h.1 (by simp)
    | tail _ hx => exact disj_spec h.2 x hx hm

theorem setT_comm : ∀ (l : List SV) (i j : Nat) (x y : SV), i ≠ j → setT (setT l i x) j y = setT (setT l j y) i x
  | [], _, _, _, _, _ => rfl
  | _ :: _, 0, 0, _, _, h => absurd rfl h
  | _ :: _, 0, j + 1, _, _, _ => rfl
  | _ :: _, i + 1, 0, _, _, _ => rfl
  | a :: r, i + 1, j + 1, x, y, h => by simp only [setT, setT_comm r i j x y (by omega)]
theorem setH_comm : ∀ (l : List (Option Reg)) (i j : Nat) (x y : Option Reg), i ≠ j → setH (setH l i x) j y = setH (setH l j y) i x
  | [], _, _, _, _, _ => rfl
  | _ :: _, 0, 0, _, _, h => absurd rfl h
  | _ :: _, 0, j + 1, _, _, _ => rfl
  | _ :: _, i + 1, 0, _, _, _ => rfl
  | a :: r, i + 1, j + 1, x, y, h => by simp only [setH, setH_comm r i j x y (by omega)]

theorem put_tmps_ne {r : Res} {dst : Option Nat} {S : St} {t : Nat} (h : ∀ x, dst = some x → x ≠ t) : getT (r.put dst S).tmps t = getT S.tmps t := by
  cases dst with
  | none => rfl
  | some x => exact getT_setT_ne _ _ _ _ (h x rfl)
theorem put_heap_ne {r : Res} {dst : Option Nat} {S : St} {id : Nat} (hw : r.wr = [] ∨ ∃ i g, r.wr = [(i, g)]) (h : id ∉ r.wr.map (·.1)) : getH (r.put dst S).heap id = getH S.heap id := by
  rcases hw with hw | ⟨i, g, hw⟩
  · simp only [Res.put, hw, wrAll]
  · simp only [Res.put, hw, wrAll]
    exact getH_setH_ne _ _ _ _ fun e => h (by rw [hw]; simp [e])

theorem apart_alike {S : St} {r : Res} {f g : Fp} {dst : Option Nat} (hw : f.wt = dst) (hh : f.wh = r.wr.map (·.1)) (hr : r.wr = [] ∨ ∃ i g, r.wr = [(i, g)])
    (h1 : disj (optL f.wt) g.rt = true) (h2 : disj f.wh g.rh = true) : Alike S (r.put dst S) g where
  t := fun t ht => put_tmps_ne fun x hx e => by
    subst e
    exact disj_spec h1 x (by rw [hw, hx]; exact List.mem_singleton_self x) ht
  h := fun id hid => put_heap_ne hr fun hm => disj_spec h2 id (by rw [hh]; exact hm) hid

theorem Alike.symm {S S' : St} {f : Fp} (h : Alike S S' f) : Alike S' S f := ⟨fun t ht => (h.t t ht).symm, fun i hi => (h.h i hi).symm⟩

theorem commute {x y : Item} {S : St} {rx ry : Res} {fx fy : Fp} (hx : effD Φ ρ C R ops x S = some (rx, fx)) (hy : effD Φ ρ C R ops y (rx.put x.o.dst S) = some (ry, fy)) (ha : fx.apart fy = true) :
    effD Φ ρ C R ops y S = some (ry, fy) ∧ effD Φ ρ C R ops x (ry.put y.o.dst S) = some (rx, fx) ∧ rx.put x.o.dst (ry.put y.o.dst S) = ry.put y.o.dst (rx.put x.o.dst S) := by
  simp only [Fp.apart, Bool.and_eq_true] at ha
  obtain ⟨a1, a2, a3, a4, a5, a6⟩ := ha
  obtain ⟨_, x2, x3, x4, x5⟩ := effD_fp hx
  obtain ⟨_, y2, y3, y4, y5⟩ := effD_fp hy
  have x5' : rx.wr = [] ∨ ∃ i g, rx.wr = [(i, g)] := x5.imp id fun ⟨i, g, h, _⟩ => ⟨i, g, h⟩
  have y5' : ry.wr = [] ∨ ∃ i g, ry.wr = [(i, g)] := y5.imp id fun ⟨i, g, h, _⟩ => ⟨i, g, h⟩
  have e1 : effD Φ ρ C R ops y S = some (ry, fy) := effD_congr hy (apart_alike x3 x4 x5' a1 a4).symm
  have e2 : effD Φ ρ C R ops x (ry.put y.o.dst S) = some (rx, fx) := effD_congr hx (apart_alike y3 y4 y5' a3 a6)
  refine ⟨e1, e2, ?_⟩
  have ht : ((rx.put x.o.dst (ry.put y.o.dst S)).tmps) = ((ry.put y.o.dst (rx.put x.o.dst S)).tmps) := by
    cases hdx : x.o.dst with
    | none => cases hdy : y.o.dst <;> rfl
    | some i => cases hdy : y.o.dst with
      | none => rfl
      | some j =>
        simp only [Res.put, St.put]
        refine setT_comm _ _ _ _ _ fun e => ?_
        subst e
        exact disj_spec a2 j (by rw [x3, hdx]; exact List.mem_singleton_self j) (by rw [y3, hdy]; exact List.mem_singleton_self j)
  have hh : ((rx.put x.o.dst (ry.put y.o.dst S)).heap) = ((ry.put y.o.dst (rx.put x.o.dst S)).heap) := by
    rcases x5' with x5 | ⟨i, g, x5⟩
    · simp only [Res.put, x5, wrAll]
    · rcases y5' with y5 | ⟨j, q, y5⟩
      · simp only [Res.put, y5, wrAll]
      · simp only [Res.put, x5, y5, wrAll]
        refine setH_comm _ _ _ _ _ fun e => ?_
        subst e
        exact disj_spec a5 j (by rw [x4, x5]; simp) (by rw [y4, y5]; simp)
  cases hl : rx.put x.o.dst (ry.put y.o.dst S)
  cases hr : ry.put y.o.dst (rx.put x.o.dst S)
  rw [hl, hr] at ht hh
  simp only at ht hh
  rw [ht, hh]

/-! ### Runs -/
/-- The operations one after the other. -/
def Runs (Φ : Fns) (ρ : Env) (Pr : Pres) (C : Cfg) (R : Bds) (ops : Array Oper) : List Item → St → St → List Fp → Prop
  | [], S, Sf, fs => S = Sf ∧ fs = []
  | it :: l, S, Sf, fs => ∃ r f fs', effD Φ ρ C R ops it S = some (r, f) ∧ OsHold Φ Pr ρ r.os ∧ fs = f :: fs' ∧ Runs Φ ρ Pr C R ops l (r.put it.o.dst S) Sf fs'

theorem Runs.fps : ∀ {l : List Item} {S Sf : St} {fs : List Fp}, Runs Φ ρ Pr C R ops l S Sf fs → fs.map (·.ix) = l.map (·.ix)
  | [], _, _, _, ⟨_, h⟩ => by subst h; rfl
  | it :: l, _, _, _, ⟨r, f, fs', h1, _, h3, h4⟩ => by
    subst h3
    simp only [List.map_cons, (effD_fp h1).1, Runs.fps h4]

/-- An operation that is apart from all ahead of it may be taken first. -/
theorem Runs.front : ∀ {l1 l2 : List Item} {it : Item} {S Sf : St} {fs1 fs2 : List Fp} {f : Fp}, Runs Φ ρ Pr C R ops (l1 ++ it :: l2) S Sf (fs1 ++ f :: fs2) → fs1.length = l1.length →
    (∀ g ∈ fs1, g.apart f = true) → ∃ r, effD Φ ρ C R ops it S = some (r, f) ∧ OsHold Φ Pr ρ r.os ∧ Runs Φ ρ Pr C R ops (l1 ++ l2) (r.put it.o.dst S) Sf (fs1 ++ fs2)
  | [], l2, it, S, Sf, fs1, fs2, f, h, hl, _ => by
    have : fs1 = [] := List.length_eq_zero_iff.1 hl
    subst this
    obtain ⟨r, f', fs', h1, h2, h3, h4⟩ := h
    simp only [List.nil_append, List.cons.injEq] at h3
    obtain ⟨rfl, rfl⟩ := h3
    exact ⟨r, h1, h2, h4⟩
  | x :: l1, l2, it, S, Sf, [], fs2, f, h, hl, _ => by simp at hl
  | x :: l1, l2, it, S, Sf, g :: fs1, fs2, f, h, hl, hap => by
    obtain ⟨rx, fx, fs', h1, h2, h3, h4⟩ := h
    simp only [List.cons_append, List.cons.injEq] at h3
    obtain ⟨rfl, rfl⟩ := h3
    obtain ⟨r, k1, k2, k3⟩ := Runs.front h4 (by simpa using hl) fun q hq => hap q (List.mem_cons_of_mem _ hq)
    obtain ⟨c1, c2, c3⟩ := commute h1 k1 (hap g List.mem_cons_self)
    exact ⟨r, c1, k2, rx, g, fs1 ++ fs2, c2, h2, rfl, by rw [c3]; exact k3⟩

/-! ### Every order -/
theorem effD_wp {it : Item} {r : Res} {f : Fp} {K' : Act → World → Prop} (hC : CTs C d.Φ Pr) (hR : RV d.Φ R d.ρ) (h : Sat X d S a w) (ho : ops[it.ix]? = some it.o)
    (he : effD d.Φ d.ρ C R ops it S = some (r, f)) (hos : OsHold d.Φ Pr d.ρ r.os) (hn : isNew it.o.op = true → getH S.heap it.nw = none ∧ it.nw < S.heap.length)
    (hK : ∀ d' a' w', Agree S.heap d d' → Sat X d' (r.put it.o.dst S) a' w' → K' a' w') : wpOp C.P ops Q it.ix K' a w := by
  have hg := guardOf_spec (ops := ops) (o := it.o) h
  have run : runOne d.Φ d.ρ C R ops it S = some (r, f) → it.o.wp C.P a w K' Q := fun hr => by
    refine opStep_wp hC hR h (fp_of_run hr).2 (fun b hb => ?_) hn hos hK
    simp only [decOf, hb]
  have skip : some (skipOne ops it) = some (r, f) → K' (a.put it.o.dst undef) w := fun hr => by
    simp only [skipOne, Option.some.injEq, Prod.mk.injEq] at hr
    obtain ⟨rfl, rfl⟩ := hr
    have := skip_sat h it.o.dst
    refine hK d _ w (Agree.refl _ _) ?_
    cases hd : it.o.dst <;> rw [hd] at this <;> exact this
  unfold wpOp
  simp only [ho]
  unfold effD at he
  cases hgd : guardOf ops S it.o with
  | run =>
    rw [hgd] at he hg
    simp only at hg he
    rw [if_pos hg]; exact .inl (run he)
  | skip =>
    rw [hgd] at he hg
    simp only at hg he
    rw [if_neg (by rw [hg]; simp)]; exact skip he
  | ask b =>
    rw [hgd] at he hg
    simp only at hg he
    split at he
    · rename_i hb; rw [if_pos (by rw [hg]; exact hb)]; exact .inl (run he)
    · rename_i hb; rw [if_neg (by rw [hg]; exact hb)]; exact skip he
  | bad => rw [hgd] at he; cases he

theorem predsOf_spec {j : Nat} {o : Oper} (h : ops[j]? = some o) {p : Nat} (hp : p ∈ predsOf ops j) : ∃ e ∈ o.after, Region.binds .any e = true ∧ e.on = p := by
  unfold predsOf at hp
  rw [h] at hp
  simp only [List.mem_map, List.mem_filter] at hp
  obtain ⟨e, ⟨h1, h2⟩, h3⟩ := hp
  exact ⟨e, by simpa using h1, h2, h3⟩

theorem chain_listed {listed : Array Bool} (hcl : ∀ j, listed.getD j false = true → ∀ p ∈ predsOf ops j, listed.getD p false = true) (x : Nat) :
    ∀ (n b : Nat), chainB ops x n b = true → (∀ p ∈ predsOf ops b, listed.getD p false = true) → listed.getD x false = true
  | 0, _, h, _ => by cases h
  | n + 1, b, h, hb => by
    simp only [chainB, Bool.or_eq_true, List.any_eq_true, Bool.and_eq_true] at h
    rcases h with h | ⟨p, hp, _, h⟩
    · exact hb x (memN_iff.1 h)
    · exact chain_listed hcl x n p h (hcl p (hb p hp))

theorem any_sound {Sf : St} (hC : CTs C Φ Pr) (hR : RV Φ R ρ) (hE : ∀ j p, p ∈ predsOf ops j → p < j)
    (hQ : ∀ d' a' w', d'.Φ = Φ → d'.ρ = ρ → Sat X d' Sf a' w' → Q .normal a' w') :
    ∀ (n : Nat) (T : List Item) (listed : Array Bool) (S : St) (fs : List Fp) (d : Dn) (a : Act) (w : World), T.length = n → d.Φ = Φ → d.ρ = ρ →
      (∀ it ∈ T, ops[it.ix]? = some it.o) → listed.size = ops.size → (∀ j, listed.getD j true = false ↔ ∃ it ∈ T, it.ix = j) → T.Pairwise (fun x y => x.ix < y.ix) →
      (∀ j, listed.getD j false = true → ∀ p ∈ predsOf ops j, listed.getD p false = true) →
      Runs Φ ρ Pr C R ops T S Sf fs → fs.Pairwise (fun x y => x.apart y = true ∨ chainB ops x.ix 4 y.ix = true) →
      (∀ it ∈ T, isNew it.o.op = true → getH S.heap it.nw = none ∧ it.nw < S.heap.length) → T.Pairwise (fun x y => isNew x.o.op = true → isNew y.o.op = true → x.nw ≠ y.nw) →
      Sat X d S a w → wpAny C.P .any ops Q n listed a w := by
  intro n
  induction n with
  | zero =>
    intro T listed S fs d a w hl hd hd' hv hsz hun hso hcl hr hord hfr hdi h
    have : T = [] := List.length_eq_zero_iff.1 hl
    subst this
    obtain ⟨h1, _⟩ := hr
    subst h1
    refine ⟨?_, hQ d a w hd hd' h⟩
    apply List.eq_nil_iff_forall_not_mem.2
    intro j hj
    have := (hun j).1 (mem_ready.1 hj).1
    obtain ⟨_, hm, _⟩ := this
    cases hm
  | succ n ih =>
    intro T listed S fs d a w hl hd hd' hv hsz hun hso hcl hr hord hfr hdi h
    refine ⟨fun hnil => ?_, fun i hi => ?_⟩
    · -- the first one is ready
      exfalso
      cases T with
      | nil => simp at hl
      | cons it T =>
        have hit := hv it List.mem_cons_self
        have hlt : it.ix < ops.size := (Array.getElem?_eq_some_iff.1 hit).1
        have : it.ix ∈ Region.ready .any ops listed := mem_ready.2 ⟨(hun it.ix).2 ⟨it, List.mem_cons_self, rfl⟩, it.o, hit, fun e he hb => by
          have hp : e.on ∈ predsOf ops it.ix := by
            unfold predsOf; rw [hit]
            simp only [List.mem_map, List.mem_filter]
            exact ⟨e, ⟨by simpa using he, hb⟩, rfl⟩
          have hlt' := hE _ _ hp
          cases hq : listed.getD e.on false with
          | true => rfl
          | false =>
            have hs : e.on < listed.size := by omega
            have : listed.getD e.on true = false := by simp [hs] at hq ⊢; exact hq
            obtain ⟨x, hx, hxe⟩ := (hun e.on).1 this
            cases hx with
            | head => omega
            | tail _ hx =>
              have := List.rel_of_pairwise_cons hso hx
              omega⟩
        rw [hnil] at this; cases this
    · obtain ⟨h1, o, ho, hpre⟩ := mem_ready.1 hi
      obtain ⟨it, hm, hix⟩ := (hun i).1 h1
      obtain ⟨T1, T2, rfl⟩ := List.append_of_mem hm
      have hfl := hr.fps
      have hlen : fs.length = T1.length + (T2.length + 1) := by
        have := congrArg List.length hfl; simpa using this
      obtain ⟨fs1, f, fs2, rfl, hl1⟩ : ∃ fs1 f fs2, fs = fs1 ++ f :: fs2 ∧ fs1.length = T1.length := by
        have hlt : T1.length < fs.length := by omega
        refine ⟨fs.take T1.length, fs[T1.length], fs.drop (T1.length + 1), ?_, by simp; omega⟩
        rw [List.getElem_cons_drop]; simp
      have hf : f.ix = it.ix ∧ fs1.map (·.ix) = T1.map (·.ix) := by
        simp only [List.map_append, List.map_cons] at hfl
        have := List.append_inj hfl (by simp [hl1])
        simp only [List.cons.injEq] at this
        exact ⟨this.2.1, this.1⟩
      rw [List.pairwise_append] at hord
      have hap : ∀ g ∈ fs1, g.apart f = true := fun g hg => by
        rcases hord.2.2 g hg f List.mem_cons_self with h' | h'
        · exact h'
        · exfalso
          have hgi : g.ix ∈ T1.map (·.ix) := by rw [← hf.2]; exact List.mem_map.2 ⟨g, hg, rfl⟩
          obtain ⟨x, hx, hxe⟩ := List.mem_map.1 hgi
          have hl' := chain_listed (ops := ops) hcl g.ix 4 f.ix h' (fun p hp => by
            rw [hf.1, hix] at hp
            obtain ⟨e, he, hb, hep⟩ := predsOf_spec ho hp
            rw [← hep]; exact hpre e he hb)
          have hun' := (hun g.ix).2 ⟨x, List.mem_append_left _ hx, hxe⟩
          have hs : g.ix < listed.size := by
            rcases Nat.lt_or_ge g.ix listed.size with h'' | h''
            · exact h''
            · simp [Array.getElem?_eq_none h''] at hl'
          simp [hs] at hun' hl'
          rw [hun'] at hl'; cases hl'
      obtain ⟨r, e1, e2, e3⟩ := hr.front hl1 hap
      have hit := hv it (by simp)
      subst hd hd'
      rw [← hix]
      refine effD_wp hC hR h hit e1 e2 (hfr it (by simp)) fun d' a' w' ag hs' => ?_
      have hmem : ∀ x, x ∈ T1 ++ T2 → x ∈ T1 ++ it :: T2 := fun x hx => by
        simp only [List.mem_append, List.mem_cons] at hx ⊢
        rcases hx with hx | hx
        · exact .inl hx
        · exact .inr (.inr hx)
      have hsub : (T1 ++ T2).Sublist (T1 ++ it :: T2) := List.Sublist.append_left (List.sublist_cons_self it T2) T1
      have hne : ∀ x ∈ T1 ++ T2, x.ix ≠ it.ix := fun x hx => by
        rw [List.pairwise_append] at hso
        simp only [List.mem_append] at hx
        rcases hx with hx | hx
        · have := hso.2.2 x hx it List.mem_cons_self; omega
        · have := List.rel_of_pairwise_cons hso.2.1 hx; omega
      refine ih (T1 ++ T2) (listed.setIfInBounds it.ix true) (r.put it.o.dst S) (fs1 ++ fs2) d' a' w' (by simp at hl ⊢; omega) ag.Φ ag.ρ (fun x hx => hv x (hmem x hx)) (by simpa using hsz) ?_ (hso.sublist hsub) ?_ e3 ?_ ?_ (hdi.sublist hsub) hs'
      · intro j
        by_cases hj : it.ix = j
        · subst hj
          constructor
          · intro hq
            exfalso
            rcases Nat.lt_or_ge it.ix listed.size with h'' | h''
            · simp [h''] at hq
            · simp [Array.getElem?_eq_none (show (listed.setIfInBounds it.ix true).size ≤ it.ix by simpa using h'')] at hq
          · rintro ⟨x, hx, hxe⟩
            exact absurd hxe (hne x hx)
        · rw [getD_set_ne true hj, hun j]
          constructor
          · rintro ⟨x, hx, hxe⟩
            simp only [List.mem_append, List.mem_cons] at hx
            rcases hx with hx | rfl | hx
            · exact ⟨x, List.mem_append_left _ hx, hxe⟩
            · exact absurd hxe hj
            · exact ⟨x, List.mem_append_right _ hx, hxe⟩
          · rintro ⟨x, hx, hxe⟩
            exact ⟨x, hmem x hx, hxe⟩
      · intro j hq p hp
        by_cases hj : it.ix = j
        · subst hj
          obtain ⟨e, he, hb, hep⟩ := predsOf_spec hit hp
          rw [hix] at hit
          rw [ho] at hit
          cases hit
          rw [← hep]
          exact getD_set_true (hpre e he hb)
        · rw [getD_set_ne false hj] at hq
          exact getD_set_true (hcl j hq p hp)
      · rw [List.pairwise_append]
        refine ⟨hord.1, (List.pairwise_cons.1 hord.2.1).2, fun x hx y hy => hord.2.2 x hx y (List.mem_cons_of_mem _ hy)⟩
      · intro x hx hxn
        have old := hfr x (hmem x hx) hxn
        have hneq : ∀ id g, r.wr = [(id, g)] → id ≠ x.nw := fun id g hw e => by
          obtain ⟨_, _, _, _, hform⟩ := effD_fp e1
          rcases hform with h' | ⟨id', g', h', h''⟩
          · rw [h'] at hw; cases hw
          · rw [h'] at hw
            simp only [List.cons.injEq, Prod.mk.injEq, and_true] at hw
            obtain ⟨rfl, rfl⟩ := hw
            rcases h'' with h'' | ⟨h3, h4⟩
            · rw [e, old.1] at h''; cases h''
            · have hd2 : it.nw ≠ x.nw := by
                rw [List.pairwise_append] at hdi
                simp only [List.mem_append] at hx
                rcases hx with hx | hx
                · exact fun e => hdi.2.2 x hx it List.mem_cons_self hxn h3 e.symm
                · exact fun e => List.rel_of_pairwise_cons hdi.2.1 hx h3 hxn e
              exact hd2 (h4.symm.trans e)
        obtain ⟨_, _, _, _, hform⟩ := effD_fp e1
        rcases hform with h' | ⟨id', g', h', _⟩
        · simp only [Res.put, h', wrAll]; exact old
        · simp only [Res.put, h', wrAll]
          rw [getH_setH_ne _ _ _ _ (hneq _ _ h'), setH_length]
          exact old

end
end Go.Proofs.Ytmlmdicdblgcfaa.Sx

namespace Go.Proofs.Ytmlmdicdblgcfaa.Sx
open Go Go.RowKit

section
variable {C : Cfg} {R : Bds} {X : Ctx} {d : Dn} {w : World} {S : St} {a : Act} {Pr : Pres} {Φ : Fns} {ρ : Env} {ops : Array Oper}
  {Q : Exit → Act → World → Prop} {K : Ex → Bds → St → Env → Prop}

/-- The operations one after the other, with what they ask. -/
def RunsO (Φ : Fns) (ρ : Env) (C : Cfg) (R : Bds) (ops : Array Oper) : List Item → St → St → List Fp → List O → Prop
  | [], S, Sf, fs, os => S = Sf ∧ fs = [] ∧ os = []
  | it :: l, S, Sf, fs, os => ∃ r f fs' os', effD Φ ρ C R ops it S = some (r, f) ∧ fs = f :: fs' ∧ os = r.os ++ os' ∧ RunsO Φ ρ C R ops l (r.put it.o.dst S) Sf fs' os'

theorem RunsO.runs : ∀ {l : List Item} {S Sf : St} {fs : List Fp} {os : List O}, RunsO Φ ρ C R ops l S Sf fs os → OsHold Φ Pr ρ os → Runs Φ ρ Pr C R ops l S Sf fs
  | [], _, _, _, _, ⟨h1, h2, _⟩, _ => ⟨h1, h2⟩
  | it :: l, _, _, _, _, ⟨r, f, fs', os', h1, h2, h3, h4⟩, ho => by
    subst h2 h3
    exact ⟨r, f, fs', h1, fun o h => ho o (List.mem_append_left _ h), rfl, RunsO.runs h4 fun o h => ho o (List.mem_append_right _ h)⟩

/-- The calls of a region are those of functions that are known. -/
def Known (C : Cfg) (cs : List CallR) : Prop := ∀ c ∈ cs, ∃ s, sigOf C.sigs c.g = some s ∧ c.ks = resKds s

theorem callOf_known (o : Op) : Known C (callOf C R S o) := fun c hc => by
  unfold callOf at hc
  split at hc
  · rename_i g s as h
    simp only [List.mem_singleton] at hc
    subst hc
    obtain ⟨_, _, _, _, _, _, _, hs, _, _⟩ := callOp_some h
    exact ⟨s, hs, rfl⟩
  · cases hc

theorem Known.append {a b : List CallR} (h : Known C a) (k : Known C b) : Known C (a ++ b) := fun c hc => (List.mem_append.1 hc).elim (h c) (k c)

theorem runT_sound {fin : Bds → List Fp → List O → List CallR → St → T} :
    ∀ (l : List Oper) (i new : Nat) (Rp : Bds) (fps : List Fp) (os : List O) (cs : List CallR) (S : St), RV Φ Rp ρ → Known C cs →
      (runT C R ops fin l i new Rp fps os cs S).holds Φ Pr ρ K →
      ∃ Sf fs' os' cs' Rp', RunsO Φ ρ C R ops (items l i new) S Sf fs' os' ∧ RV Φ Rp' ρ ∧ Known C cs' ∧ (fin Rp' (fs'.reverse ++ fps) (os ++ os') cs' Sf).holds Φ Pr ρ K
  | [], i, new, Rp, fps, os, cs, S, hR, hk, ht => ⟨S, [], [], cs, Rp, ⟨rfl, rfl, rfl⟩, hR, hk, by simpa [runT] using ht⟩
  | o :: rest, i, new, Rp, fps, os, cs, S, hR, hk, ht => by
    have ih := runT_sound (fin := fin) rest (i + 1) (bif isNew o.op then new + 1 else new)
    -- once the operation's outcome is known
    have next : ∀ (Rp : Bds) (r : Res) (f : Fp) (cs : List CallR), RV Φ Rp ρ → Known C cs → effD Φ ρ C R ops ⟨i, o, new⟩ S = some (r, f) →
        (runT C R ops fin rest (i + 1) (bif isNew o.op then new + 1 else new) Rp (f :: fps) (os ++ r.os) cs (r.put o.dst S)).holds Φ Pr ρ K →
        ∃ Sf fs' os' cs' Rp', RunsO Φ ρ C R ops (items (o :: rest) i new) S Sf fs' os' ∧ RV Φ Rp' ρ ∧ Known C cs' ∧ (fin Rp' (fs'.reverse ++ fps) (os ++ os') cs' Sf).holds Φ Pr ρ K := by
      intro Rp r f cs hR hk he ht
      obtain ⟨Sf, fs', os', cs', Rp', h1, h2, h3, h4⟩ := ih Rp (f :: fps) (os ++ r.os) cs (r.put o.dst S) hR hk ht
      refine ⟨Sf, f :: fs', r.os ++ os', cs', Rp', ⟨r, f, fs', os', he, rfl, rfl, h1⟩, h2, h3, ?_⟩
      simpa using h4
    simp only [runT] at ht
    have go : ∀ (dec : Bool) (Rp : Bds), RV Φ Rp ρ → decOf Φ ρ S o.op = dec → (runOne Φ ρ C R ops ⟨i, o, new⟩ S = effD Φ ρ C R ops ⟨i, o, new⟩ S) →
        T.holds Φ Pr (match opStep C R o.op dec S new with
          | some r => runT C R ops fin rest (i + 1) (bif isNew o.op then new + 1 else new) Rp (mkFp ops i o S r :: fps) (os ++ r.os) (cs ++ callOf C R S o.op) (r.put o.dst S)
          | none => .fail 11) ρ K →
        ∃ Sf fs' os' cs' Rp', RunsO Φ ρ C R ops (items (o :: rest) i new) S Sf fs' os' ∧ RV Φ Rp' ρ ∧ Known C cs' ∧ (fin Rp' (fs'.reverse ++ fps) (os ++ os') cs' Sf).holds Φ Pr ρ K := by
      intro dec Rp hR hd he ht
      cases hs : opStep C R o.op dec S new with
      | none => rw [hs] at ht; exact ht.elim
      | some r =>
        rw [hs] at ht
        refine next Rp r (mkFp ops i o S r) _ hR (hk.append (callOf_known o.op)) ?_ ht
        rw [← he]
        simp only [runOne, hd, hs]
    have run : ∀ (Rp : Bds), RV Φ Rp ρ → (runOne Φ ρ C R ops ⟨i, o, new⟩ S = effD Φ ρ C R ops ⟨i, o, new⟩ S) →
        T.holds Φ Pr (match pickOf S o.op with
          | some b => askT Rp b (fun Rp => match opStep C R o.op true S new with
              | some r => runT C R ops fin rest (i + 1) (bif isNew o.op then new + 1 else new) Rp (mkFp ops i o S r :: fps) (os ++ r.os) (cs ++ callOf C R S o.op) (r.put o.dst S)
              | none => .fail 11) (fun Rp => match opStep C R o.op false S new with
              | some r => runT C R ops fin rest (i + 1) (bif isNew o.op then new + 1 else new) Rp (mkFp ops i o S r :: fps) (os ++ r.os) (cs ++ callOf C R S o.op) (r.put o.dst S)
              | none => .fail 11)
          | none => match opStep C R o.op true S new with
              | some r => runT C R ops fin rest (i + 1) (bif isNew o.op then new + 1 else new) Rp (mkFp ops i o S r :: fps) (os ++ r.os) (cs ++ callOf C R S o.op) (r.put o.dst S)
              | none => .fail 11) ρ K →
        ∃ Sf fs' os' cs' Rp', RunsO Φ ρ C R ops (items (o :: rest) i new) S Sf fs' os' ∧ RV Φ Rp' ρ ∧ Known C cs' ∧ (fin Rp' (fs'.reverse ++ fps) (os ++ os') cs' Sf).holds Φ Pr ρ K := by
      intro Rp hR he ht
      cases hp : pickOf S o.op with
      | none => rw [hp] at ht; exact go true Rp hR (by simp only [decOf, hp]) he ht
      | some b =>
        rw [hp] at ht
        rcases askT_holds (d := ⟨Φ, ρ, fun _ => (0, 0)⟩) hR ht with ⟨hb, R', hR', _, ht⟩ | ⟨hb, R', hR', _, ht⟩
        · exact go true R' hR' (by simp only [decOf, hp]; exact hb) he ht
        · exact go false R' hR' (by simp only [decOf, hp]; exact hb) he ht
    have skip : ∀ (Rp : Bds), RV Φ Rp ρ → effD Φ ρ C R ops ⟨i, o, new⟩ S = some (skipOne ops ⟨i, o, new⟩) →
        (runT C R ops fin rest (i + 1) (bif isNew o.op then new + 1 else new) Rp (skipFp ops i o :: fps) os cs (S.put o.dst .undef)).holds Φ Pr ρ K →
        ∃ Sf fs' os' cs' Rp', RunsO Φ ρ C R ops (items (o :: rest) i new) S Sf fs' os' ∧ RV Φ Rp' ρ ∧ Known C cs' ∧ (fin Rp' (fs'.reverse ++ fps) (os ++ os') cs' Sf).holds Φ Pr ρ K := by
      intro Rp hR he ht
      refine next Rp ⟨.undef, [], []⟩ (skipFp ops i o) cs hR hk he ?_
      have e : (⟨.undef, [], []⟩ : Res).put o.dst S = S.put o.dst .undef := by cases hd : o.dst <;> rfl
      rw [e]
      simpa using ht
    cases hg : guardOf ops S o with
    | run =>
      rw [hg] at ht
      exact run Rp hR (by unfold effD; simp only [hg]) ht
    | skip =>
      rw [hg] at ht
      exact skip Rp hR (by unfold effD; simp only [hg]) ht
    | ask b =>
      rw [hg] at ht
      rcases askT_holds (d := ⟨Φ, ρ, fun _ => (0, 0)⟩) hR ht with ⟨hb, R', hR', _, ht⟩ | ⟨hb, R', hR', _, ht⟩
      · exact run R' hR' (by unfold effD; simp only [hg]; rw [if_pos hb]) ht
      · have hb' : ¬ b.den Φ ρ = true := by
          have : b.den Φ ρ = false := hb
          rw [this]; simp
        exact skip R' hR' (by unfold effD; simp only [hg]; rw [if_neg hb']) ht
    | bad => rw [hg] at ht; exact ht.elim

/-! ### What calls have returned, by variables -/
theorem Cell.same_rep {g n m : Nat} {as : AS} (hv : ∀ j, j < m → d.ρ.i.getD (n + j) 0 = (d.Φ g (as.denE d.Φ d.ρ) (as.denL d.Φ d.ρ)).1.getD j 0) (c : Cell) : SameC d c (c.rep g as n m) := by
  cases c with
  | int k e => exact ⟨by simp only [Cell.rep, Cell.den, E.den_rep hv], fun _ _ => trivial⟩
  | bool b => exact ⟨by simp only [Cell.rep, Cell.den, B.den_rep hv], fun _ _ => trivial⟩
  | ptrx i o q s e => exact ⟨by simp only [Cell.rep, Cell.den, E.den_rep hv], fun _ h => by simpa only [Cell.rep, Cell.ok, E.den_rep hv] using h⟩
  | str l => exact ⟨by simp only [Cell.rep, Cell.den, L.den_rep hv], fun _ _ => trivial⟩
  | ptr _ _ => exact SameC.refl _ _
  | nilp => exact SameC.refl _ _
  | nilf => exact SameC.refl _ _
  | slc _ _ _ _ => exact SameC.refl _ _
  | fn _ => exact SameC.refl _ _

theorem cells_same_rep {g n m : Nat} {as : AS} (hv : ∀ j, j < m → d.ρ.i.getD (n + j) 0 = (d.Φ g (as.denE d.Φ d.ρ) (as.denL d.Φ d.ρ)).1.getD j 0) : ∀ (cs : List Cell),
    SameCs d cs (cs.map (·.rep g as n m))
  | [] => trivial
  | c :: r => ⟨Cell.same_rep hv c, cells_same_rep hv r⟩

theorem getT_map (f : SV → SV) (hf : f .undef = .undef) : ∀ (l : List SV) (t : Nat), getT (l.map f) t = f (getT l t)
  | [], t => by rw [List.map_nil, getT_nil, hf]
  | _ :: _, 0 => rfl
  | _ :: r, t + 1 => getT_map f hf r t
theorem getH_map (f : Reg → Reg) : ∀ (l : List (Option Reg)) (t : Nat), getH (l.map fun r => r.map f) t = (getH l t).map f
  | [], t => by rw [List.map_nil, getH_nil]; rfl
  | _ :: _, 0 => rfl
  | _ :: r, t + 1 => getH_map f r t

theorem SV.is_rep {g n m : Nat} {as : AS} (hv : ∀ j, j < m → d.ρ.i.getD (n + j) 0 = (d.Φ g (as.denE d.Φ d.ρ) (as.denL d.Φ d.ρ)).1.getD j 0) {v : SV} {x : Value} (h : v.is d x) : (v.rep g as n m).is d x := by
  cases v with
  | one c => simp only [SV.rep, SV.is] at *; rw [h, (Cell.same_rep hv c).1]
  | agg cs => simp only [SV.rep, SV.is] at *; rw [h, (cells_same_rep hv cs).map]
  | tup vs =>
    simp only [SV.rep, SV.is] at *
    rw [h, List.map_map]
    congr 2
    refine List.map_congr_left fun p _ => ?_
    simp only [Function.comp]
    rw [compV_compVal]
    obtain ⟨b, cs⟩ := p
    rw [compV_compVal]
    simp only
    rw [(cells_same_rep hv cs).map]
  | any => trivial
theorem SV.ok_rep {g n m : Nat} {as : AS} {hp : List (Option Reg)} (hv : ∀ j, j < m → d.ρ.i.getD (n + j) 0 = (d.Φ g (as.denE d.Φ d.ρ) (as.denL d.Φ d.ρ)).1.getD j 0) {v : SV} (h : v.ok d hp) : (v.rep g as n m).ok d hp := by
  cases v with
  | one c => exact (Cell.same_rep hv c).2 hp h
  | agg cs => exact (cells_same_rep hv cs).ok h
  | tup vs =>
    intro p hp c hc
    simp only [List.mem_map] at hp
    obtain ⟨q, hq, rfl⟩ := hp
    exact (cells_same_rep hv q.2).ok (h q hq) c hc
  | any => trivial

theorem Sat.rep {g n m : Nat} {as : AS} (h : Sat X d S a w) (hv : ∀ j, j < m → d.ρ.i.getD (n + j) 0 = (d.Φ g (as.denE d.Φ d.ρ) (as.denL d.Φ d.ρ)).1.getD j 0) :
    Sat X d (S.rep g as n m) a w ∧ SameH S.heap (S.rep g as n m).heap := by
  have hsame : SameH S.heap (S.rep g as n m).heap := ⟨by simp [St.rep], fun k => by
    simp only [St.rep]; rw [getH_map]; cases getH S.heap k <;> rfl⟩
  have hT : ∀ t, getT (S.rep g as n m).tmps t = (getT S.tmps t).rep g as n m := fun t => getT_map _ rfl _ _
  have get : ∀ k q, getH (S.rep g as n m).heap k = some q → ∃ q', getH S.heap k = some q' ∧ q' = { q' with cs := q'.cs } ∧ q = { q' with cs := q'.cs.map (·.rep g as n m) } := fun k q hq => by
    simp only [St.rep] at hq
    rw [getH_map, Option.map_eq_some_iff] at hq
    obtain ⟨q', h1, h2⟩ := hq
    exact ⟨q', h1, rfl, h2.symm⟩
  refine ⟨⟨h.df, ⟨?_, fun t => ?_, fun t => ?_⟩, ⟨h.hp.bl, fun k q hq => ?_, fun i j ri rj hi hj oi oj hij => ?_, fun k q hq c hc => ?_⟩⟩, hsame⟩
  · simp only [St.rep, List.length_map]; exact h.tm.len
  · rw [hT]; exact SV.is_rep hv (h.tm.is t)
  · rw [hT]; exact SV.ok_rep hv (SV.ok_mono hsame.has (h.tm.ok t))
  · obtain ⟨q', h1, _, rfl⟩ := get k q hq
    have old := h.hp.reg k q' h1
    have hs := cells_same_rep hv q'.cs
    unfold RegIs at *
    simp only
    split
    · rename_i ho; rw [if_pos ho] at old; rw [hs.map]; exact old
    · rename_i ho
      rw [if_neg ho] at old
      refine ⟨old.1, fun i c hi => ?_⟩
      rw [List.getElem?_map, Option.map_eq_some_iff] at hi
      obtain ⟨c', hc', rfl⟩ := hi
      rw [(Cell.same_rep hv c').1]
      exact old.2 i c' hc'
  · obtain ⟨qi, h1, _, rfl⟩ := get i ri hi
    obtain ⟨qj, h2, _, rfl⟩ := get j rj hj
    exact h.hp.sep i j qi qj h1 h2 oi oj hij
  · obtain ⟨q', h1, _, rfl⟩ := get k q hq
    exact (cells_same_rep hv q'.cs).ok (fun c hc => Cell.ok_mono hsame.has (h.hp.ids k q' h1 c hc)) c hc

theorem callsT_sound {fin : Bds → St → T} (hΦ : ∀ g s, sigOf C.sigs g = some s → ∀ xs ls, allHas ((resKds s).map Kd.iv) (norm (resKds s).length (Φ g xs ls).1)) :
    ∀ (f : Nat) (cs : List CallR) (R : Bds) (S : St) (d : Dn), d.Φ = Φ → Known C cs → RV d.Φ R d.ρ → Sat X d S a w → (callsT fin f cs R S).holds d.Φ Pr d.ρ K → Comes' X Pr d S a w fin K
  | 0, _, _, _, _, _, _, _, _, ht => ht.elim
  | f + 1, [], R, S, d, _, _, hR, h, ht => ⟨R, S, d, rfl, hR, h, SameH.refl _, ht⟩
  | f + 1, c :: r, R, S, d, hd, hk, hR, h, ht => by
    simp only [callsT] at ht
    cases c1 : (c.as.sc R.i.length R.l.length && scAll R S) <;> simp only [c1, cond_false, cond_true] at ht
    · exact ht.elim
    · simp only [Bool.and_eq_true, scAll] at c1
      simp only [T.holds] at ht
      obtain ⟨s, hs, hks⟩ := hk c List.mem_cons_self
      have hn : R.i.length ≤ d.ρ.i.length := by rw [hR.li]; exact Nat.le_refl _
      let ys := norm c.ks.length (d.Φ c.g (c.as.denE d.Φ d.ρ) (c.as.denL d.Φ d.ρ)).1
      have hR' : RV d.Φ (R.push (c.ks.map Kd.iv)) (d.ρ.pushI ys) := hR.push (by subst hd; rw [hks]; show allHas _ (norm c.ks.length _); rw [hks]; exact hΦ c.g s hs _ _) c1.2.2
      have h1 := h.push hn c1.2.1 ys
      have hv : ∀ j, j < c.ks.length → (d.push ys).ρ.i.getD (R.i.length + j) 0 = ((d.push ys).Φ c.g (c.as.denE (d.push ys).Φ (d.push ys).ρ) (c.as.denL (d.push ys).Φ (d.push ys).ρ)).1.getD j 0 := fun j hj => by
        have e1 : c.as.denE (d.push ys).Φ (d.push ys).ρ = c.as.denE d.Φ d.ρ := AS.denE_push hn _ c1.1
        have e2 : c.as.denL (d.push ys).Φ (d.push ys).ρ = c.as.denL d.Φ d.ρ := AS.denL_push hn _ c1.1
        rw [e1, e2]
        show _ = (d.Φ c.g (c.as.denE d.Φ d.ρ) (c.as.denL d.Φ d.ρ)).1.getD j 0
        rw [← norm_getD c.ks.length _ j hj]
        have := getD_append_right (xs := d.ρ.i) (ys := ys) (n := j)
        rw [hR.li] at this
        exact this
      obtain ⟨h2, h3⟩ := h1.rep hv
      have hk' : Known C (r.map (CallR.rep c.g c.as R.i.length c.ks.length)) := fun q hq => by
        obtain ⟨q', hq', rfl⟩ := List.mem_map.1 hq
        exact hk q' (List.mem_cons_of_mem _ hq')
      obtain ⟨R', S', d', e1, e2, e3, e4, e5⟩ := callsT_sound hΦ f _ _ _ (d.push ys) hd hk' hR' h2 ht
      exact ⟨R', S', d', e1, e2, e3, h3.trans e4, e5⟩

end
end Go.Proofs.Ytmlmdicdblgcfaa.Sx

namespace Go.Proofs.Ytmlmdicdblgcfaa.Sx
open Go Go.RowKit

section
variable {C : Cfg} {X : Ctx} {w : World} {a : Act} {Pr : Pres} {Φ : Fns} {Q : Exit → Act → World → Prop} {K : Ex → Bds → St → Env → Prop}

theorem items_at : ∀ (l : List Oper) (i n : Nat), ∀ it ∈ items l i n, i ≤ it.ix ∧ l[it.ix - i]? = some it.o
  | [], _, _, it, h => by cases h
  | o :: r, i, n, it, h => by
    rcases List.mem_cons.1 h with rfl | h
    · exact ⟨Nat.le_refl _, by simp⟩
    · obtain ⟨h1, h2⟩ := items_at r (i + 1) _ it h
      refine ⟨by omega, ?_⟩
      have e : it.ix - i = (it.ix - (i + 1)) + 1 := by omega
      rw [e, List.getElem?_cons_succ]
      exact h2

theorem items_mem : ∀ (l : List Oper) (i n j : Nat), i ≤ j → j < i + l.length → ∃ it ∈ items l i n, it.ix = j
  | [], _, _, _, h, k => by simp at k; omega
  | o :: r, i, n, j, h, k => by
    by_cases e : j = i
    · exact ⟨⟨i, o, n⟩, List.mem_cons_self, e.symm⟩
    · obtain ⟨it, h1, h2⟩ := items_mem r (i + 1) (bif isNew o.op then n + 1 else n) j (by omega) (by simp at k; omega)
      exact ⟨it, List.mem_cons_of_mem _ h1, h2⟩

theorem items_ix : ∀ (l : List Oper) (i n : Nat), (items l i n).Pairwise fun x y => x.ix < y.ix
  | [], _, _ => List.Pairwise.nil
  | o :: r, i, n => List.Pairwise.cons (fun y hy => by
      have := (items_at r (i + 1) _ y hy).1
      show i < y.ix
      omega) (items_ix r (i + 1) _)

theorem items_nw : ∀ (l : List Oper) (i n : Nat), ∀ it ∈ items l i n, isNew it.o.op = true → n ≤ it.nw ∧ it.nw < n + countNew l
  | [], _, _, it, h, _ => by cases h
  | o :: r, i, n, it, h, hn => by
    rcases List.mem_cons.1 h with rfl | h
    · simp only at hn
      simp [countNew, hn]
    · obtain ⟨h1, h2⟩ := items_nw r (i + 1) _ it h hn
      cases ho : isNew o.op <;> simp only [ho, cond_false, cond_true, countNew] at * <;> omega

theorem items_ne : ∀ (l : List Oper) (i n : Nat), (items l i n).Pairwise fun x y => isNew x.o.op = true → isNew y.o.op = true → x.nw ≠ y.nw
  | [], _, _ => List.Pairwise.nil
  | o :: r, i, n => List.Pairwise.cons (fun y hy hx hn => by
      have := (items_nw r (i + 1) _ y hy hn).1
      simp only at hx
      simp only [hx, cond_true] at this
      show n ≠ y.nw
      omega) (items_ne r (i + 1) _)

theorem items_length : ∀ (l : List Oper) (i n : Nat), (items l i n).length = l.length
  | [], _, _ => rfl
  | o :: r, i, n => by simp [items, items_length r]

theorem okEdges_lt {ops : Array Oper} (h : okEdges ops = true) : ∀ j p, p ∈ predsOf ops j → p < j := fun j p hp => by
  by_cases hj : j < ops.size
  · simp only [okEdges, List.all_eq_true, List.mem_range] at h
    have := h j hj p hp
    rwa [Nat.blt_eq] at this
  · have : ops[j]? = none := by simp; omega
    simp only [predsOf, this] at hp
    cases hp

theorem okOrder_pw {ops : Array Oper} : ∀ {l : List Fp}, okOrder ops l = true → l.Pairwise fun x y => x.apart y = true ∨ chainB ops x.ix 4 y.ix = true
  | [], _ => List.Pairwise.nil
  | f :: r, h => by
    simp only [okOrder, Bool.and_eq_true, List.all_eq_true, Bool.or_eq_true] at h
    exact List.Pairwise.cons (fun y hy => h.1 y hy) (okOrder_pw h.2)

/-- Ids that are free. -/
theorem Sat.grow {d : Dn} {S : St} (h : Sat X d S a w) (k : Nat) : Sat X d { S with heap := S.heap ++ List.replicate k none } a w := by
  have hg : ∀ i, getH (S.heap ++ List.replicate k none) i = getH S.heap i := getH_append_none S.heap k
  have hh : Has S.heap (S.heap ++ List.replicate k none) := fun i hi => by rw [hg]; exact hi
  exact ⟨h.df, ⟨h.tm.len, h.tm.is, fun t => SV.ok_mono hh (h.tm.ok t)⟩, ⟨h.hp.bl, fun i r hr => h.hp.reg i r (by rwa [hg] at hr),
    fun i j ri rj hi hj => h.hp.sep i j ri rj (by rwa [hg] at hi) (by rwa [hg] at hj), fun i r hr c hc => Cell.ok_mono hh (h.hp.ids i r (by rwa [hg] at hr) c hc)⟩⟩

theorem Sat.drew {d : Dn} {S : St} (h : Sat X d S a w) : Sat X d S a { w with drawn := w.drawn + 1 } :=
  ⟨h.df, h.tm, ⟨h.hp.bl.drew, fun i r hr => h.hp.reg i r hr, h.hp.sep, h.hp.ids⟩⟩

theorem regionT_sound {id : Nat} {ops : Array Oper} {draw : Bool} {fin : Bds → St → T} (hm : C.P.follows .mixedOrders = true)
    (hC : CTs C Φ Pr) (hΦ : ∀ g s, sigOf C.sigs g = some s → ∀ xs ls, allHas ((resKds s).map Kd.iv) (norm (resKds s).length (Φ g xs ls).1))
    (hT : Then X Pr Φ fin K Q) {R : Bds} {S : St} {d : Dn} (hd : d.Φ = Φ) (hR : RV d.Φ R d.ρ) (h : Sat X d S a w)
    (ht : (regionT C R ops draw S fin).holds d.Φ Pr d.ρ K) : (Code.region id ops draw).wp C.P Q a w := by
  have hfree : Free (S.heap ++ List.replicate (countNew ops.toList) none) S.heap.length (countNew ops.toList) :=
    ⟨by simp, fun k h1 _ => by rw [getH_append_none]; exact getH_ge _ _ h1⟩
  cases draw with
  | false =>
    simp only [regionT, cond_false] at ht
    exact wp_region_list (seqT_sound hC hΦ hT _ _ _ _ d a w hd hR (h.grow _) hfree ht)
  | true =>
    subst hd
    simp only [regionT, cond_true] at ht
    obtain ⟨Sf, fs, os, cs, R', h1, h2, h3, h4⟩ := runT_sound _ _ _ _ _ _ _ _ hR (fun _ hc => by cases hc) ht
    simp only [List.append_nil, List.reverse_reverse, List.nil_append] at h4
    cases hc : okEdges ops && okOrder ops fs <;> simp only [hc, cond_false, cond_true] at h4
    · exact h4.elim
    simp only [Bool.and_eq_true] at hc
    obtain ⟨h5, h6⟩ := need_holds h4
    refine wp_region_any hm ?_
    refine any_sound (Φ := d.Φ) (ρ := d.ρ) (Sf := Sf) hC hR (okEdges_lt hc.1) ?_ _ (items ops.toList 0 S.heap.length) _ _ fs d a _ (by rw [items_length]; simp) rfl rfl ?_ (by simp) ?_ (items_ix _ _ _) ?_ (h1.runs h5) (okOrder_pw hc.2) ?_ (items_ne _ _ _) (h.grow _).drew
    · intro d' a' w' e1 e2 hs
      obtain ⟨R2, S2, d2, e3, e4, e5, _, e6⟩ := callsT_sound (X := X) (Φ := d.Φ) hΦ _ _ _ _ d' e1 h3 (by rw [e1, e2]; exact h2) hs (by rw [e1, e2]; exact h6)
      obtain ⟨R3, S3, d3, e7, e8, e9, _, e10⟩ := bindT_sound _ _ _ _ _ e4 e5 e6
      exact hT R3 S3 d3 a' w' (e7.trans (e3.trans e1)) e8 e9 e10
    · intro it hit
      have := (items_at _ _ _ it hit).2
      simpa using this
    · intro j
      constructor
      · intro hj
        have hj' : j < ops.size := by
          apply Decidable.byContradiction
          intro hn
          rw [Array.getD_eq_getD_getElem?, Array.getElem?_eq_none (by simp; omega)] at hj
          cases hj
        exact items_mem _ _ _ j (Nat.zero_le _) (by simpa using hj')
      · rintro ⟨it, hit, rfl⟩
        have hb := (items_at _ _ _ it hit).2
        have hlt : it.ix < ops.size := by
          have := List.getElem?_eq_some_iff.1 hb
          obtain ⟨hh, _⟩ := this
          simpa using hh
        rw [Array.getD_eq_getD_getElem?, Array.getElem?_replicate, if_pos hlt]
        rfl
    · intro j hj
      rw [Array.getD_eq_getD_getElem?, Array.getElem?_replicate] at hj
      split at hj <;> cases hj
    · intro it hit hn
      obtain ⟨q1, q2⟩ := items_nw _ _ _ it hit hn
      exact ⟨hfree.2 _ q1 q2, Nat.lt_of_lt_of_le q2 hfree.1⟩

end
end Go.Proofs.Ytmlmdicdblgcfaa.Sx

namespace Go.Proofs.Ytmlmdicdblgcfaa.Sx
open Go Go.RowKit

section
variable {C : Cfg} {X : Ctx} {d d' : Dn} {w : World} {a : Act} {Pr : Pres} {Φ : Fns} {n m : Nat}

/-! ### Two denotations over the same beginning -/
theorem SV.is_pushD' {ys : List Int} (hn : n ≤ d.ρ.i.length) {v : SV} (h : v.sc n m = true) {x : Value} (hx : v.is (d.push ys) x) : v.is d x := by
  cases v with
  | one c => simp only [SV.is] at *; rw [hx, Cell.den_pushD hn h]
  | agg cs => simp only [SV.is] at *; rw [hx, cells_pushD hn h]
  | tup vs =>
    simp only [SV.is] at *
    rw [hx]
    congr 2
    refine List.map_congr_left fun p hm => ?_
    have hp := List.all_eq_true.1 h p hm
    rw [compV_compVal, compV_compVal, cells_pushD hn hp]
  | any => trivial

theorem Cell.ok_pushD' {ys : List Int} {hp : List (Option Reg)} (hn : n ≤ d.ρ.i.length) {c : Cell} (h : c.sc n m = true) (hc : c.ok (d.push ys) hp) : c.ok d hp := by
  cases c <;> first | exact hc | skip
  simp only [Cell.sc] at h
  simp only [Cell.ok, Dn.push, E.den_push hn _ h] at hc
  exact hc

/-- No variable stands in a cell: it is the same wherever the blocks are the same. -/
theorem Cell.den_closed (hΦ : d'.Φ = d.Φ) (hl : d'.ρ.l = d.ρ.l) (hα : d'.α = d.α) {c : Cell} (h : c.sc 0 0 = true) : c.den d' = c.den d := by
  have e : ∀ q : Dn, q = (⟨q.Φ, ⟨[], q.ρ.l⟩, q.α⟩ : Dn).push q.ρ.i := fun q => rfl
  rw [e d', e d, Cell.den_pushD (n := 0) (m := 0) (Nat.zero_le _) h, Cell.den_pushD (n := 0) (m := 0) (Nat.zero_le _) h]
  show Cell.den ⟨d'.Φ, ⟨[], d'.ρ.l⟩, d'.α⟩ c = Cell.den ⟨d.Φ, ⟨[], d.ρ.l⟩, d.α⟩ c
  rw [hΦ, hl, hα]
theorem Cell.ok_closed (hΦ : d'.Φ = d.Φ) (hl : d'.ρ.l = d.ρ.l) {hp : List (Option Reg)} {c : Cell} (h : c.sc 0 0 = true) (hc : c.ok d hp) : c.ok d' hp := by
  have e : ∀ q : Dn, q = (⟨q.Φ, ⟨[], q.ρ.l⟩, q.α⟩ : Dn).push q.ρ.i := fun q => rfl
  rw [e d] at hc
  rw [e d']
  refine Cell.ok_pushD (n := 0) (m := 0) (Nat.zero_le _) h ?_
  have := Cell.ok_pushD' (n := 0) (m := 0) (Nat.zero_le _) h hc
  cases c <;> first | exact this | skip
  simp only [Cell.ok, hΦ, hl] at this ⊢
  exact this

theorem numOf_den (b : B) (ρ : Env) : (numOf b).den Φ ρ = if b.den Φ ρ = true then 1 else 0 := by
  unfold numOf
  split
  · rfl
  · rfl
  · rfl

/-! ### The head of a loop -/
/-- In d' the variables from place n on stand for what the expressions stand for in d. -/
def At (d d' : Dn) (n : Nat) (es : List E) : Prop := ∀ j e, es[j]? = some e → d'.ρ.i.getD (n + j) 0 = e.den d.Φ d.ρ

theorem At.left {n : Nat} {es fs : List E} (h : At d d' n (es ++ fs)) : At d d' n es := fun j e he => h j e (by
  rw [List.getElem?_append_left (by have := List.getElem?_eq_some_iff.1 he; exact this.1)]; exact he)
theorem At.right {n : Nat} {es fs : List E} (h : At d d' n (es ++ fs)) : At d d' (n + es.length) fs := fun j e he => by
  have := h (es.length + j) e (by rw [List.getElem?_append_right (by omega), Nat.add_sub_cancel_left]; exact he)
  rwa [← Nat.add_assoc] at this
theorem At.cons {n : Nat} {e : E} {fs : List E} (h : At d d' n (e :: fs)) : d'.ρ.i.getD n 0 = e.den d.Φ d.ρ ∧ At d d' (n + 1) fs :=
  ⟨h 0 e rfl, fun j f hf => by
    have := h (j + 1) f (by simpa using hf)
    rwa [show n + (j + 1) = n + 1 + j by omega] at this⟩

theorem cutCs_den (hΦ : d'.Φ = d.Φ) (hl : d'.ρ.l = d.ρ.l) (hα : d'.α = d.α) : ∀ (cs : List Cell) (n : Nat) (es : List E) (cs' : List Cell), cutCs n cs = some (es, cs') → At d d' n es → cs'.map (Cell.den d') = cs.map (Cell.den d)
  | [], _, es, cs', h, _ => by
    simp only [cutCs, Option.some.injEq, Prod.mk.injEq] at h
    rw [← h.2]; rfl
  | c :: r, n, es, cs', h, hA => by
    have closed : ∀ {p : List E × List Cell}, c.sc 0 0 = true → cutCs n r = some p → es = p.1 → cs' = c :: p.2 → cs'.map (Cell.den d') = (c :: r).map (Cell.den d) := by
      rintro ⟨es0, r0⟩ h1 h2 rfl rfl
      rw [List.map_cons, List.map_cons, Cell.den_closed hΦ hl hα h1, cutCs_den hΦ hl hα r n _ _ h2 hA]
    cases c with
    | int k e =>
      simp only [cutCs, Option.map_eq_some_iff, Prod.mk.injEq] at h
      obtain ⟨⟨es0, r0⟩, h1, rfl, rfl⟩ := h
      obtain ⟨q1, q2⟩ := hA.cons
      rw [List.map_cons, List.map_cons, cutCs_den hΦ hl hα r (n + 1) _ _ h1 q2]
      simp only [Cell.den, E.den, q1]
    | bool b =>
      simp only [cutCs, Option.map_eq_some_iff, Prod.mk.injEq] at h
      obtain ⟨⟨es0, r0⟩, h1, rfl, rfl⟩ := h
      obtain ⟨q1, q2⟩ := hA.cons
      rw [List.map_cons, List.map_cons, cutCs_den hΦ hl hα r (n + 1) _ _ h1 q2]
      simp only [Cell.den, B.den, E.den, q1, numOf_den]
      cases b.den d.Φ d.ρ <;> rfl
    | _ =>
      simp only [cutCs] at h
      generalize hc : Cell.sc 0 0 _ = q at h
      cases q <;> simp only [cond_false, cond_true] at h
      · cases h
      · simp only [Option.map_eq_some_iff, Prod.mk.injEq] at h
        obtain ⟨p, h1, h2, h3⟩ := h
        exact closed hc h1 h2.symm h3.symm

theorem cutCs_ok (hΦ : d'.Φ = d.Φ) (hl : d'.ρ.l = d.ρ.l) {hp : List (Option Reg)} : ∀ (cs : List Cell) (n : Nat) (es : List E) (cs' : List Cell), cutCs n cs = some (es, cs') → (∀ c ∈ cs, c.ok d hp) → ∀ c ∈ cs', c.ok d' hp
  | [], _, es, cs', h, _ => by
    simp only [cutCs, Option.some.injEq, Prod.mk.injEq] at h
    rw [← h.2]; intro c hc; cases hc
  | c :: r, n, es, cs', h, hA => by
    have hr := fun x hx => hA x (List.mem_cons_of_mem _ hx)
    have closed : ∀ {p : List E × List Cell}, c.sc 0 0 = true → cutCs n r = some p → cs' = c :: p.2 → ∀ c ∈ cs', c.ok d' hp := by
      rintro ⟨es0, r0⟩ h1 h2 rfl x hx
      cases hx with
      | head => exact Cell.ok_closed hΦ hl h1 (hA _ List.mem_cons_self)
      | tail _ hx => exact cutCs_ok hΦ hl r n _ _ h2 hr x hx
    cases c with
    | int k e =>
      simp only [cutCs, Option.map_eq_some_iff, Prod.mk.injEq] at h
      obtain ⟨⟨es0, r0⟩, h1, rfl, rfl⟩ := h
      intro x hx
      cases hx with
      | head => trivial
      | tail _ hx => exact cutCs_ok hΦ hl r _ _ _ h1 hr x hx
    | bool b =>
      simp only [cutCs, Option.map_eq_some_iff, Prod.mk.injEq] at h
      obtain ⟨⟨es0, r0⟩, h1, rfl, rfl⟩ := h
      intro x hx
      cases hx with
      | head => trivial
      | tail _ hx => exact cutCs_ok hΦ hl r _ _ _ h1 hr x hx
    | _ =>
      simp only [cutCs] at h
      generalize hc : Cell.sc 0 0 _ = q at h
      cases q <;> simp only [cond_false, cond_true] at h
      · cases h
      · simp only [Option.map_eq_some_iff, Prod.mk.injEq] at h
        obtain ⟨p, h1, h2, h3⟩ := h
        exact closed hc h1 h3.symm

theorem cutCs_length : ∀ (cs : List Cell) (n : Nat) (es : List E) (cs' : List Cell), cutCs n cs = some (es, cs') → cs'.length = cs.length
  | [], _, es, cs', h => by
    simp only [cutCs, Option.some.injEq, Prod.mk.injEq] at h
    rw [← h.2]
  | c :: r, n, es, cs', h => by
    cases c with
    | int k e =>
      simp only [cutCs, Option.map_eq_some_iff, Prod.mk.injEq] at h
      obtain ⟨⟨es0, r0⟩, h1, rfl, rfl⟩ := h
      simp [cutCs_length r _ _ _ h1]
    | bool b =>
      simp only [cutCs, Option.map_eq_some_iff, Prod.mk.injEq] at h
      obtain ⟨⟨es0, r0⟩, h1, rfl, rfl⟩ := h
      simp [cutCs_length r _ _ _ h1]
    | _ =>
      simp only [cutCs] at h
      generalize hc : Cell.sc 0 0 _ = q at h
      cases q <;> simp only [cond_false, cond_true] at h
      · cases h
      · simp only [Option.map_eq_some_iff, Prod.mk.injEq] at h
        obtain ⟨⟨es0, r0⟩, h1, _, rfl⟩ := h
        simp [cutCs_length r _ _ _ h1]

theorem cutSV_is (hΦ : d'.Φ = d.Φ) (hl : d'.ρ.l = d.ρ.l) (hα : d'.α = d.α) {v v' : SV} {n : Nat} {es : List E} (h : cutSV n v = some (es, v')) (hA : At d d' n es) {x : Value} (hx : v.is d x) : v'.is d' x := by
  cases v with
  | one c =>
    simp only [cutSV] at h
    split at h
    · rename_i es0 c' hc
      simp only [Option.some.injEq, Prod.mk.injEq] at h
      obtain ⟨rfl, rfl⟩ := h
      have := cutCs_den hΦ hl hα _ _ _ _ hc hA
      simp only [List.map_cons, List.map_nil, List.cons.injEq, and_true] at this
      simp only [SV.is] at hx ⊢
      rw [hx, this]
    · cases h
  | agg cs =>
    simp only [cutSV, Option.map_eq_some_iff, Prod.mk.injEq] at h
    obtain ⟨⟨es0, c'⟩, hc, rfl, rfl⟩ := h
    simp only [SV.is] at hx ⊢
    rw [hx, cutCs_den hΦ hl hα _ _ _ _ hc hA]
  | _ => cases h
theorem cutSV_ok (hΦ : d'.Φ = d.Φ) (hl : d'.ρ.l = d.ρ.l) {hp : List (Option Reg)} {v v' : SV} {n : Nat} {es : List E} (h : cutSV n v = some (es, v')) (hx : v.ok d hp) : v'.ok d' hp := by
  cases v with
  | one c =>
    simp only [cutSV] at h
    split at h
    · rename_i es0 c' hc
      simp only [Option.some.injEq, Prod.mk.injEq] at h
      obtain ⟨rfl, rfl⟩ := h
      exact cutCs_ok hΦ hl _ _ _ _ hc (fun c hm => by
        simp only [List.mem_singleton] at hm; subst hm; exact hx) c' List.mem_cons_self
    · cases h
  | agg cs =>
    simp only [cutSV, Option.map_eq_some_iff, Prod.mk.injEq] at h
    obtain ⟨⟨es0, c'⟩, hc, rfl, rfl⟩ := h
    exact cutCs_ok hΦ hl _ _ _ _ hc hx
  | _ => cases h

/-- d and d' with the same beginning of n0 numbers. -/
structure Alike2 (n0 : Nat) (d d' : Dn) : Prop where
  Φ : d'.Φ = d.Φ
  l : d'.ρ.l = d.ρ.l
  α : d'.α = d.α
  n : n0 ≤ d.ρ.i.length
  n' : n0 ≤ d'.ρ.i.length
  t : d'.ρ.i.take n0 = d.ρ.i.take n0

theorem Alike2.split {n0 : Nat} (h : Alike2 n0 d d') : ∃ d0 : Dn, d0.ρ.i.length = n0 ∧ d = d0.push (d.ρ.i.drop n0) ∧ d' = d0.push (d'.ρ.i.drop n0) := by
  refine ⟨⟨d.Φ, ⟨d.ρ.i.take n0, d.ρ.l⟩, d.α⟩, by have := h.n; simp; omega, ?_, ?_⟩
  · show d = ⟨d.Φ, ⟨d.ρ.i.take n0 ++ d.ρ.i.drop n0, d.ρ.l⟩, d.α⟩
    rw [List.take_append_drop]
  · show d' = ⟨d.Φ, ⟨d.ρ.i.take n0 ++ d'.ρ.i.drop n0, d.ρ.l⟩, d.α⟩
    rw [← h.t, List.take_append_drop, ← h.Φ, ← h.l, ← h.α]

theorem Alike2.is {n0 : Nat} (h : Alike2 n0 d d') {v : SV} (hs : v.sc n0 m = true) {x : Value} (hx : v.is d x) : v.is d' x := by
  obtain ⟨d0, e0, e1, e2⟩ := h.split
  rw [e1] at hx
  rw [e2]
  exact SV.is_pushD (by omega) hs (SV.is_pushD' (n := n0) (by omega) hs hx)
theorem Alike2.cells {n0 : Nat} (h : Alike2 n0 d d') {cs : List Cell} (hs : cs.all (·.sc n0 m) = true) : cs.map (Cell.den d') = cs.map (Cell.den d) := by
  obtain ⟨d0, e0, e1, e2⟩ := h.split
  rw [e1, e2, cells_pushD (by omega) hs, cells_pushD (by omega) hs]

theorem cutTs_is {n0 : Nat} {A : Ann} (h2 : Alike2 n0 d d') : ∀ (l : List SV) (n t : Nat) (es : List E) (l' : List SV), cutTs n0 m A n t l = some (es, l') → At d d' n es →
    l'.length = l.length ∧ ∀ i x, (getT l i).is d x → (getT l' i).is d' x
  | [], _, _, es, l', h, _ => by
    simp only [cutTs, Option.some.injEq, Prod.mk.injEq] at h
    rw [← h.2]
    exact ⟨rfl, fun i x hx => by rw [getT_nil] at *; exact hx⟩
  | v :: r, n, t, es, l', h, hA => by
    simp only [cutTs] at h
    have one : ∀ {v' : SV} {r' : List SV}, (∀ x, v.is d x → v'.is d' x) → (r'.length = r.length ∧ ∀ i x, (getT r i).is d x → (getT r' i).is d' x) →
        (v' :: r').length = (v :: r).length ∧ ∀ i x, (getT (v :: r) i).is d x → (getT (v' :: r') i).is d' x := fun h1 h2 =>
      ⟨by simp [h2.1], fun i x hx => by
        cases i with
        | zero => exact h1 x hx
        | succ i => exact h2.2 i x hx⟩
    cases c1 : memN t A.any <;> simp only [c1, cond_false, cond_true] at h
    · cases c2 : memN t A.ts <;> simp only [c2, cond_false, cond_true] at h
      · simp only [Option.map_eq_some_iff, Prod.mk.injEq] at h
        obtain ⟨⟨es0, r0⟩, h1, rfl, rfl⟩ := h
        refine one (fun x hx => ?_) (cutTs_is h2 r n (t + 1) _ _ h1 hA)
        cases c3 : v.sc n0 m <;> simp only [cond_false, cond_true]
        · trivial
        · exact h2.is c3 hx
      · split at h
        · rename_i es0 v' hv
          simp only [Option.map_eq_some_iff, Prod.mk.injEq] at h
          obtain ⟨⟨es1, r0⟩, h1, rfl, rfl⟩ := h
          exact one (fun x hx => cutSV_is h2.Φ h2.l h2.α hv hA.left hx) (cutTs_is h2 r _ (t + 1) _ _ h1 hA.right)
        · cases h
    · simp only [Option.map_eq_some_iff, Prod.mk.injEq] at h
      obtain ⟨⟨es0, r0⟩, h1, rfl, rfl⟩ := h
      exact one (fun x hx => trivial) (cutTs_is h2 r n (t + 1) _ _ h1 hA)

theorem cutTs_ok {n0 : Nat} {A : Ann} (hn : n0 ≤ d.ρ.i.length) {ys : List Int} {hp : List (Option Reg)} : ∀ (l : List SV) (n t : Nat) (es : List E) (l' : List SV), cutTs n0 m A n t l = some (es, l') →
    (∀ i, (getT l i).ok d hp) → ∀ i, (getT l' i).ok (d.push ys) hp
  | [], _, _, es, l', h, hA => by
    simp only [cutTs, Option.some.injEq, Prod.mk.injEq] at h
    rw [← h.2]
    exact fun i => by rw [getT_nil]; exact undef_ok _ _
  | v :: r, n, t, es, l', h, hA => by
    have hr : ∀ i, (getT r i).ok d hp := fun i => hA (i + 1)
    have hv0 : v.ok d hp := hA 0
    simp only [cutTs] at h
    have one : ∀ {v' : SV} {r' : List SV}, v'.ok (d.push ys) hp → (∀ i, (getT r' i).ok (d.push ys) hp) → ∀ i, (getT (v' :: r') i).ok (d.push ys) hp := fun h1 h2 i => by
      cases i with
      | zero => exact h1
      | succ i => exact h2 i
    cases c1 : memN t A.any <;> simp only [c1, cond_false, cond_true] at h
    · cases c2 : memN t A.ts <;> simp only [c2, cond_false, cond_true] at h
      · simp only [Option.map_eq_some_iff, Prod.mk.injEq] at h
        obtain ⟨⟨es0, r0⟩, h1, rfl, rfl⟩ := h
        refine one ?_ (cutTs_ok hn r n (t + 1) _ _ h1 hr)
        cases c3 : v.sc n0 m <;> simp only [cond_false, cond_true]
        · trivial
        · exact SV.ok_pushD hn c3 hv0
      · split at h
        · rename_i es0 v' hv
          simp only [Option.map_eq_some_iff, Prod.mk.injEq] at h
          obtain ⟨⟨es1, r0⟩, h1, rfl, rfl⟩ := h
          exact one (cutSV_ok (d := d) (d' := d.push ys) rfl rfl hv hv0) (cutTs_ok hn r _ (t + 1) _ _ h1 hr)
        · cases h
    · simp only [Option.map_eq_some_iff, Prod.mk.injEq] at h
      obtain ⟨⟨es0, r0⟩, h1, rfl, rfl⟩ := h
      exact one trivial (cutTs_ok hn r n (t + 1) _ _ h1 hr)

/-- A block of the head, and the one that it comes of. -/
theorem cutHs_reg {n0 : Nat} {A : Ann} (h2 : Alike2 n0 d d') : ∀ (l : List (Option Reg)) (n id : Nat) (es : List E) (l' : List (Option Reg)), cutHs n0 m A n id l = some (es, l') → At d d' n es →
    ∀ i r', getH l' i = some r' → ∃ r, getH l i = some r ∧ r'.own = r.own ∧ r'.ty = r.ty ∧ r'.cs.map (Cell.den d') = r.cs.map (Cell.den d)
  | [], _, _, es, l', h, _ => by
    simp only [cutHs, Option.some.injEq, Prod.mk.injEq] at h
    rw [← h.2]
    exact fun i r' hr => by rw [getH_nil] at hr; cases hr
  | g :: r, n, id, es, l', h, hA => by
    have one : ∀ {g' : Option Reg} {r' : List (Option Reg)}, (∀ q', g' = some q' → ∃ q, g = some q ∧ q'.own = q.own ∧ q'.ty = q.ty ∧ q'.cs.map (Cell.den d') = q.cs.map (Cell.den d)) →
        (∀ i q', getH r' i = some q' → ∃ q, getH r i = some q ∧ q'.own = q.own ∧ q'.ty = q.ty ∧ q'.cs.map (Cell.den d') = q.cs.map (Cell.den d)) →
        ∀ i q', getH (g' :: r') i = some q' → ∃ q, getH (g :: r) i = some q ∧ q'.own = q.own ∧ q'.ty = q.ty ∧ q'.cs.map (Cell.den d') = q.cs.map (Cell.den d) := fun h1 h2 i q' hq => by
      cases i with
      | zero => exact h1 q' hq
      | succ i => exact h2 i q' hq
    cases g with
    | none =>
      simp only [cutHs, Option.map_eq_some_iff, Prod.mk.injEq] at h
      obtain ⟨⟨es0, r0⟩, h1, rfl, rfl⟩ := h
      exact one (fun q' hq => by cases hq) (cutHs_reg h2 r n (id + 1) _ _ h1 hA)
    | some g =>
      simp only [cutHs] at h
      cases c2 : memN id A.hs <;> simp only [c2, cond_false, cond_true] at h
      · simp only [Option.map_eq_some_iff, Prod.mk.injEq] at h
        obtain ⟨⟨es0, r0⟩, h1, rfl, rfl⟩ := h
        refine one (fun q' hq => ?_) (cutHs_reg h2 r n (id + 1) _ _ h1 hA)
        cases c3 : (g.cs.all (·.sc n0 m)) <;> simp only [c3, cond_false, cond_true] at hq
        · cases hq
        · cases hq
          exact ⟨g, rfl, rfl, rfl, h2.cells c3⟩
      · split at h
        · rename_i es0 cs' hv
          simp only [Option.map_eq_some_iff, Prod.mk.injEq] at h
          obtain ⟨⟨es1, r0⟩, h1, rfl, rfl⟩ := h
          refine one (fun q' hq => ?_) (cutHs_reg h2 r _ (id + 1) _ _ h1 hA.right)
          cases hq
          exact ⟨g, rfl, rfl, rfl, cutCs_den h2.Φ h2.l h2.α _ _ _ _ hv hA.left⟩
        · cases h

theorem cutHs_has {n0 : Nat} {A : Ann} : ∀ (l : List (Option Reg)) (n id : Nat) (es : List E) (l' : List (Option Reg)), cutHs n0 m A n id l = some (es, l') → l.all (regSc n0 m) = true →
    l'.length = l.length ∧ Has l l'
  | [], _, _, es, l', h, _ => by
    simp only [cutHs, Option.some.injEq, Prod.mk.injEq] at h
    rw [← h.2]
    exact ⟨rfl, Has.refl _⟩
  | g :: r, n, id, es, l', h, hA => by
    simp only [List.all_cons, Bool.and_eq_true] at hA
    have one : ∀ {g' : Option Reg} {r' : List (Option Reg)}, (g.isSome = true → g'.isSome = true) → (r'.length = r.length ∧ Has r r') → (g' :: r').length = (g :: r).length ∧ Has (g :: r) (g' :: r') := fun h1 h2 =>
      ⟨by simp [h2.1], fun i hi => by
        cases i with
        | zero => exact h1 hi
        | succ i => exact h2.2 i hi⟩
    cases g with
    | none =>
      simp only [cutHs, Option.map_eq_some_iff, Prod.mk.injEq] at h
      obtain ⟨⟨es0, r0⟩, h1, rfl, rfl⟩ := h
      exact one (fun h => h) (cutHs_has r n _ _ _ h1 hA.2)
    | some g =>
      simp only [cutHs] at h
      cases c2 : memN id A.hs <;> simp only [c2, cond_false, cond_true] at h
      · simp only [Option.map_eq_some_iff, Prod.mk.injEq] at h
        obtain ⟨⟨es0, r0⟩, h1, rfl, rfl⟩ := h
        refine one (fun _ => ?_) (cutHs_has r n _ _ _ h1 hA.2)
        have : (g.cs.all (·.sc n0 m)) = true := hA.1
        rw [this]; rfl
      · split at h
        · rename_i es0 cs' hv
          simp only [Option.map_eq_some_iff, Prod.mk.injEq] at h
          obtain ⟨⟨es1, r0⟩, h1, rfl, rfl⟩ := h
          exact one (fun _ => rfl) (cutHs_has r _ _ _ _ h1 hA.2)
        · cases h

theorem cutHs_ok {n0 : Nat} {A : Ann} (hn : n0 ≤ d.ρ.i.length) {ys : List Int} {hp : List (Option Reg)} : ∀ (l : List (Option Reg)) (n id : Nat) (es : List E) (l' : List (Option Reg)), cutHs n0 m A n id l = some (es, l') →
    (∀ i r, getH l i = some r → ∀ c ∈ r.cs, c.ok d hp) → ∀ i r, getH l' i = some r → ∀ c ∈ r.cs, c.ok (d.push ys) hp
  | [], _, _, es, l', h, hA => by
    simp only [cutHs, Option.some.injEq, Prod.mk.injEq] at h
    rw [← h.2]
    exact fun i r hr => by rw [getH_nil] at hr; cases hr
  | g :: r, n, id, es, l', h, hA => by
    have hr : ∀ i q, getH r i = some q → ∀ c ∈ q.cs, c.ok d hp := fun i q hq => hA (i + 1) q hq
    have one : ∀ {g' : Option Reg} {r' : List (Option Reg)}, (∀ q, g' = some q → ∀ c ∈ q.cs, c.ok (d.push ys) hp) → (∀ i q, getH r' i = some q → ∀ c ∈ q.cs, c.ok (d.push ys) hp) →
        ∀ i q, getH (g' :: r') i = some q → ∀ c ∈ q.cs, c.ok (d.push ys) hp := fun h1 h2 i q hq => by
      cases i with
      | zero => exact h1 q hq
      | succ i => exact h2 i q hq
    cases g with
    | none =>
      simp only [cutHs, Option.map_eq_some_iff, Prod.mk.injEq] at h
      obtain ⟨⟨es0, r0⟩, h1, rfl, rfl⟩ := h
      exact one (fun q hq => by cases hq) (cutHs_ok hn r n _ _ _ h1 hr)
    | some g =>
      have hg := hA 0 g rfl
      simp only [cutHs] at h
      cases c2 : memN id A.hs <;> simp only [c2, cond_false, cond_true] at h
      · simp only [Option.map_eq_some_iff, Prod.mk.injEq] at h
        obtain ⟨⟨es0, r0⟩, h1, rfl, rfl⟩ := h
        refine one (fun q hq => ?_) (cutHs_ok hn r n _ _ _ h1 hr)
        cases c3 : (g.cs.all (·.sc n0 m)) <;> simp only [c3, cond_false, cond_true] at hq
        · cases hq
        · cases hq
          exact fun c hc => Cell.ok_pushD hn (List.all_eq_true.1 c3 c hc) (hg c hc)
      · split at h
        · rename_i es0 cs' hv
          simp only [Option.map_eq_some_iff, Prod.mk.injEq] at h
          obtain ⟨⟨es1, r0⟩, h1, rfl, rfl⟩ := h
          refine one (fun q hq => ?_) (cutHs_ok hn r _ _ _ _ h1 hr)
          cases hq
          exact cutCs_ok (d := d) (d' := d.push ys) rfl rfl _ _ _ _ hv hg
        · cases h

/-! ### One state says no more than another one -/
theorem Cell.same_eq {a b : Cell} (h : a.same b = true) : a = b := by
  cases a <;> cases b <;> simp only [Cell.same, Bool.false_eq_true, Bool.and_eq_true, decide_eq_true_eq, Nat.beq_eq] at h <;> try rfl
  · rw [h.1, E.eqb_eq _ _ h.2]
  · rw [B.eqb_eq _ _ h]
  · rw [h.1, h.2]
  · rw [h]
  · rw [L.eqb_eq _ _ h]
  · rw [h.1, h.2.1, h.2.2.1, h.2.2.2]
theorem sameCs_eq : ∀ {a b : List Cell}, sameCs a b = true → a = b
  | [], [], _ => rfl
  | a :: r, b :: s, h => by
    simp only [sameCs, Bool.and_eq_true] at h
    rw [Cell.same_eq h.1, sameCs_eq h.2]
  | [], _ :: _, h => by cases h
  | _ :: _, [], h => by cases h
theorem SV.le_is {v v' : SV} (h : v.le v' = true) {x : Value} (hx : v.is d x) : v'.is d x := by
  cases v <;> cases v' <;> first | trivial | (simp only [SV.le, Bool.false_eq_true] at h; done) | skip
  · rw [← Cell.same_eq h]; exact hx
  · rw [← sameCs_eq h]; exact hx
  · rename_i vs ws
    cases vs <;> cases ws <;> first | exact hx | (simp only [SV.le, Bool.false_eq_true] at h; done)
theorem leTs_is : ∀ {l l' : List SV}, leTs l l' = true → l'.length = l.length ∧ ∀ i x, (getT l i).is d x → (getT l' i).is d x
  | [], [], _ => ⟨rfl, fun _ _ h => h⟩
  | a :: r, b :: s, h => by
    simp only [leTs, Bool.and_eq_true] at h
    have := leTs_is h.2
    exact ⟨by simp [this.1], fun i x hx => by
      cases i with
      | zero => exact SV.le_is h.1 hx
      | succ i => exact this.2 i x hx⟩
  | [], _ :: _, h => by cases h
  | _ :: _, [], h => by cases h
theorem leHs_reg : ∀ {l l' : List (Option Reg)}, leHs l l' = true → ∀ i r', getH l' i = some r' → ∃ r, getH l i = some r ∧ r'.own = r.own ∧ r'.ty = r.ty ∧ r'.cs = r.cs
  | l, [], _, i, r', hr => by rw [getH_nil] at hr; cases hr
  | some g :: r, some q :: s, h, i, r', hr => by
    simp only [leHs, Bool.and_eq_true, Nat.beq_eq] at h
    cases i with
    | zero =>
      simp only [getH, Option.some.injEq] at hr
      subst hr
      refine ⟨g, rfl, ?_, h.2.1.symm, (sameCs_eq h.2.2.1).symm⟩
      have := h.1
      revert this
      cases g.own <;> cases q.own <;> simp
    | succ i => exact leHs_reg h.2.2.2 i r' hr
  | some g :: r, none :: s, h, i, r', hr => by
    simp only [leHs] at h
    cases i with
    | zero => cases hr
    | succ i => exact leHs_reg h i r' hr
  | none :: r, none :: s, h, i, r', hr => by
    simp only [leHs] at h
    cases i with
    | zero => cases hr
    | succ i => exact leHs_reg h i r' hr
  | [], _ :: _, h, _, _, _ => by simp [leHs] at h
  | none :: _, some _ :: _, h, _, _, _ => by simp [leHs] at h

/-! ### A state in two denotations -/
def StOk (d : Dn) (S : St) : Prop := (∀ t, (getT S.tmps t).ok d S.heap) ∧ ∀ i r, getH S.heap i = some r → ∀ c ∈ r.cs, c.ok d S.heap

theorem Sat.transfer {S S' : St} (h : Sat X d S a w) (hα : d'.α = d.α) (hl : S'.tmps.length = S.tmps.length) (ht : ∀ t x, (getT S.tmps t).is d x → (getT S'.tmps t).is d' x)
    (hh : ∀ i r', getH S'.heap i = some r' → ∃ r, getH S.heap i = some r ∧ r'.own = r.own ∧ r'.ty = r.ty ∧ r'.cs.map (Cell.den d') = r.cs.map (Cell.den d)) (ho : StOk d' S') : Sat X d' S' a w := by
  refine ⟨h.df, ⟨by rw [hl]; exact h.tm.len, fun t => ht t _ (h.tm.is t), ho.1⟩, ⟨h.hp.bl, fun i r' hr => ?_, fun i j ri rj hi hj oi oj hij => ?_, ho.2⟩⟩
  · obtain ⟨r, h1, h2, h3, h4⟩ := hh i r' hr
    have old := h.hp.reg i r h1
    unfold RegIs at *
    rw [h2, h3, hα]
    split
    · rename_i e; rw [if_pos e] at old; rw [h4]; exact old
    · rename_i e
      rw [if_neg e] at old
      refine ⟨old.1, fun k c hk => ?_⟩
      have : (r.cs.map (Cell.den d))[k]? = some (c.den d') := by rw [← h4, List.getElem?_map, hk]; rfl
      rw [List.getElem?_map, Option.map_eq_some_iff] at this
      obtain ⟨c', hc', e'⟩ := this
      rw [← e']; exact old.2 k c' hc'
  · obtain ⟨qi, h1, h2, _, _⟩ := hh i ri hi
    obtain ⟨qj, h3, h4, _, _⟩ := hh j rj hj
    rw [hα]
    exact h.hp.sep i j qi qj h1 h3 (h2 ▸ oi) (h4 ▸ oj) hij

theorem at_push {n0 : Nat} {es : List E} (hn : d.ρ.i.length = n0) (d1 : Dn) : At d1 (d.push (es.map (E.den d1.Φ d1.ρ))) n0 es := fun j e he => by
  show (d.ρ.i ++ es.map (E.den d1.Φ d1.ρ)).getD (n0 + j) 0 = _
  subst hn
  rw [getD_append_right, List.getD_eq_getElem?_getD, List.getElem?_map, he]; rfl

theorem cutS_split {n0 m : Nat} {A : Ann} {S S1 : St} {es : List E} (h : cutS n0 m A S = some (es, S1)) : ∃ e1 e2, es = e1 ++ e2 ∧ cutTs n0 m A n0 0 S.tmps = some (e1, S1.tmps) ∧ cutHs n0 m A (n0 + e1.length) 0 S.heap = some (e2, S1.heap) := by
  unfold cutS at h
  split at h
  · rename_i e1 ts h1
    simp only [Option.map_eq_some_iff, Prod.mk.injEq] at h
    obtain ⟨⟨e2, hs⟩, h2, rfl, rfl⟩ := h
    exact ⟨e1, e2, rfl, h1, h2⟩
  · cases h

/-- The head is sound, whatever its numbers are. -/
theorem cutS_ok {n0 m : Nat} {A : Ann} {S S1 : St} {es : List E} (h : cutS n0 m A S = some (es, S1)) (hn : n0 ≤ d.ρ.i.length) (hs : S.sc n0 m = true) (hS : Sat X d S a w) (ys : List Int) : StOk (d.push ys) S1 := by
  obtain ⟨e1, e2, rfl, h1, h2⟩ := cutS_split h
  simp only [St.sc, Bool.and_eq_true] at hs
  have hh := cutHs_has _ _ _ _ _ h2 hs.2
  exact ⟨fun t => SV.ok_mono hh.2 (cutTs_ok hn _ _ _ _ _ h1 hS.tm.ok t), fun i r hr c hc => Cell.ok_mono hh.2 (cutHs_ok hn _ _ _ _ _ h2 (fun i r hr => hS.hp.ids i r hr) i r hr c hc)⟩

/-- The state at the head. -/
theorem cutS_enter {n0 m : Nat} {A : Ann} {S S1 : St} {es : List E} (h : cutS n0 m A S = some (es, S1)) (hn : d.ρ.i.length = n0) (hs : S.sc n0 m = true) (hS : Sat X d S a w) :
    Sat X (d.push (es.map (E.den d.Φ d.ρ))) S1 a w := by
  have ho := cutS_ok h (Nat.le_of_eq hn.symm) hs hS (es.map (E.den d.Φ d.ρ))
  have hA := at_push (es := es) hn d
  obtain ⟨e1, e2, rfl, h1, h2⟩ := cutS_split h
  have h3 : Alike2 n0 d (d.push ((e1 ++ e2).map (E.den d.Φ d.ρ))) := ⟨rfl, rfl, rfl, by omega, by simp [Dn.push, Env.pushI]; omega, by
    show (d.ρ.i ++ _).take n0 = _
    rw [List.take_append_of_le_length (by omega)]⟩
  have ht := cutTs_is h3 _ _ _ _ _ h1 hA.left
  exact hS.transfer rfl ht.1 ht.2 (cutHs_reg h3 _ _ _ _ _ h2 hA.right) ho

theorem getH_take : ∀ (l : List (Option Reg)) (k i : Nat) (r : Reg), getH (l.take k) i = some r → getH l i = some r
  | [], k, i, r, h => by simp at h; exact h
  | _ :: _, 0, i, r, h => by simp [getH_nil] at h
  | _ :: _, k + 1, 0, r, h => h
  | _ :: l, k + 1, i + 1, r, h => getH_take l k i r h

/-- The state at the end of a round is one at the head. -/
theorem cutS_again {n0 m k : Nat} {A : Ann} {S S1 S2 : St} {es : List E} {d0 : Dn} {xs : List Int} (h : cutS n0 m A ⟨S.tmps, S.heap.take k⟩ = some (es, S2)) (ht : leTs S2.tmps S1.tmps = true) (hh : leHs S2.heap S1.heap = true)
    (hn : d0.ρ.i.length = n0) (hd : d.Φ = d0.Φ) (hi : d.ρ.i = d0.ρ.i ++ xs) (hl : d.ρ.l = d0.ρ.l) (hS : Sat X d S a w) (ho : ∀ ys, StOk (d0.push ys) S1) :
    Sat X ⟨d0.Φ, d0.ρ.pushI (es.map (E.den d.Φ d.ρ)), d.α⟩ S1 a w := by
  let q : Dn := ⟨d0.Φ, d0.ρ, d.α⟩
  have hA := at_push (es := es) (d := q) hn d
  obtain ⟨e1, e2, rfl, h1, h2⟩ := cutS_split h
  have h3 : Alike2 n0 d (q.push ((e1 ++ e2).map (E.den d.Φ d.ρ))) := ⟨hd.symm, hl.symm, rfl, by rw [hi]; simp; omega, by simp [Dn.push, Env.pushI, q]; omega, by
    show (d0.ρ.i ++ _).take n0 = _
    rw [hi, List.take_append_of_le_length (by omega), List.take_append_of_le_length (by omega)]⟩
  have k1 := cutTs_is h3 _ _ _ _ _ h1 hA.left
  have k2 := leTs_is (d := q.push ((e1 ++ e2).map (E.den d.Φ d.ρ))) ht
  refine hS.transfer (d' := q.push ((e1 ++ e2).map (E.den d.Φ d.ρ))) rfl (k2.1.trans k1.1) (fun t x hx => k2.2 t x (k1.2 t x hx)) (fun i r' hr => ?_) ?_
  · obtain ⟨r2, a1, a2, a3, a4⟩ := leHs_reg hh i r' hr
    obtain ⟨r, b1, b2, b3, b4⟩ := cutHs_reg h3 _ _ _ _ _ h2 hA.right i r2 a1
    exact ⟨r, getH_take _ _ _ _ b1, a2.trans b2, a3.trans b3, by rw [a4]; exact b4⟩
  · exact ho _

/-! ### A tree's numbers grow -/
theorem holds_ext {K : Ex → Bds → St → Env → Prop} : ∀ (t : T) (ρ : Env), t.holds Φ Pr ρ K → t.holds Φ Pr ρ fun x R S ρ' => K x R S ρ' ∧ ∃ zs, ρ' = ρ.pushI zs
  | .fail _, _, h => h
  | .leaf _ _ _, ρ, h => ⟨h, [], by simp [Env.pushI]⟩
  | .ite _ t e, ρ, h => ⟨fun hb => holds_ext t ρ (h.1 hb), fun hb => holds_ext e ρ (h.2 hb)⟩
  | .need _ t, ρ, h => ⟨h.1, holds_ext t ρ h.2⟩
  | .bind e t, ρ, h => holds_mono t _ (holds_ext t _ h) fun x R S ρ' hk => ⟨hk.1, by obtain ⟨zs, rfl⟩ := hk.2; exact ⟨[e.den Φ ρ] ++ zs, by simp [Env.pushI]⟩⟩
  | .call g as n t, ρ, h => holds_mono t _ (holds_ext t _ h) fun x R S ρ' hk => ⟨hk.1, by obtain ⟨zs, rfl⟩ := hk.2; exact ⟨norm n (Φ g (as.denE Φ ρ) (as.denL Φ ρ)).1 ++ zs, by simp [Env.pushI]⟩⟩
  | .again _ _ _ _, _, h => h
  | .loop _ _ _ t, ρ, h => ⟨h.1, h.2.1, fun ys h1 h2 => holds_mono t _ (holds_ext t _ (h.2.2 ys h1 h2)) fun x R S ρ' hk => ⟨hk.1, by obtain ⟨zs, rfl⟩ := hk.2; exact ⟨ys ++ zs, by simp [Env.pushI]⟩⟩⟩
where
  holds_mono {K K' : Ex → Bds → St → Env → Prop} : ∀ (t : T) (ρ : Env), t.holds Φ Pr ρ K → (∀ x R S ρ', K x R S ρ' → K' x R S ρ') → t.holds Φ Pr ρ K'
    | .fail _, _, h, _ => h
    | .leaf _ _ _, _, h, k => k _ _ _ _ h
    | .ite _ t e, ρ, h, k => ⟨fun hb => holds_mono t ρ (h.1 hb) k, fun hb => holds_mono e ρ (h.2 hb) k⟩
    | .need _ t, ρ, h, k => ⟨h.1, holds_mono t ρ h.2 k⟩
    | .bind _ t, _, h, k => holds_mono t _ h k
    | .call _ _ _ t, _, h, k => holds_mono t _ h k
    | .again _ _ _ _, _, h, _ => h
    | .loop _ _ _ t, _, h, k => ⟨h.1, h.2.1, fun ys h1 h2 => holds_mono t _ (h.2.2 ys h1 h2) k⟩

end
end Go.Proofs.Ytmlmdicdblgcfaa.Sx

namespace Go.Proofs.Ytmlmdicdblgcfaa.Sx
open Go Go.RowKit

section
variable {C : Cfg} {X : Ctx} {d : Dn} {w : World} {a : Act} {Pr : Pres} {Φ : Fns}

/-! ### Two branches become one -/
theorem mergeC_same {b : B} {side : Bool} (hb : b.den d.Φ d.ρ = side) {x y c : Cell} (h : mergeC b x y = some c) : SameC d (bif side then x else y) c := by
  unfold mergeC at h
  split at h
  · rename_i k e k' e'
    cases hk : decide (k = k') <;> simp only [hk, cond_false, cond_true] at h
    · cases h
    · cases h
      have hk := of_decide_eq_true hk
      subst hk
      cases he : e.eqb e' <;> simp only [cond_false, cond_true]
      · cases side <;> exact ⟨by simp [Cell.den, E.den, hb], fun _ _ => trivial⟩
      · have := E.eqb_eq e e' he
        subst this
        cases side <;> exact SameC.refl _ _
  · rename_i c c'
    cases h
    cases he : c.eqb c' <;> simp only [cond_false, cond_true]
    · cases side <;> exact ⟨by simp [Cell.den, mkOr_den, mkAnd_den, mkNot_den, hb], fun _ _ => trivial⟩
    · have := B.eqb_eq c c' he
      subst this
      cases side <;> exact SameC.refl _ _
  · rename_i i o i' o'
    cases hk : Nat.beq i i' && Nat.beq o o' <;> simp only [hk, cond_false, cond_true] at h
    · cases h
    · cases h
      simp only [Bool.and_eq_true, Nat.beq_eq] at hk
      obtain ⟨rfl, rfl⟩ := hk
      cases side <;> exact SameC.refl _ _
  · cases h; cases side <;> exact SameC.refl _ _
  · cases h; cases side <;> exact SameC.refl _ _
  · rename_i f f'
    cases hk : Nat.beq f f' <;> simp only [hk, cond_false, cond_true] at h
    · cases h
    · cases h
      simp only [Nat.beq_eq] at hk
      subst hk
      cases side <;> exact SameC.refl _ _
  · rename_i l l'
    cases hk : l.eqb l' <;> simp only [hk, cond_false, cond_true] at h
    · cases h
    · cases h
      have := L.eqb_eq l l' hk
      subst this
      cases side <;> exact SameC.refl _ _
  · cases h

theorem mergeCs_same {b : B} {side : Bool} (hb : b.den d.Φ d.ρ = side) : ∀ {xs ys cs : List Cell}, mergeCs b xs ys = some cs → SameCs d (bif side then xs else ys) cs
  | [], [], cs, h => by
    simp only [mergeCs, Option.some.injEq] at h
    subst h
    cases side <;> exact trivial
  | x :: xs, y :: ys, cs, h => by
    simp only [mergeCs] at h
    split at h
    · rename_i c cs' h1 h2
      cases h
      have q1 := mergeC_same hb h1
      have q2 := mergeCs_same hb h2
      cases side <;> exact ⟨q1, q2⟩
    · cases h
  | [], _ :: _, _, h => by cases h
  | _ :: _, [], _, h => by cases h

theorem mergeV_is {b : B} {side : Bool} (hb : b.den d.Φ d.ρ = side) {x y : SV} {v : Value} (h : (bif side then x else y).is d v) : (mergeV b x y).is d v := by
  unfold mergeV
  split
  · rename_i c c'
    split
    · rename_i q hq
      have := mergeC_same hb hq
      cases side <;> (simp only [cond_false, cond_true, SV.is] at *; rw [h, this.1])
    · trivial
  · rename_i cs cs'
    split
    · rename_i q hq
      have := mergeCs_same hb hq
      cases side <;> (simp only [cond_false, cond_true, SV.is] at *; rw [h, this.map])
    · trivial
  · cases side <;> exact h
  · trivial

theorem mergeV_ok {b : B} {side : Bool} (hb : b.den d.Φ d.ρ = side) {x y : SV} {hp : List (Option Reg)} (h : (bif side then x else y).ok d hp) : (mergeV b x y).ok d hp := by
  unfold mergeV
  split
  · rename_i c c'
    split
    · rename_i q hq
      have := mergeC_same hb hq
      cases side <;> exact this.2 hp h
    · trivial
  · rename_i cs cs'
    split
    · rename_i q hq
      have := mergeCs_same hb hq
      cases side <;> exact this.ok h
    · trivial
  · cases side <;> exact h
  · trivial

theorem mergeT_get {b : B} : ∀ {ts us l : List SV}, mergeT b ts us = some l → l.length = ts.length ∧ l.length = us.length ∧ ∀ t, getT l t = mergeV b (getT ts t) (getT us t)
  | [], [], l, h => by
    simp only [mergeT, Option.some.injEq] at h
    subst h
    exact ⟨rfl, rfl, fun t => by rw [getT_nil]; rfl⟩
  | x :: xs, y :: ys, l, h => by
    simp only [mergeT, Option.map_eq_some_iff] at h
    obtain ⟨l', h1, rfl⟩ := h
    obtain ⟨h2, h3, h4⟩ := mergeT_get h1
    exact ⟨by simp [h2], by simp [h3], fun t => by
      cases t with
      | zero => rfl
      | succ t => exact h4 t⟩
  | [], _ :: _, _, h => by cases h
  | _ :: _, [], _, h => by cases h

def HMerge (b : B) (x y z : Option Reg) : Prop :=
  (∃ r q cs, x = some r ∧ y = some q ∧ r.own = q.own ∧ r.ty = q.ty ∧ mergeCs b r.cs q.cs = some cs ∧ z = some { r with cs := cs }) ∨ (x = none ∧ y = none ∧ z = none)

theorem mergeH_get {b : B} : ∀ {xs ys l : List (Option Reg)}, mergeH b xs ys = some l → l.length = xs.length ∧ l.length = ys.length ∧ ∀ k, HMerge b (getH xs k) (getH ys k) (getH l k)
  | [], [], l, h => by
    simp only [mergeH, Option.some.injEq] at h
    subst h
    exact ⟨rfl, rfl, fun k => .inr ⟨getH_nil k, getH_nil k, getH_nil k⟩⟩
  | some r :: xs, some q :: ys, l, h => by
    simp only [mergeH] at h
    cases hc : (bif r.own then q.own else !q.own) && Nat.beq r.ty q.ty <;> simp only [hc, cond_false, cond_true] at h
    · cases h
    · split at h
      · rename_i cs hs h1 h2
        cases h
        obtain ⟨i1, i2, i3⟩ := mergeH_get h2
        simp only [Bool.and_eq_true, Nat.beq_eq] at hc
        refine ⟨by simp [i1], by simp [i2], fun k => ?_⟩
        cases k with
        | zero =>
          refine .inl ⟨r, q, cs, rfl, rfl, ?_, hc.2, h1, rfl⟩
          have := hc.1
          revert this
          cases r.own <;> cases q.own <;> simp
        | succ k => exact i3 k
      · cases h
  | [], _ :: _, _, h => by simp [mergeH] at h
  | none :: _, _, _, h => by simp [mergeH] at h
  | some _ :: _, [], _, h => by simp [mergeH] at h
  | some _ :: _, none :: _, _, h => by simp [mergeH] at h

theorem RegIs.congr {id : Nat} {r r' : Reg} (h : RegIs X d id r w) (ho : r'.own = r.own) (ht : r'.ty = r.ty) (hc : r'.cs.map (Cell.den d) = r.cs.map (Cell.den d)) : RegIs X d id r' w := by
  unfold RegIs at *
  split
  · rename_i h1
    rw [ho] at h1
    rw [if_pos h1] at h
    rw [hc, ht]; exact h
  · rename_i h1
    rw [ho] at h1
    rw [if_neg h1] at h
    refine ⟨h.1, fun i c hi => ?_⟩
    have : (r'.cs.map (Cell.den d))[i]? = some (c.den d) := by rw [List.getElem?_map, hi]; rfl
    rw [hc, List.getElem?_map, Option.map_eq_some_iff] at this
    obtain ⟨c', h2, h3⟩ := this
    rw [← h3]; exact h.2 i c' h2

theorem mergeS_sound {b : B} {side : Bool} (hb : b.den d.Φ d.ρ = side) {S S' M : St} (hm : mergeS b S S' = some M) (h : Sat X d (bif side then S else S') a w) : Sat X d M a w := by
  unfold mergeS at hm
  split at hm
  · rename_i ts hs h1 h2
    cases hm
    obtain ⟨t1, t2, t3⟩ := mergeT_get h1
    obtain ⟨s1, s2, s3⟩ := mergeH_get h2
    have eT : ∀ t, getT (bif side then S else S').tmps t = bif side then getT S.tmps t else getT S'.tmps t := fun t => by cases side <;> rfl
    have back : ∀ k r, getH hs k = some r → ∃ r', getH (bif side then S else S').heap k = some r' ∧ r.own = r'.own ∧ r.ty = r'.ty ∧ SameCs d r'.cs r.cs := fun k r hk => by
      rcases s3 k with ⟨p, q, cs, e1, e2, e3, e4, e5, e6⟩ | ⟨_, _, e3⟩
      · rw [hk] at e6
        cases e6
        have := mergeCs_same hb e5
        cases side
        · exact ⟨q, e2, e3, e4, this⟩
        · exact ⟨p, e1, rfl, rfl, this⟩
      · rw [hk] at e3; cases e3
    have hh : Has (bif side then S else S').heap hs := fun k hk => by
      rcases s3 k with ⟨p, q, cs, e1, e2, e3, e4, e5, e6⟩ | ⟨e1, e2, e3⟩
      · rw [e6]; rfl
      · cases side
        · rw [show getH (bif false then S else S').heap k = none from e2] at hk; cases hk
        · rw [show getH (bif true then S else S').heap k = none from e1] at hk; cases hk
    refine ⟨h.df, ⟨?_, fun t => ?_, fun t => ?_⟩, ⟨h.hp.bl, fun k r hk => ?_, fun i j ri rj hi hj oi oj hij => ?_, fun k r hk c hc => ?_⟩⟩
    · have := h.tm.len
      cases side
      · exact this.trans t2.symm
      · exact this.trans t1.symm
    · have := h.tm.is t
      rw [eT] at this
      rw [t3]
      exact mergeV_is hb this
    · have := h.tm.ok t
      rw [eT] at this
      rw [t3]
      exact mergeV_ok hb (SV.ok_mono hh this)
    · obtain ⟨r', q1, q2, q3, q4⟩ := back k r hk
      exact (h.hp.reg k r' q1).congr q2 q3 q4.map
    · obtain ⟨ri', a1, a2, _, _⟩ := back i ri hi
      obtain ⟨rj', b1, b2, _, _⟩ := back j rj hj
      exact h.hp.sep i j ri' rj' a1 b1 (a2 ▸ oi) (b2 ▸ oj) hij
    · obtain ⟨r', q1, q2, q3, q4⟩ := back k r hk
      exact q4.ok (fun c hc => Cell.ok_mono hh (h.hp.ids k r' q1 c hc)) c hc
  · cases hm

/-! ### Code -/
def Ex.exit' : Ex → Exit
  | .normal => .normal
  | .exit id => .exit id
  | .goto l => .goto l
  | .ret => .ret

theorem seq_holds {f : Ex → Bds → St → T} {K : Ex → Bds → St → Env → Prop} : ∀ (t : T) (ρ : Env), (t.seq f).holds Φ Pr ρ K → t.holds Φ Pr ρ fun x R S ρ => (f x R S).holds Φ Pr ρ K
  | .fail _, _, h => h
  | .leaf _ _ _, _, h => h
  | .ite _ t e, ρ, h => ⟨fun hb => seq_holds t ρ (h.1 hb), fun hb => seq_holds e ρ (h.2 hb)⟩
  | .need _ t, ρ, h => ⟨h.1, seq_holds t ρ h.2⟩
  | .bind _ t, _, h => seq_holds t _ h
  | .call _ _ _ t, _, h => seq_holds t _ h
  | .again _ _ _ _, _, h => h
  | .loop _ _ _ t, _, h => ⟨h.1, h.2.1, fun ys h1 h2 => seq_holds t _ (h.2.2 ys h1 h2)⟩

/-- What follows from the leaves. -/
def Fin (X : Ctx) (Φ : Fns) (K : Ex → Bds → St → Env → Prop) (Q : Exit → Act → World → Prop) : Prop :=
  ∀ (x : Ex) (R : Bds) (S : St) (d : Dn) (a : Act) (w : World), d.Φ = Φ → RV d.Φ R d.ρ → Sat X d S a w → K x R S d.ρ → Q x.exit' a w

/-- A loop that has begun. -/
def LoopWp (P : Program) (c : Code) (Q : Exit → Act → World → Prop) (a : Act) (w : World) : Prop :=
  ∀ (b : Frame) (k : List Go.Item) (cs : List Frame), ∃ e a' w', Q e a' w' ∧ Arrives P (lone (b.at a (.code c :: .inLoop c :: k)) cs w) b k cs e a' w'

theorem LoopWp.wp {P : Program} {c : Code} {Q : Exit → Act → World → Prop} (h : LoopWp P c Q a w) : (Code.loop c).wp P Q a w := fun b k cs => by
  obtain ⟨e, a', w', hq, harr⟩ := h b k cs
  exact ⟨e, a', w', hq, .of_steps (.one step_loop) harr⟩

theorem LoopWp.round {P : Program} {c : Code} {Q : Exit → Act → World → Prop} (h : c.wp P (Exit.then (LoopWp P c Q) Q) a w) : LoopWp P c Q a w := fun b k cs => by
  obtain ⟨e, a₁, w₁, hq, harr⟩ := h b (.inLoop c :: k) cs
  cases e with
  | normal =>
    obtain ⟨e₂, a₂, w₂, hq₂, harr₂⟩ := hq b k cs
    exact ⟨e₂, a₂, w₂, hq₂, .of_steps (Steps.trans harr (.one step_inLoop)) harr₂⟩
  | exit id => exact ⟨_, a₁, w₁, hq, .pass (x := .inLoop c) rfl (fun _ _ => .inl (by simp)) harr⟩
  | goto l => exact ⟨_, a₁, w₁, hq, .pass (x := .inLoop c) rfl (fun _ _ => .inl (by simp)) harr⟩
  | ret => exact ⟨_, a₁, w₁, hq, .pass (x := .inLoop c) rfl (fun _ _ => .inl (by simp)) harr⟩
  | panic ch => exact ⟨_, a₁, w₁, hq, .pass (x := .inLoop c) rfl (fun _ _ => .inl (by simp)) harr⟩
  | outgrown => exact ⟨_, a₁, w₁, hq, .pass (x := .inLoop c) rfl (fun _ _ => .inl (by simp)) harr⟩

theorem LoopWp.ghost {P : Program} {c : Code} {Q : Exit → Act → World → Prop} (I : Nat → Act → World → Prop)
    (round : ∀ n a w, I n a w → c.wp P (Exit.then (fun a' w' => ∃ n', n' < n ∧ I n' a' w') Q) a w) : ∀ n a w, I n a w → LoopWp P c Q a w := by
  intro n
  induction n using Nat.strongRecOn with
  | _ n ih =>
    intro a w h
    refine LoopWp.round (wp_mono (round n a w h) fun e a' w' hq => ?_)
    cases e with
    | normal => obtain ⟨n', h1, h2⟩ := hq; exact ih n' h1 a' w' h2
    | _ => exact hq

/-- What a run proves of its code. -/
def Goal (P : Program) (c : Code) (Q : Exit → Act → World → Prop) (a : Act) (w : World) : Prop := match c with
  | .loop x => LoopWp P x Q a w
  | c => c.wp P Q a w
theorem Goal.wp {P : Program} {c : Code} {Q : Exit → Act → World → Prop} (h : Goal P c Q a w) : c.wp P Q a w := by
  unfold Goal at h
  split at h
  · exact h.wp
  · exact h

/-! ### A round -/
/-- What a piece of code proves of its tree. -/
def Proves (X : Ctx) (Φ : Fns) (Pr : Pres) (P : Program) (c : Code) (body : Bds → St → T) : Prop :=
  ∀ (K : Ex → Bds → St → Env → Prop) (Q : Exit → Act → World → Prop), Fin X Φ K Q →
    ∀ (R : Bds) (S : St) (d : Dn) (a : Act) (w : World), d.Φ = Φ → RV d.Φ R d.ρ → Sat X d S a w → (body R S).holds Φ Pr d.ρ K → c.wp P Q a w

/-- At the head, n rounds at most ahead. -/
def Turn (X : Ctx) (Φ : Fns) (Pr : Pres) (A : Ann) (body : Bds → St → T) (ag : Ex → Bool) (K : Ex → Bds → St → Env → Prop) (n : Nat) (a : Act) (w : World) : Prop :=
  ∃ (R : Bds) (d : Dn) (S1 : St) (ys : List Int), d.Φ = Φ ∧ RV d.Φ R d.ρ ∧ (R.p.all fun q => q.1.sc R.i.length R.l.length) = true ∧ allHas A.rs ys ∧ Pr.inv A.k d.ρ.i ys ∧ n = Pr.mu A.k d.ρ.i ys ∧ Sat X (d.push ys) S1 a w ∧
    (∀ ys, StOk (d.push ys) S1) ∧
    ∀ ys, allHas A.rs ys → Pr.inv A.k d.ρ.i ys → ((body (R.push A.rs) S1).seq (againT A R.i.length R.l.length S1 ag)).holds Φ Pr (d.ρ.pushI ys) K

theorem turn_enter {A : Ann} {R : Bds} {S : St} {body : Bds → St → T} {ag : Ex → Bool} {K : Ex → Bds → St → Env → Prop} (hd : d.Φ = Φ) (hR : RV d.Φ R d.ρ) (h : Sat X d S a w)
    (ht : (loopT A R S body ag).holds Φ Pr d.ρ K) : ∃ n, Turn X Φ Pr A body ag K n a w := by
  subst hd
  unfold loopT at ht
  split at ht
  · rename_i es S1 hc
    cases c1 : scAll R S <;> simp only [c1, cond_false, cond_true] at ht
    · exact ht.elim
    · simp only [scAll, Bool.and_eq_true] at c1
      exact ⟨_, R, d, S1, es.map (E.den d.Φ d.ρ), rfl, hR, c1.2, ht.1, ht.2.1, rfl, cutS_enter hc hR.li c1.1 h, fun ys => cutS_ok hc (Nat.le_of_eq hR.li.symm) c1.1 h ys, ht.2.2⟩
  · exact ht.elim

theorem turn_round {P : Program} {c : Code} {A : Ann} {body : Bds → St → T} {ag : Ex → Bool} {K : Ex → Bds → St → Env → Prop} {Q Q' : Exit → Act → World → Prop} (hb : Proves X Φ Pr P c body) (hF : Fin X Φ K Q)
    {n : Nat} (hQ : ∀ (x : Ex) a w, ((ag x = true ∧ ∃ n', n' < n ∧ Turn X Φ Pr A body ag K n' a w) ∨ (ag x = false ∧ Q x.exit' a w)) → Q' x.exit' a w) (ht : Turn X Φ Pr A body ag K n a w) : c.wp P Q' a w := by
  obtain ⟨R, d, S1, ys, hd, hR, hp, h1, h2, hn, hS, ho, hB⟩ := ht
  have hR' : RV d.Φ (R.push A.rs) (d.ρ.pushI ys) := hR.push h1 hp
  have hh := holds_ext _ _ (hB ys h1 h2)
  subst hd
  refine hb _ Q' ?_ (R.push A.rs) S1 (d.push ys) a w rfl hR' hS (holds_ext _ _ (seq_holds _ _ (hB ys h1 h2)))
  intro x R' S' d' a' w' hd' hR'' hS' hk
  obtain ⟨hk, zs, hz⟩ := hk
  refine hQ x a' w' ?_
  simp only [againT] at hk
  cases hx : ag x <;> simp only [hx, cond_false, cond_true] at hk
  · exact .inr ⟨rfl, hF x R' S' d' a' w' hd' hR'' hS' hk⟩
  · refine .inl ⟨rfl, ?_⟩
    split at hk
    · rename_i es S2 hc
      cases c1 : (leTs S2.tmps S1.tmps && leHs S2.heap S1.heap) <;> simp only [c1, cond_false, cond_true] at hk
      · exact hk.elim
      · simp only [Bool.and_eq_true] at c1
        obtain ⟨k1, k2, k3⟩ := hk
        have e1 : d'.ρ.i = d.ρ.i ++ (ys ++ zs) := by rw [hz]; simp [Env.pushI, Dn.push]
        have e2 : d'.ρ.l = d.ρ.l := by rw [hz]; rfl
        have e3 : d'.ρ.i.take R.i.length = d.ρ.i := by rw [e1, List.take_append_of_le_length (by rw [hR.li]; exact Nat.le_refl _), ← hR.li, List.take_length]
        have e4 : (d'.ρ.i.drop R.i.length).take A.rs.length = ys := by
          have hl := allHas_length h1
          rw [e1, ← hR.li, List.drop_left, List.take_append_of_le_length (by omega), hl, List.take_length]
        rw [e3] at k2 k3
        rw [e4] at k3
        have hS2 := cutS_again (d := d') hc c1.1 c1.2 hR.li hd' e1 e2 hS' ho
        rw [hd'] at hS2
        subst hn
        refine ⟨_, k3, R, ⟨d.Φ, d.ρ, d'.α⟩, S1, es.map (E.den d.Φ d'.ρ), rfl, hR, hp, k1, k2, rfl, hS2, fun ys => ?_, hB⟩
        have := ho ys
        exact ⟨fun t => stok_α (this.1 t), fun i r hr c hc => cok_α (this.2 i r hr c hc)⟩
    · exact hk.elim
where
  cok_α {c : Cell} {d : Dn} {α : Nat → Nat × Nat} {ys : List Int} {hp : List (Option Reg)} (h : c.ok (d.push ys) hp) : c.ok ((⟨d.Φ, d.ρ, α⟩ : Dn).push ys) hp := by
    cases c <;> exact h
  stok_α {v : SV} {d : Dn} {α : Nat → Nat × Nat} {ys : List Int} {hp : List (Option Reg)} (h : v.ok (d.push ys) hp) : v.ok ((⟨d.Φ, d.ρ, α⟩ : Dn).push ys) hp := by
    cases v with
    | one c => exact cok_α h
    | agg cs => exact fun c hc => cok_α (h c hc)
    | tup vs => exact fun p hp c hc => cok_α (h p hp c hc)
    | any => trivial

theorem exec_sound {F : Fn} (hm : F.C.P.follows .mixedOrders = true) (hC : CTs F.C Φ Pr)
    (hΦ : ∀ g s, sigOf F.C.sigs g = some s → ∀ xs ls, allHas ((resKds s).map Kd.iv) (norm (resKds s).length (Φ g xs ls).1)) :
    ∀ (f : Nat) (c : Code) (K : Ex → Bds → St → Env → Prop) (Q : Exit → Act → World → Prop), Fin X Φ K Q →
      ∀ (R : Bds) (S : St) (d : Dn) (a : Act) (w : World), d.Φ = Φ → RV d.Φ R d.ρ → Sat X d S a w → (exec F f c R S).holds d.Φ Pr d.ρ K → Goal F.C.P c Q a w := by
  intro f
  induction f with
  | zero => intro c K Q hF R S d a w hd hR h ht; exact ht.elim
  | succ f ih =>
    intro c K Q hF R S d a w hd hR h ht
    cases c with
    | skip => exact wp_skip (hF .normal R S d a w hd hR h ht)
    | label l => exact wp_label (hF .normal R S d a w hd hR h ht)
    | region id ops draw => exact regionT_sound (fin := .leaf .normal) (K := K) hm hC hΦ (fun R S d a w hd hR h (ht : K .normal R S d.ρ) => hF .normal R S d a w hd hR h ht) hd hR h ht
    | seq x y =>
      subst hd
      refine wp_seq (ih x _ _ ?_ R S d a w rfl hR h (seq_holds _ _ ht)).wp
      intro e R' S' d' a' w' hd' hR' h' ht'
      cases e with
      | normal => exact (ih y K Q hF R' S' d' a' w' hd' hR' h' (by rw [hd']; exact ht')).wp
      | exit id => exact hF (.exit id) R' S' d' a' w' hd' hR' h' ht'
      | goto l => exact hF (.goto l) R' S' d' a' w' hd' hR' h' ht'
      | ret => exact hF .ret R' S' d' a' w' hd' hR' h' ht'
    | cond c x y =>
      simp only [exec] at ht
      split at ht
      · rename_i t hc
        have hv : a.eval c = .bool (t.den d.Φ d.ρ) := h.tm.reads.is c _ hc
        split at ht
        · rename_i hk
          rw [known_ok hR t true hk] at hv
          exact wp_cond_true hv (ih x K Q hF R S d a w hd hR h ht).wp
        · rename_i hk
          rw [known_ok hR t false hk] at hv
          exact wp_cond_false hv (ih y K Q hF R S d a w hd hR h ht).wp
        · refine wp_cond_split hv (fun hb => ?_) (fun hb => ?_)
          · have hR' := hR.assume t true hb
            unfold mergeL at ht
            split at ht
            · rename_i R1 S1 R2 S2 e1 e2
              split at ht
              · rename_i M hM
                refine (ih x (fun x' _ S' ρ' => x' = .normal ∧ S' = S1 ∧ ρ' = d.ρ) Q ?_ _ S d a w hd hR' h (by rw [e1]; exact ⟨rfl, rfl, rfl⟩)).wp
                rintro x' R' S' d' a' w' hd' hR'' h' ⟨rfl, rfl, hρ⟩
                have hM' := mergeS_sound (side := true) (by rw [hd', hρ, ← hd]; exact hb) hM h'
                have hΦ' : d'.Φ = d.Φ := hd'.trans hd.symm
                obtain ⟨R3, S3, d3, k1, k2, k3, _, k4⟩ := bindT_sound (Pr := Pr) (K := K) 200 R _ M d' (by rw [hΦ', hρ]; exact hR) hM' (by rw [hΦ', hρ]; exact ht)
                exact hF .normal R3 S3 d3 a' w' (k1.trans hd') k2 k3 k4
              · exact (ih x K Q hF _ S d a w hd hR' h (ht.1 hb)).wp
            · exact (ih x K Q hF _ S d a w hd hR' h (ht.1 hb)).wp
          · have hR' := hR.assume t false hb
            unfold mergeL at ht
            split at ht
            · rename_i R1 S1 R2 S2 e1 e2
              split at ht
              · rename_i M hM
                refine (ih y (fun x' _ S' ρ' => x' = .normal ∧ S' = S2 ∧ ρ' = d.ρ) Q ?_ _ S d a w hd hR' h (by rw [e2]; exact ⟨rfl, rfl, rfl⟩)).wp
                rintro x' R' S' d' a' w' hd' hR'' h' ⟨rfl, rfl, hρ⟩
                have hM' := mergeS_sound (side := false) (by rw [hd', hρ, ← hd]; exact hb) hM h'
                have hΦ' : d'.Φ = d.Φ := hd'.trans hd.symm
                obtain ⟨R3, S3, d3, k1, k2, k3, _, k4⟩ := bindT_sound (Pr := Pr) (K := K) 200 R _ M d' (by rw [hΦ', hρ]; exact hR) hM' (by rw [hΦ', hρ]; exact ht)
                exact hF .normal R3 S3 d3 a' w' (k1.trans hd') k2 k3 k4
              · exact (ih y K Q hF _ S d a w hd hR' h (ht.2 hb)).wp
            · exact (ih y K Q hF _ S d a w hd hR' h (ht.2 hb)).wp
      · exact ht.elim
    | block id x =>
      subst hd
      refine wp_block (ih x _ _ ?_ R S d a w rfl hR h (seq_holds _ _ ht)).wp
      intro e R' S' d' a' w' hd' hR' h' ht'
      cases e with
      | normal => exact hF .normal R' S' d' a' w' hd' hR' h' ht'
      | exit j =>
        simp only at ht'
        show Exit.inBlock id Q (.exit j) a' w'
        unfold Exit.inBlock
        simp only
        cases hj : Nat.beq j id <;> simp only [hj, cond_false, cond_true] at ht'
        · rw [if_neg (by intro e; subst e; simp at hj)]
          exact hF (.exit j) R' S' d' a' w' hd' hR' h' ht'
        · rw [if_pos (by simpa using hj)]
          exact hF .normal R' S' d' a' w' hd' hR' h' ht'
      | goto l => exact hF (.goto l) R' S' d' a' w' hd' hR' h' ht'
      | ret => exact hF .ret R' S' d' a' w' hd' hR' h' ht'
    | loop x =>
      subst hd
      show LoopWp _ _ _ _ _
      simp only [exec] at ht
      split at ht
      · rename_i A hA
        obtain ⟨n, hn⟩ := turn_enter rfl hR h ht
        refine LoopWp.ghost (Turn X d.Φ Pr A (exec F f x) Ex.isNormal K) (fun n a w hT => turn_round (Q := Q) (fun K' Q'' hF' R S d' a w hd' hR' h' ht' => (ih x K' Q'' hF' R S d' a w hd' hR' h' (by rw [hd']; exact ht')).wp) hF ?_ hT) n a w hn
        rintro x' a' w' (⟨h1, h2⟩ | ⟨h1, h2⟩)
        · cases x' <;> simp only [Ex.isNormal, Bool.false_eq_true] at h1
          exact h2
        · cases x' <;> simp only [Ex.isNormal, Bool.true_eq_false] at h1 <;> exact h2
      · refine LoopWp.round (ih x _ (Exit.then (LoopWp F.C.P x Q) Q) ?_ R S d a w rfl hR h (seq_holds _ _ ht)).wp
        intro e R' S' d' a' w' hd' hR' h' ht'
        cases e with
        | normal => exact ih (.loop x) K Q hF R' S' d' a' w' hd' hR' h' (by rw [hd']; exact ht')
        | exit id => exact hF (.exit id) R' S' d' a' w' hd' hR' h' ht'
        | goto l => exact hF (.goto l) R' S' d' a' w' hd' hR' h' ht'
        | ret => exact hF .ret R' S' d' a' w' hd' hR' h' ht'
    | scope x =>
      subst hd
      show Code.wp _ _ _ _ _
      simp only [exec] at ht
      have ht := seq_holds _ _ ht
      by_cases hl : ∃ l rest A, labelOf x = some l ∧ findLabel x l = some rest ∧ annOf F.anns (1000000 + l) = some A
      · obtain ⟨l, rest, A, h1, h2, h3⟩ := hl
        let K' : Ex → Bds → St → Env → Prop := fun x R S ρ => (noGotoT x R S).holds d.Φ Pr ρ K
        let J : Nat → Act → World → Prop := Turn X d.Φ Pr A (exec F f rest) (Ex.isGoto l) K'
        have hF' : Fin X d.Φ K' (Exit.noGoto Q) := fun x R S d' a w hd hR h ht => by
          cases x with
          | goto j => exact ht.elim
          | normal => exact hF .normal R S d' a w hd hR h ht
          | exit id => exact hF (.exit id) R S d' a w hd hR h ht
          | ret => exact hF .ret R S d' a w hd hR h ht
        refine wp_scope_jumps (P := F.C.P) (Q := Q) l (fun a w => ∃ n, J n a w) (fun a w => leastOf fun n => J n a w) h2 ?_ fun a w hJ => ?_
        · refine (ih x _ (Exit.jump l (fun a w => ∃ n, J n a w) Q) ?_ R S d a w rfl hR h ht).wp
          intro x' R' S' d' a' w' hd' hR' h' ht'
          cases x' with
          | goto j =>
            simp only [h1] at ht'
            cases hj : decide (some l = some j) <;> simp only [hj, cond_false, cond_true] at ht'
            · exact ht'.elim
            · have hj := of_decide_eq_true hj
              cases hj
              rw [h2, h3] at ht'
              have ht' := seq_holds _ _ ht'
              refine ⟨rfl, turn_enter hd' hR' h' ?_⟩
              exact ht'
          | normal => exact hF .normal R' S' d' a' w' hd' hR' h' ht'
          | exit id => exact hF (.exit id) R' S' d' a' w' hd' hR' h' ht'
          | ret => exact hF .ret R' S' d' a' w' hd' hR' h' ht'
        · refine turn_round (n := leastOf fun n => J n a w) (fun K' Q'' hF' R S d' a w hd' hR' h' ht' => (ih rest K' Q'' hF' R S d' a w hd' hR' h' (by rw [hd']; exact ht')).wp) hF' ?_ (leastOf_spec hJ).1
          rintro x' a' w' (⟨k1, n', k2, k3⟩ | ⟨k1, k2⟩)
          · cases x' <;> simp only [Ex.isGoto, Bool.false_eq_true, Nat.beq_eq] at k1
            exact ⟨k1, ⟨n', k3⟩, Nat.lt_of_le_of_lt ((leastOf_spec ⟨n', k3⟩).2 n' k3) k2⟩
          · cases x' <;> first | exact k2 | exact k2.elim
      · refine wp_scope_straight (ih x _ (Exit.noGoto Q) ?_ R S d a w rfl hR h ht).wp
        intro x' R' S' d' a' w' hd' hR' h' ht'
        cases x' with
        | goto j =>
          simp only at ht'
          cases hj : decide (labelOf x = some j) <;> simp only [hj, cond_false, cond_true] at ht'
          · exact ht'.elim
          · have hj := of_decide_eq_true hj
            split at ht'
            · rename_i rest A e1 e2
              exact (hl ⟨j, rest, A, hj, e1, e2⟩).elim
            · exact ht'.elim
        | normal => exact hF .normal R' S' d' a' w' hd' hR' h' ht'
        | exit id => exact hF (.exit id) R' S' d' a' w' hd' hR' h' ht'
        | ret => exact hF .ret R' S' d' a' w' hd' hR' h' ht'
    | exit id => exact wp_exit (hF (.exit id) R S d a w hd hR h ht)
    | goto l => exact wp_goto (hF (.goto l) R S d a w hd hR h ht)
    | ret => exact wp_ret (hF .ret R S d a w hd hR h ht)
    | _ => exact ht.elim

end
end Go.Proofs.Ytmlmdicdblgcfaa.Sx

namespace Go.Proofs.Ytmlmdicdblgcfaa.Sx
open Go Go.RowKit

def VC.holds (Φ : Fns) (Pr : Pres) (post : List Int → Prop) : VC → Env → Prop
  | .fail _, _ => False
  | .fin as, ρ => post (as.denE Φ ρ)
  | .ite b t e, ρ => (b.den Φ ρ = true → t.holds Φ Pr post ρ) ∧ (b.den Φ ρ = false → e.holds Φ Pr post ρ)
  | .need os t, ρ => OsHold Φ Pr ρ os ∧ t.holds Φ Pr post ρ
  | .bind e t, ρ => t.holds Φ Pr post (ρ.pushI [e.den Φ ρ])
  | .call g as n t, ρ => t.holds Φ Pr post (ρ.pushI (norm n (Φ g (as.denE Φ ρ) (as.denL Φ ρ)).1))
  | .again k n0 rs es, ρ => allHas rs (es.map (E.den Φ ρ)) ∧ Pr.inv k (ρ.i.take n0) (es.map (E.den Φ ρ)) ∧
      Pr.mu k (ρ.i.take n0) (es.map (E.den Φ ρ)) < Pr.mu k (ρ.i.take n0) ((ρ.i.drop n0).take rs.length)
  | .loop k es rs t, ρ => allHas rs (es.map (E.den Φ ρ)) ∧ Pr.inv k ρ.i (es.map (E.den Φ ρ)) ∧
      ∀ ys, allHas rs ys → Pr.inv k ρ.i ys → t.holds Φ Pr post (ρ.pushI ys)

section
variable {C : Cfg} {R : Bds} {X : Ctx} {d : Dn} {w : World} {S : St} {a : Act} {Pr : Pres} {Φ : Fns}

theorem vc_holds {fin : Ex → Bds → St → VC} {post : List Int → Prop} : ∀ (t : T) (ρ : Env), (t.vc fin).holds Φ Pr post ρ → t.holds Φ Pr ρ fun x R S ρ => (fin x R S).holds Φ Pr post ρ
  | .fail _, _, h => h
  | .leaf _ _ _, _, h => h
  | .ite _ t e, ρ, h => ⟨fun hb => vc_holds t ρ (h.1 hb), fun hb => vc_holds e ρ (h.2 hb)⟩
  | .need _ t, ρ, h => ⟨h.1, vc_holds t ρ h.2⟩
  | .bind _ t, _, h => vc_holds t _ h
  | .call _ _ _ t, _, h => vc_holds t _ h
  | .again _ _ _ _, _, h => h
  | .loop _ _ _ t, _, h => ⟨h.1, h.2.1, fun ys h1 h2 => vc_holds t _ (h.2.2 ys h1 h2)⟩

/-! ### What is returned -/
def AllIs (d : Dn) : List SV → List Value → Prop
  | [], [] => True
  | v :: vs, x :: xs => v.is d x ∧ AllIs d vs xs
  | _, _ => False

theorem resAS_spec (hR : RV d.Φ R d.ρ) : ∀ {res : List (Bool × List Kd)} {vs : List SV} {as : AS} {vals : List Value}, resAS R res vs = some as → AllIs d vs vals →
    as.denL d.Φ d.ρ = [] ∧ allHas ((res.flatMap (·.2)).map Kd.iv) (as.denE d.Φ d.ρ) ∧ ∀ pre : List Int, vals = resVals (pre ++ as.denE d.Φ d.ρ) pre.length res
  | [], [], as, [], h, _ => by
    simp only [resAS, Option.some.injEq] at h; subst h
    exact ⟨rfl, trivial, fun _ => rfl⟩
  | [], [], _, _ :: _, _, hv => hv.elim
  | [], _ :: _, _, _, h, _ => by cases h
  | _ :: _, [], _, _, h, _ => by simp [resAS] at h
  | (b, ks) :: res, v :: vs, as, [], h, hv => hv.elim
  | (b, ks) :: res, v :: vs, out, x :: vals, h, hv => by
    have fin : ∀ (cs : List Cell) (as : AS), resAS R res vs = some as → cellsAS R ks cs as = some out → x = compVal b (cs.map (Cell.den d)) →
        out.denL d.Φ d.ρ = [] ∧ allHas ((((b, ks) :: res).flatMap (·.2)).map Kd.iv) (out.denE d.Φ d.ρ) ∧ ∀ pre : List Int, x :: vals = resVals (pre ++ out.denE d.Φ d.ρ) pre.length ((b, ks) :: res) := by
      intro cs as h1 h2 h3
      obtain ⟨xs, i1, i2, i3, i4, i5⟩ := cellsAS_spec hR h2
      obtain ⟨j1, j2, j3⟩ := resAS_spec hR h1 hv.2
      refine ⟨i3.trans j1, by rw [i2, List.flatMap_cons, List.map_append]; exact allHas_append i5 j2, fun pre => ?_⟩
      have e := j3 (pre ++ xs)
      simp only [resVals]
      rw [i2, kdVals_append ks pre.length xs i1 rfl, ← i4, ← h3, e, List.length_append, i1, List.append_assoc]
    cases b with
    | true =>
      cases v with
      | agg cs =>
        simp only [resAS] at h
        split at h
        · rename_i as h1
          exact fin cs as h1 h hv.1
        · cases h
      | _ => cases h
    | false =>
      cases v with
      | one c =>
        simp only [resAS] at h
        split at h
        · rename_i as h1
          exact fin [c] as h1 h hv.1
        · cases h
      | _ => cases h

def rvRun (tmps : Array Value) : ResultVar → Sem Value
  | .tmp t => pure (tmps.getD t undef)
  | .cell q t => do loadVar t (← asAddr (tmps.getD q undef))

theorem results_eq (fn : Func) (tmps : Array Value) : results fn tmps = (do
    let vs ← fn.results.mapM (rvRun tmps)
    pure (if h : vs.size = 1 then vs[0] else .tuple vs)) := by
  unfold results
  congr 2

theorem resVar_run (h : Sat X d S a w) {rv : ResultVar} {sv : SV} (hr : resVar X.P S rv = some sv) :
    ∃ x, (rvRun a.tmps rv).run X.P w = .ok x w ∧ sv.is d x := by
  cases rv with
  | tmp t =>
    simp only [resVar, Option.some.injEq] at hr
    subst hr
    exact ⟨_, rfl, h.tm.is t⟩
  | cell q t =>
    simp only [resVar] at hr
    split at hr
    · rename_i id off hq
      split at hr
      · rename_i r hid
        obtain ⟨y, hy, hy2⟩ := loadVar_run (h.hp.reg _ _ hid) h.hp.bl hr
        have := h.tm.is q
        rw [hq] at this
        simp only [SV.is, Cell.den] at this
        refine ⟨y, ?_, hy2⟩
        simp only [rvRun, Sem.run_bind, this, asAddr, Sem.run_pure, Result.andThen_ok, hy]
      · cases hr
    · cases hr

theorem resVars_run (h : Sat X d S a w) : ∀ {rs : List ResultVar} {vs : List SV}, resVars X.P S rs = some vs →
    ∃ xs, (rs.mapM (rvRun a.tmps)).run X.P w = .ok xs w ∧ AllIs d vs xs
  | [], vs, hr => by
    simp only [resVars, Option.some.injEq] at hr
    subst hr
    exact ⟨[], by rw [List.mapM_nil, Sem.run_pure], trivial⟩
  | r :: rs, vs, hr => by
    simp only [resVars] at hr
    split at hr
    · rename_i x xs h1 h2
      cases hr
      obtain ⟨y, hy1, hy2⟩ := resVar_run h h1
      obtain ⟨ys, hs1, hs2⟩ := resVars_run h h2
      refine ⟨y :: ys, ?_, hy2, hs2⟩
      simp only [List.mapM_cons, Sem.run_bind, hy1, Result.andThen_ok, hs1, Sem.run_pure]
    · cases hr

theorem results_run (h : Sat X d S a w) {fn : Func} {vs : List SV} (hr : resVars X.P S fn.results.toList = some vs) :
    ∃ xs, (results fn a.tmps).run X.P w = .ok (oneOr xs) w ∧ AllIs d vs xs := by
  obtain ⟨xs, h1, h2⟩ := resVars_run h hr
  refine ⟨xs, ?_, h2⟩
  rw [results_eq, Sem.run_bind, Array.mapM_eq_mapM_toList, map_eq_pure_bind, Sem.run_bind, h1]
  simp only [Result.andThen_ok, Sem.run_pure]
  congr 1
  match xs with
  | [] => rfl
  | [v] => rfl
  | _ :: _ :: _ => rfl

/-! ### What it is called with -/
structure InitOk (X : Ctx) (d : Dn) (w : World) (id j : Nat) (ps : List PSh) (args : List Value) : Prop where
  len : args.length = (parSVs j id ps).length
  is : ∀ t, (getT (parSVs j id ps) t).is d (args.getD t undef)
  ok : ∀ hp, (∀ i, i < (parRegs j ps).length → (getH hp (id + i)).isSome = true) → ∀ t, (getT (parSVs j id ps) t).ok d hp
  reg : ∀ i r, getH (parRegs j ps) i = some r → r.own = false ∧ RegIs X d (id + i) r w ∧ ∀ c ∈ r.cs, c.plain = true
  all : ∀ i, i < (parRegs j ps).length → (getH (parRegs j ps) i).isSome = true

theorem init_ok {xs : List Int} (hw : X.w0 = w) : ∀ (ps : List PSh) (id j : Nat) (args : List Value), j + (ps.flatMap PSh.ks).length ≤ xs.length → ArgsAre w xs j ps args →
    ∃ bs : List (Nat × Nat), ∀ d : Dn, d.ρ.i = xs → (∀ i p, bs[i]? = some p → d.α (id + i) = p) → InitOk X d w id j ps args
  | [], id, j, args, _, h => by
    simp only [ArgsAre] at h
    subst h
    exact ⟨[], fun d _ _ => ⟨rfl, fun t => (by simp only [parSVs, getT_nil]; rfl), fun hp _ t => (by simp only [parSVs, getT_nil]; intro v hv; cases hv), fun i r hr => (by simp [parRegs, getH_nil] at hr), fun i hi => (by simp [parRegs] at hi)⟩⟩
  | .val b ks :: ps, id, j, args, hl, h => by
    obtain ⟨rest, rfl, h1, h2⟩ := h
    simp only [List.flatMap_cons, List.length_append, PSh.ks] at hl
    obtain ⟨bs, hbs⟩ := init_ok hw ps id (j + ks.length) rest (by omega) h2
    refine ⟨bs, fun d hd hα => ?_⟩
    have I := hbs d hd hα
    have hden : (varCells j ks).map (Cell.den d) = kdVals xs j ks := by
      have := varCells_den (d := d) (n := 0) (N := xs.length) (xs := xs) (fun k _ => by rw [hd, Nat.zero_add]) ks j (by omega)
      rwa [Nat.zero_add] at this
    have hpl := varCells_plain ks j
    have cons : ∀ sv : SV, parSVs j id (.val b ks :: ps) = sv :: parSVs (j + ks.length) id ps → sv.is d (compVal b (kdVals xs j ks)) → (∀ hp, sv.ok d hp) → InitOk X d w id j (.val b ks :: ps) (compVal b (kdVals xs j ks) :: rest) := by
      intro sv e h3 h4
      refine ⟨by rw [e]; simp [I.len], fun t => ?_, fun hp hh t => ?_, I.reg, I.all⟩
      · rw [e]
        cases t with
        | zero => exact h3
        | succ t => exact I.is t
      · rw [e]
        cases t with
        | zero => exact h4 hp
        | succ t => exact I.ok hp hh t
    cases b with
    | true => exact cons (.agg (varCells j ks)) rfl (by simp only [SV.is, compVal, hden]) (fun hp c hc => Cell.plain_ok (hpl c hc))
    | false =>
      have hk := h1 rfl
      match ks, hk, hden, hpl, cons with
      | [k], _, hden, hpl, cons =>
        obtain ⟨c, hc⟩ : ∃ c, varCells j [k] = [c] := by cases k <;> exact ⟨_, rfl⟩
        refine cons (.one c) (by simp only [parSVs, hc]) ?_ (fun hp => ?_)
        · rw [hc] at hden
          rw [← hden]
          rfl
        · rw [hc] at hpl
          exact Cell.plain_ok (hpl c List.mem_cons_self)
  | .ptr ks :: ps, id, j, args, hl, h => by
    obtain ⟨b, o, rest, rfl, h1, h2, h3⟩ := h
    simp only [List.flatMap_cons, List.length_append, PSh.ks] at hl
    obtain ⟨bs, hbs⟩ := init_ok hw ps (id + 1) (j + ks.length) rest (by omega) h3
    refine ⟨(b, o) :: bs, fun d hd hα => ?_⟩
    have I := hbs d hd fun i p hp => by
      have := hα (i + 1) p hp
      rwa [show id + (i + 1) = id + 1 + i by omega] at this
    have h0 : d.α id = (b, o) := hα 0 _ rfl
    have hden : (varCells j ks).map (Cell.den d) = kdVals xs j ks := by
      have := varCells_den (d := d) (n := 0) (N := xs.length) (xs := xs) (fun k _ => by rw [hd, Nat.zero_add]) ks j (by omega)
      rwa [Nat.zero_add] at this
    refine ⟨by simp [parSVs, I.len], fun t => ?_, fun hp hh t => ?_, fun i r hr => ?_, fun i hi => ?_⟩
    · cases t with
      | zero => show Value.pointer _ = Value.pointer _; rw [h0, Nat.add_zero]
      | succ t => exact I.is t
    · cases t with
      | zero => exact hh 0 (by simp [parRegs])
      | succ t => exact I.ok hp (fun i hi => by
          have := hh (i + 1) (by simpa [parRegs] using hi)
          rwa [show id + (i + 1) = id + 1 + i by omega] at this) t
    · cases i with
      | zero =>
        simp only [parRegs, getH, Option.some.injEq] at hr
        subst hr
        refine ⟨rfl, ?_, varCells_plain ks j⟩
        unfold RegIs
        rw [if_neg (by simp), Nat.add_zero, h0, hw]
        refine ⟨h1, fun i c hi => h2 i _ ?_⟩
        rw [← hden, List.getElem?_map, hi]; rfl
      | succ i =>
        have := I.reg i r hr
        rwa [show id + 1 + i = id + (i + 1) by omega] at this
    · cases i with
      | zero => rfl
      | succ i => exact I.all i (by simpa [parRegs] using hi)

theorem fn_sigs {sigs : List (Nat × Sig)} {g : Nat} {ks : List Kd} (h : Bds.fn.go g (sigs.map fun p => (p.1, resKds p.2)) = ks) (hn : ks ≠ []) : ∃ s, sigOf sigs g = some s ∧ ks = resKds s := by
  induction sigs with
  | nil => exact absurd h.symm hn
  | cons p r ih =>
    simp only [List.map_cons, Bds.fn.go] at h
    simp only [sigOf]
    cases hg : Nat.beq p.1 g <;> simp only [hg, cond_false, cond_true] at h ⊢
    · exact ih h
    · exact ⟨p.2, rfl, h.symm⟩

theorem kds_ivs : ∀ (ks : List Kd) (j : Nat), kds ks j = ivs (ks.map Kd.iv) j
  | [], _ => rfl
  | _ :: _, 0 => rfl
  | _ :: r, j + 1 => kds_ivs r j

theorem getT_append_undef : ∀ (l : List SV) (n t : Nat), getT (l ++ List.replicate n .undef) t = getT l t
  | [], n, t => by
    rw [List.nil_append, getT_nil]
    induction n generalizing t with
    | zero => exact getT_nil t
    | succ n ih =>
      cases t with
      | zero => rfl
      | succ t => exact ih t
  | _ :: _, _, 0 => rfl
  | _ :: r, n, t + 1 => getT_append_undef r n t

/-- WHAT A FUNCTION RETURNS, from what is asked of its numbers. -/
theorem vc_soundI {F : Fn} {ivs : List Iv} {fuel g : Nat} {fn : Func} {s : Sig} (hm : F.C.P.follows .mixedOrders = true) (hC : CTs F.C Φ Pr)
    (hΦ : ∀ g s, sigOf F.C.sigs g = some s → ∀ xs ls, allHas ((resKds s).map Kd.iv) (norm (resKds s).length (Φ g xs ls).1))
    (hf : F.C.P.funcs[g]? = some fn) {xs : List Int} {args : List Value} (hx : allHas (parIvs s.params) xs) (hi : allHas ivs xs) (ha : ArgsAre w xs 0 s.params args) {post : List Int → Prop}
    (h : (vcOfI F ivs fuel fn s).holds Φ Pr post ⟨xs, []⟩) :
    Calls F.C.P g args.toArray w fun e w' => ∃ ys : List Int, post ys ∧ allHas ((resKds s).map Kd.iv) ys ∧ e = .returned (resV s ys) ∧ Below w.heap.size w w' := by
  unfold vcOfI at h
  split at h
  · rename_i c hc
    simp only at h
    obtain ⟨bs, hbs⟩ := init_ok (X := ⟨F.C.P, w⟩) rfl s.params 0 0 args (by
      have := allHas_length hx
      unfold parIvs at this
      rw [← this]
      simp [List.length_flatMap]) ha
    let d : Dn := ⟨Φ, ⟨xs, []⟩, fun i => bs.getD i (0, 0)⟩
    have I := hbs d rfl fun i p hp => by
      show bs.getD (0 + i) (0, 0) = p
      rw [Nat.zero_add, List.getD_eq_getElem?_getD, hp]; rfl
    refine calls_of_wp hf hc ?_
    let S0 : St := ⟨parSVs 0 0 s.params ++ List.replicate (fn.ntmps - (parSVs 0 0 s.params).length) .undef, parRegs 0 s.params⟩
    have hS : Sat ⟨F.C.P, w⟩ d S0 { tmps := args.toArray ++ Array.replicate (fn.ntmps - args.toArray.size) undef, defers := [] } w := by
      refine ⟨rfl, ⟨?_, fun t => ?_, fun t => ?_⟩, ⟨Below.refl _ _, fun i r hr => ?_, fun i j ri rj hi hj oi oj hij => ?_, fun i r hr c hc => Cell.plain_ok ((I.reg i r hr).2.2 c hc)⟩⟩
      · simp [S0, I.len]
      · have e : (args.toArray ++ Array.replicate (fn.ntmps - args.toArray.size) undef).getD t undef = args.getD t undef := by
          simp only [Array.getD_eq_getD_getElem?, List.getD_eq_getElem?_getD, Array.getElem?_append, List.size_toArray, Array.getElem?_replicate, List.getElem?_toArray]
          split
          · rfl
          · rename_i hn
            rw [List.getElem?_eq_none (by omega)]
            split <;> rfl
        show (getT (parSVs 0 0 s.params ++ _) t).is d _
        rw [getT_append_undef]
        have := I.is t
        rw [← e] at this
        exact this
      · show (getT (parSVs 0 0 s.params ++ _) t).ok d _
        rw [getT_append_undef]
        exact I.ok _ (fun i hi => by rw [Nat.zero_add]; exact I.all i hi) t
      · have := (I.reg i r hr).2.1
        rwa [Nat.zero_add] at this
      · have := (I.reg i ri hi).1
        rw [this] at oi; cases oi
    have hRV : RV d.Φ ⟨ivs, [], F.C.sigs.map fun p => (p.1, resKds p.2), []⟩ d.ρ :=
      ⟨(allHas_length hi).symm, rfl, fun n iv hn => allHas_get hi n iv hn, fun n p hn => (by cases n <;> cases hn), fun k j iv hk xs ls => by
        have hne : Bds.fn.go k (F.C.sigs.map fun p => (p.1, resKds p.2)) ≠ [] := fun e => by
          unfold Bds.fn at hk
          simp only [e] at hk
          cases j <;> cases hk
        obtain ⟨s', h1, h2⟩ := fn_sigs rfl hne
        unfold Bds.fn at hk
        simp only [h2] at hk
        rw [kds_ivs] at hk
        have := allHas_get (hΦ k s' h1 xs ls) j iv hk
        rwa [norm_getD _ _ _ (by simpa using ivs_lt _ _ _ hk)] at this, fun q hq => by cases hq⟩
    refine (exec_sound (X := ⟨F.C.P, w⟩) hm hC hΦ fuel c _ _ ?_ _ S0 d _ w rfl hRV hS (vc_holds _ _ h)).wp
    intro x R S d' a' w' hd' hR' h' ht
    have key : ∀ x : Ex, x = .normal ∨ x = .ret → (finVC F.C.P fn s x R S).holds Φ Pr post d'.ρ → a'.defers = [] ∧ ∃ v, (results fn a'.tmps).run F.C.P w' = .ok v w' ∧
        ∃ ys : List Int, post ys ∧ allHas ((resKds s).map Kd.iv) ys ∧ Ending.returned v = .returned (resV s ys) ∧ Below w.heap.size w w' := by
      intro x hx ht
      refine ⟨h'.df, ?_⟩
      have e : finVC F.C.P fn s x R S = match resVars F.C.P S fn.results.toList with
        | some vs => match resAS R s.res vs with
          | some as => .fin as
          | none => .fail 2001
        | none => .fail 2002 := by rcases hx with rfl | rfl <;> rfl
      rw [e] at ht
      split at ht
      · rename_i vs hvs
        split at ht
        · rename_i as has
          obtain ⟨vals, k1, k2⟩ := results_run h' hvs
          obtain ⟨j1, j2, j3⟩ := resAS_spec hR' has k2
          have j4 := j3 []
          subst hd'
          refine ⟨_, k1, as.denE d'.Φ d'.ρ, ht, j2, ?_, h'.hp.bl⟩
          rw [j4]
          rfl
        · exact ht.elim
      · exact ht.elim
    cases x with
    | normal => exact key .normal (.inl rfl) ht
    | ret => exact key .ret (.inr rfl) ht
    | exit id => exact ht.elim
    | goto l => exact ht.elim
  · exact h.elim

theorem vc_sound {F : Fn} {fuel g : Nat} {fn : Func} {s : Sig} (hm : F.C.P.follows .mixedOrders = true) (hC : CTs F.C Φ Pr)
    (hΦ : ∀ g s, sigOf F.C.sigs g = some s → ∀ xs ls, allHas ((resKds s).map Kd.iv) (norm (resKds s).length (Φ g xs ls).1))
    (hf : F.C.P.funcs[g]? = some fn) {xs : List Int} {args : List Value} (hx : allHas (parIvs s.params) xs) (ha : ArgsAre w xs 0 s.params args) {post : List Int → Prop}
    (h : (vcOf F fuel fn s).holds Φ Pr post ⟨xs, []⟩) :
    Calls F.C.P g args.toArray w fun e w' => ∃ ys : List Int, post ys ∧ allHas ((resKds s).map Kd.iv) ys ∧ e = .returned (resV s ys) ∧ Below w.heap.size w w' :=
  vc_soundI hm hC hΦ hf hx hx ha h

end
end Go.Proofs.Ytmlmdicdblgcfaa.Sx

namespace Go.Proofs.Ytmlmdicdblgcfaa.Sx
open Go Go.RowKit

/-- A number within its bounds. -/
def clamp1 (iv : Iv) (x : Int) : Int := if iv.lo ≤ x ∧ x ≤ iv.hi then x else 0
def clamp (ivs : List Iv) (xs : List Int) : List Int := match ivs with
  | [] => []
  | iv :: r => clamp1 iv (xs.headD 0) :: clamp r xs.tail

theorem kd_zero (k : Kd) : k.iv.lo ≤ 0 ∧ 0 ≤ k.iv.hi := by
  cases k with
  | b => exact ⟨by decide, by decide⟩
  | i k => cases k <;> exact ⟨by decide, by decide⟩
  | n k lo hi => exact ⟨(imin_le lo 0).2, (le_imax hi 0).2⟩

theorem clamp_has : ∀ (ks : List Kd) (xs : List Int), allHas (ks.map Kd.iv) (clamp (ks.map Kd.iv) xs)
  | [], _ => trivial
  | k :: ks, xs => by
    refine ⟨?_, clamp_has ks _⟩
    unfold clamp1
    split
    · assumption
    · exact kd_zero k

theorem clamp_id : ∀ {ivs : List Iv} {xs : List Int}, allHas ivs xs → clamp ivs xs = xs
  | [], [], _ => rfl
  | iv :: r, x :: xs, h => by
    have h1 : iv.lo ≤ x ∧ x ≤ iv.hi := h.1
    simp [clamp, clamp1, h1, clamp_id h.2]
  | [], _ :: _, h => h.elim
  | _ :: _, [], h => h.elim

theorem norm_id : ∀ {n : Nat} {xs : List Int}, xs.length = n → norm n xs = xs
  | 0, [], _ => rfl
  | n + 1, x :: xs, h => by simp [norm, norm_id (n := n) (xs := xs) (by simpa using h)]
  | 0, _ :: _, h => by cases h
  | _ + 1, [], h => by cases h

theorem norm_clamp (ks : List Kd) (xs : List Int) : norm ks.length (clamp (ks.map Kd.iv) xs) = clamp (ks.map Kd.iv) xs :=
  norm_id (by have := allHas_length (clamp_has ks xs); simpa using this.symm)

/-- A table of functions on numbers: what each function that is called returns, within its results' kinds. -/
structure Tab where
  sig : Nat → Option Sig
  fn : Nat → List Int → List Int

def Tab.fns (T : Tab) : Fns := fun g xs _ => (match T.sig g with
  | some s => clamp ((resKds s).map Kd.iv) (T.fn g xs)
  | none => [], [])

theorem Tab.fns_of {T : Tab} {g : Nat} {s : Sig} (h : T.sig g = some s) (xs : List Int) (ls : List (List Int)) : (T.fns g xs ls).1 = clamp ((resKds s).map Kd.iv) (T.fn g xs) := by
  simp only [Tab.fns, h]

theorem Tab.bounded {T : Tab} {sigs : List (Nat × Sig)} (hs : ∀ g s, sigOf sigs g = some s → T.sig g = some s) : ∀ g s, sigOf sigs g = some s → ∀ xs ls, allHas ((resKds s).map Kd.iv) (norm (resKds s).length (T.fns g xs ls).1) := fun g s h xs ls => by
  rw [T.fns_of (hs g s h), norm_clamp]
  exact clamp_has _ _

/-- A function does what the table says. -/
theorem Tab.ct {T : Tab} {F : Fn} {fuel g : Nat} {fn : Func} {s : Sig} {Pr : Pres} {v : VC} (hm : F.C.P.follows .mixedOrders = true)
    (hs : ∀ g s, sigOf F.C.sigs g = some s → T.sig g = some s) (hg : T.sig g = some s) (hC : CTs F.C T.fns Pr) (hf : F.C.P.funcs[g]? = some fn)
    (hv : vcOf F fuel fn s = v) (h : ∀ xs, allHas (parIvs s.params) xs → Pr g xs [] → v.holds T.fns Pr (fun ys => ys = T.fn g xs) ⟨xs, []⟩) : CT F.C.P T.fns Pr g s := by
  intro w xs args hx ha hp
  subst hv
  refine (vc_sound hm hC (T.bounded hs) hf hx ha (h xs hx hp)).mono fun e w' ⟨ys, h1, h2, h3, h4⟩ => ⟨?_, h4⟩
  rw [T.fns_of hg, h3]
  subst h1
  rw [clamp_id h2]

/-! ### What is asked, with a name for each number on the way -/
def VC.asks (Φ : Fns) (Pr : Pres) (post : List Int → Prop) : VC → Env → Prop
  | .fail _, _ => False
  | .fin as, ρ => post (as.denE Φ ρ)
  | .ite b t e, ρ => (b.den Φ ρ = true → t.asks Φ Pr post ρ) ∧ (b.den Φ ρ = false → e.asks Φ Pr post ρ)
  | .need os t, ρ => OsHold Φ Pr ρ os ∧ (OsHold Φ Pr ρ os → t.asks Φ Pr post ρ)
  | .bind e t, ρ => ∀ y, y = e.den Φ ρ → t.asks Φ Pr post (ρ.pushI [y])
  | .call g as n t, ρ => ∀ ys, ys = norm n (Φ g (as.denE Φ ρ) (as.denL Φ ρ)).1 → t.asks Φ Pr post (ρ.pushI ys)
  | .again k n0 rs es, ρ => ∀ ys, ys = es.map (E.den Φ ρ) → allHas rs ys ∧ Pr.inv k (ρ.i.take n0) ys ∧ Pr.mu k (ρ.i.take n0) ys < Pr.mu k (ρ.i.take n0) ((ρ.i.drop n0).take rs.length)
  | .loop k es rs t, ρ => (∀ ys, ys = es.map (E.den Φ ρ) → allHas rs ys ∧ Pr.inv k ρ.i ys) ∧ ∀ ys, allHas rs ys → Pr.inv k ρ.i ys → t.asks Φ Pr post (ρ.pushI ys)

theorem asks_holds {Φ : Fns} {Pr : Pres} {post : List Int → Prop} : ∀ (t : VC) (ρ : Env), t.asks Φ Pr post ρ → t.holds Φ Pr post ρ
  | .fail _, _, h => h
  | .fin _, _, h => h
  | .ite _ t e, ρ, h => ⟨fun hb => asks_holds t ρ (h.1 hb), fun hb => asks_holds e ρ (h.2 hb)⟩
  | .need _ t, ρ, h => ⟨h.1, asks_holds t ρ (h.2 h.1)⟩
  | .bind _ t, _, h => asks_holds t _ (h _ rfl)
  | .call _ _ _ t, _, h => asks_holds t _ (h _ rfl)
  | .again _ _ _ _, _, h => h _ rfl
  | .loop _ _ _ t, _, h => ⟨(h.1 _ rfl).1, (h.1 _ rfl).2, fun ys h1 h2 => asks_holds t _ (h.2 ys h1 h2)⟩

def SubSig (T : Tab) : List (Nat × Sig) → Prop
  | [] => True
  | p :: r => T.sig p.1 = some p.2 ∧ SubSig T r
theorem SubSig.of {T : Tab} : ∀ {l : List (Nat × Sig)}, SubSig T l → ∀ g s, sigOf l g = some s → T.sig g = some s
  | [], _, g, s, h => by cases h
  | p :: r, hl, g, s, h => by
    simp only [sigOf] at h
    cases hg : Nat.beq p.1 g <;> simp only [hg, cond_false, cond_true] at h
    · exact SubSig.of hl.2 g s h
    · cases h
      rw [← Nat.eq_of_beq_eq_true hg]
      exact hl.1

def CtAll (P : Program) (Φ : Fns) (Pr : Pres) : List (Nat × Sig) → Prop
  | [] => True
  | p :: r => CT P Φ Pr p.1 p.2 ∧ CtAll P Φ Pr r
theorem CtAll.of {P : Program} {Φ : Fns} {Pr : Pres} : ∀ {l : List (Nat × Sig)}, CtAll P Φ Pr l → ∀ g s, sigOf l g = some s → CT P Φ Pr g s
  | [], _, g, s, h => by cases h
  | p :: r, hl, g, s, h => by
    simp only [sigOf] at h
    cases hg : Nat.beq p.1 g <;> simp only [hg, cond_false, cond_true] at h
    · exact CtAll.of hl.2 g s h
    · cases h
      rw [← Nat.eq_of_beq_eq_true hg]
      exact hl.1

/-- No function asks anything of its numbers. -/
def free : Pres := ⟨fun _ _ _ => True, fun _ _ _ => False, fun _ _ _ => 0⟩
/-- The same, with what holds in loops. -/
def loops (inv : Nat → List Int → List Int → Prop) (mu : Nat → List Int → List Int → Nat) : Pres := ⟨fun _ _ _ => True, inv, mu⟩

theorem ctsFree {C : Cfg} {Φ : Fns} (h : CtAll C.P Φ free C.sigs) : CTs C Φ free := ⟨h.of, fun _ _ _ _ _ _ => trivial⟩

theorem CtAll.loops {P : Program} {Φ : Fns} {inv : Nat → List Int → List Int → Prop} {mu : Nat → List Int → List Int → Nat} : ∀ {l : List (Nat × Sig)}, CtAll P Φ free l → CtAll P Φ (loops inv mu) l
  | [], _ => trivial
  | _ :: _, h => ⟨h.1, CtAll.loops h.2⟩

theorem ctsLoops {C : Cfg} {Φ : Fns} {inv : Nat → List Int → List Int → Prop} {mu : Nat → List Int → List Int → Nat} (h : CtAll C.P Φ free C.sigs) : CTs C Φ (loops inv mu) :=
  ⟨h.loops.of, fun _ _ _ _ _ _ => trivial⟩

theorem Tab.call {T : Tab} {g : Nat} {s : Sig} (h : T.sig g = some s) {n : Nat} (hn : (resKds s).length = n) {xs : List Int} {ls : List (List Int)} {ys : List Int} (hy : ys = norm n (T.fns g xs ls).1) :
    ys = clamp ((resKds s).map Kd.iv) (T.fn g xs) := by
  subst hn
  rw [hy, T.fns_of h, norm_clamp]

theorem Tab.call_id {T : Tab} {g : Nat} {s : Sig} (h : T.sig g = some s) {n : Nat} (hn : (resKds s).length = n) {xs : List Int} {ls : List (List Int)} {ys : List Int} (hy : ys = norm n (T.fns g xs ls).1)
    (hr : allHas ((resKds s).map Kd.iv) (T.fn g xs)) : ys = T.fn g xs := by
  rw [T.call h hn hy, clamp_id hr]

/-- A function does what the table says. -/
theorem Tab.cta {T : Tab} {F : Fn} {fuel g : Nat} {fn : Func} {s : Sig} {v : VC} (hv : vcOf F fuel fn s = v) (hm : F.C.P.follows .mixedOrders = true)
    (hs : SubSig T F.C.sigs) (hg : T.sig g = some s) (hC : CtAll F.C.P T.fns free F.C.sigs) (hf : F.C.P.funcs[g]? = some fn)
    (h : ∀ xs, allHas (parIvs s.params) xs → v.asks T.fns free (fun ys => ys = T.fn g xs) ⟨xs, []⟩) : CT F.C.P T.fns free g s :=
  T.ct hm hs.of hg (ctsFree hC) hf hv fun xs hx _ => asks_holds _ _ (h xs hx)

/-- The same of a function with loops, by what holds in them. -/
theorem Tab.ctl {T : Tab} {F : Fn} {fuel g : Nat} {fn : Func} {s : Sig} {v : VC} (hv : vcOf F fuel fn s = v) (hm : F.C.P.follows .mixedOrders = true)
    (hs : SubSig T F.C.sigs) (hg : T.sig g = some s) (hC : CtAll F.C.P T.fns free F.C.sigs) (hf : F.C.P.funcs[g]? = some fn)
    (inv : Nat → List Int → List Int → Prop) (mu : Nat → List Int → List Int → Nat)
    (h : ∀ xs, allHas (parIvs s.params) xs → v.asks T.fns (loops inv mu) (fun ys => ys = T.fn g xs) ⟨xs, []⟩) : CT F.C.P T.fns free g s :=
  show CT F.C.P T.fns (loops inv mu) g s from T.ct hm hs.of hg (ctsLoops hC) hf hv fun xs hx _ => asks_holds _ _ (h xs hx)

/-! ### Functions that ask something of their numbers -/
theorem CT.w {P : Program} {Φ : Fns} {Pr : Pres} {g : Nat} {s : Sig} (h : CT P Φ free g s) : CT P Φ Pr g s := fun w xs args hx ha _ => h w xs args hx ha trivial

def lookPre : List (Nat × (List Int → Prop)) → Nat → List Int → Prop
  | [], _ => fun _ => True
  | (h, f) :: r, g => bif Nat.beq h g then f else lookPre r g

def presL (pre : Nat → List Int → Prop) (inv : Nat → List Int → List Int → Prop) (mu : Nat → List Int → List Int → Nat) : Pres := ⟨fun g xs _ => pre g xs, inv, mu⟩
def pres (pre : Nat → List Int → Prop) : Pres := presL pre (fun _ _ _ => False) (fun _ _ _ => 0)

def Tot (pre : Nat → List Int → Prop) : List (Nat × Sig) → Prop
  | [] => True
  | p :: r => (p.2.total = true → ∀ xs, pre p.1 xs) ∧ Tot pre r
theorem Tot.of {pre : Nat → List Int → Prop} : ∀ {l : List (Nat × Sig)}, Tot pre l → ∀ g s, sigOf l g = some s → s.total = true → ∀ xs, pre g xs
  | [], _, g, s, h => by cases h
  | p :: r, hl, g, s, h => by
    simp only [sigOf] at h
    cases hg : Nat.beq p.1 g <;> simp only [hg, cond_false, cond_true] at h
    · exact Tot.of hl.2 g s h
    · cases h
      rw [← Nat.eq_of_beq_eq_true hg]
      exact hl.1

theorem CtAll.presL {P : Program} {Φ : Fns} {pre : Nat → List Int → Prop} {inv : Nat → List Int → List Int → Prop} {mu : Nat → List Int → List Int → Nat} : ∀ {l : List (Nat × Sig)}, CtAll P Φ (pres pre) l → CtAll P Φ (presL pre inv mu) l
  | [], _ => trivial
  | _ :: _, h => ⟨h.1, CtAll.presL h.2⟩

/-- A function with loops, that asks something of its numbers, as may those that it calls. -/
theorem Tab.ctp {T : Tab} {F : Fn} {fuel g : Nat} {fn : Func} {s : Sig} {v : VC} {pre : Nat → List Int → Prop} (hv : vcOf F fuel fn s = v) (hm : F.C.P.follows .mixedOrders = true)
    (hs : SubSig T F.C.sigs) (ht : Tot pre F.C.sigs) (hg : T.sig g = some s) (hC : CtAll F.C.P T.fns (pres pre) F.C.sigs) (hf : F.C.P.funcs[g]? = some fn)
    (inv : Nat → List Int → List Int → Prop) (mu : Nat → List Int → List Int → Nat)
    (h : ∀ xs, allHas (parIvs s.params) xs → pre g xs → v.asks T.fns (presL pre inv mu) (fun ys => ys = T.fn g xs) ⟨xs, []⟩) : CT F.C.P T.fns (pres pre) g s :=
  show CT F.C.P T.fns (presL pre inv mu) g s from T.ct hm hs.of hg ⟨hC.presL.of, fun g s h1 h2 xs _ => ht.of g s h1 h2 xs⟩ hf hv fun xs hx hp => asks_holds _ _ (h xs hx hp)

/-! ### What is asked, as a plain sentence on numbers -/
def Curry : Nat → (List Int → Prop) → Prop
  | 0, p => p []
  | n + 1, p => ∀ y, Curry n fun ys => p (y :: ys)
theorem Curry.at : ∀ {n : Nat} {p : List Int → Prop}, Curry n p → ∀ ys : List Int, ys.length = n → p ys
  | 0, _, h, [], _ => h
  | n + 1, p, h, y :: ys, hl => Curry.at (p := fun ys => p (y :: ys)) (h y) ys (by simpa using hl)
  | 0, _, _, _ :: _, hl => by cases hl
  | _ + 1, _, _, [], hl => by cases hl

def OAll (Φ : Fns) (Pr : Pres) (ρ : Env) : List O → Prop
  | [] => True
  | [o] => o.holds Φ Pr ρ
  | o :: r => o.holds Φ Pr ρ ∧ OAll Φ Pr ρ r
theorem OAll.all {Φ : Fns} {Pr : Pres} {ρ : Env} : ∀ {os : List O}, OAll Φ Pr ρ os → OsHold Φ Pr ρ os
  | [], _, _, h => by cases h
  | [o], h, x, hx => by
    simp only [List.mem_singleton] at hx
    subst hx; exact h
  | o :: q :: r, h, x, hx => by
    cases hx with
    | head => exact h.1
    | tail _ hx => exact OAll.all h.2 x hx

/-- What a called function returns. -/
def Tab.out (T : Tab) (g n : Nat) (xs : List Int) : List Int := norm n (T.fns g xs []).1

def VC.plain (T : Tab) (Pr : Pres) (post : List Int → Prop) : VC → Env → Prop
  | .fail _, _ => False
  | .fin as, ρ => post (as.denE T.fns ρ)
  | .ite b t e, ρ => (b.den T.fns ρ = true → t.plain T Pr post ρ) ∧ (b.den T.fns ρ = false → e.plain T Pr post ρ)
  | .need os t, ρ => OAll T.fns Pr ρ os ∧ (OAll T.fns Pr ρ os → t.plain T Pr post ρ)
  | .bind e t, ρ => ∀ y, y = e.den T.fns ρ → t.plain T Pr post (ρ.pushI [y])
  | .call g as n t, ρ => Curry n fun ys => ys = T.out g n (as.denE T.fns ρ) → t.plain T Pr post (ρ.pushI ys)
  | .again k n0 rs es, ρ => allHas rs (es.map (E.den T.fns ρ)) ∧ Pr.inv k (ρ.i.take n0) (es.map (E.den T.fns ρ)) ∧ Pr.mu k (ρ.i.take n0) (es.map (E.den T.fns ρ)) < Pr.mu k (ρ.i.take n0) ((ρ.i.drop n0).take rs.length)
  | .loop k es rs t, ρ => (allHas rs (es.map (E.den T.fns ρ)) ∧ Pr.inv k ρ.i (es.map (E.den T.fns ρ))) ∧ Curry rs.length fun ys => allHas rs ys → Pr.inv k ρ.i ys → t.plain T Pr post (ρ.pushI ys)

theorem plain_holds {T : Tab} {Pr : Pres} {post : List Int → Prop} : ∀ (t : VC) (ρ : Env), t.plain T Pr post ρ → t.holds T.fns Pr post ρ
  | .fail _, _, h => h
  | .fin _, _, h => h
  | .ite _ t e, ρ, h => ⟨fun hb => plain_holds t ρ (h.1 hb), fun hb => plain_holds e ρ (h.2 hb)⟩
  | .need _ t, ρ, h => ⟨h.1.all, plain_holds t ρ (h.2 h.1)⟩
  | .bind _ t, _, h => plain_holds t _ (h _ rfl)
  | .call _ _ n t, _, h => plain_holds t _ (h.at _ (norm_length n _) rfl)
  | .again _ _ _ _, _, h => h
  | .loop _ _ _ t, _, h => ⟨h.1.1, h.1.2, fun ys h1 h2 => plain_holds t _ (h.2.at ys (allHas_length h1).symm h1 h2)⟩

theorem Tab.out_eq {T : Tab} {g : Nat} {s : Sig} (h : T.sig g = some s) {n : Nat} (hn : (resKds s).length = n) {xs : List Int} (hr : allHas ((resKds s).map Kd.iv) (T.fn g xs)) : T.out g n xs = T.fn g xs := by
  subst hn
  unfold Tab.out
  rw [T.fns_of h, norm_clamp, clamp_id hr]

/-- A FUNCTION DOES WHAT THE TABLE SAYS, from a plain sentence. -/
theorem Tab.ctq {T : Tab} {F : Fn} {ivs : List Iv} {fuel g : Nat} {fn : Func} {s : Sig} {v : VC} {pre : Nat → List Int → Prop} (hv : vcOfI F ivs fuel fn s = v) (hm : F.C.P.follows .mixedOrders = true)
    (hs : SubSig T F.C.sigs) (ht : Tot pre F.C.sigs) (hg : T.sig g = some s) (hC : CtAll F.C.P T.fns (pres pre) F.C.sigs) (hf : F.C.P.funcs[g]? = some fn)
    (inv : Nat → List Int → List Int → Prop) (mu : Nat → List Int → List Int → Nat) (hi : ∀ xs, allHas (parIvs s.params) xs → pre g xs → allHas ivs xs)
    (h : ∀ xs, allHas ivs xs → pre g xs → v.plain T (presL pre inv mu) (fun ys => ys = T.fn g xs) ⟨xs, []⟩) : CT F.C.P T.fns (pres pre) g s := by
  show CT F.C.P T.fns (presL pre inv mu) g s
  intro w xs args hx ha hp
  subst hv
  have hI := hi xs hx hp
  refine (vc_soundI hm ⟨hC.presL.of, fun g s h1 h2 xs _ => ht.of g s h1 h2 xs⟩ (T.bounded hs.of) hf hx hI ha (plain_holds _ _ (h xs hI hp))).mono fun e w' ⟨ys, h1, h2, h3, h4⟩ => ⟨?_, h4⟩
  rw [T.fns_of hg, h3]
  subst h1
  rw [clamp_id h2]

end Go.Proofs.Ytmlmdicdblgcfaa.Sx
