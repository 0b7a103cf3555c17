/-
  The symbolic executor: reading and writing memory, calls; one operation, whole.
-/
import Derived.Test.YtaknnjlkpepgaaaSxG
namespace Go.Proofs.Ytaknnjlkpepgaaa.Sx
open Go Go.RowKit

/-! ## Numbers as values -/
def kdVal : Kd → Int → Value
  | .i k, n => .int k n
  | .n k _ _, n => .int k n
  | .b, n => .bool (decide (n = 1))

/-- From place j on. -/
def kdVals (xs : List Int) : Nat → List Kd → List Value
  | _, [] => []
  | j, k :: r => kdVal k (xs.getD j 0) :: kdVals xs (j + 1) r

def compVal (agg : Bool) (vs : List Value) : Value := match agg, vs with
  | true, vs => .agg vs.toArray
  | false, v :: _ => v
  | false, [] => undef

def resVals (xs : List Int) : Nat → List (Bool × List Kd) → List Value
  | _, [] => []
  | j, (b, ks) :: r => compVal b (kdVals xs j ks) :: resVals xs (j + ks.length) r

def oneOr (vs : List Value) : Value := match vs with
  | [v] => v
  | vs => .tuple vs.toArray

def resV (s : Sig) (xs : List Int) : Value := oneOr (resVals xs 0 s.res)

/-- The arguments of a call, from number j on. -/
def ArgsAre (w : World) (xs : List Int) : Nat → List PSh → List Value → Prop
  | _, [], args => args = []
  | j, .val b ks :: ps, args => ∃ rest, args = compVal b (kdVals xs j ks) :: rest ∧ (b = false → ks.length = 1) ∧ ArgsAre w xs (j + ks.length) ps rest
  | j, .ptr ks :: ps, args => ∃ b o rest, args = .pointer (some ⟨b, o, none⟩) :: rest ∧ b < w.heap.size ∧
      (∀ (i : Nat) (v : Value), (kdVals xs j ks)[i]? = some v → w.cell? ⟨b, o + i, none⟩ = some v) ∧ ArgsAre w xs (j + ks.length) ps rest
  | j, .slc ks :: ps, args => ∃ b o rest, args = .slice (some ⟨b, o, none⟩) ks.length ks.length :: rest ∧ b < w.heap.size ∧
      (∀ (i : Nat) (v : Value), (kdVals xs j ks)[i]? = some v → w.cell? ⟨b, o + i, none⟩ = some v) ∧ ArgsAre w xs (j + ks.length) ps rest

/-- WHAT A FUNCTION IS KNOWN TO DO: called with such arguments it returns what is told of their numbers, and leaves all that was there. -/
def CT (P : Program) (Φ : Fns) (Pr : Pres) (g : Nat) (s : Sig) : Prop :=
  ∀ (w : World) (xs : List Int) (args : List Value), allHas (parIvs s.params) xs → ArgsAre w xs 0 s.params args → Pr g xs [] →
    Calls P g args.toArray w fun e w' => e = .returned (resV s (Φ g xs []).1) ∧ Below w.heap.size w w'

/-- What is known of the functions of a table. -/
structure CTs (C : Cfg) (Φ : Fns) (Pr : Pres) : Prop where
  ct : ∀ g s, sigOf C.sigs g = some s → CT C.P Φ Pr g s
  tot : ∀ g s, sigOf C.sigs g = some s → s.total = true → ∀ xs ls, Pr g xs ls

/-! ## Memory -/
theorem HP.regs {X : Ctx} {d : Dn} {hp : List (Option Reg)} {w w' : World} (h : HP X d hp w) (hb : Below w.heap.size w w') : HP X d hp w' where
  bl := h.bl.trans (hb.mono h.bl.size)
  reg := fun id r hr => by
    have := h.reg id r hr
    unfold RegIs at *
    split
    · rename_i ho
      rw [if_pos ho] at this
      obtain ⟨h1, h2, h3⟩ := this
      refine ⟨h1, h2, ?_⟩
      have hlt : (d.α id).1 < w.heap.size := by
        rcases Nat.lt_or_ge (d.α id).1 w.heap.size with h' | h'
        · exact h'
        · rw [Array.getElem?_eq_none h'] at h3; cases h3
      rw [hb.block _ hlt]; exact h3
    · rename_i ho
      rw [if_neg ho] at this
      exact this
  sep := h.sep
  ids := h.ids

theorem wrAll_nil (hp : List (Option Reg)) : wrAll hp [] = hp := rfl

section
variable {C : Cfg} {R : Bds} {X : Ctx} {d : Dn} {w : World} {hp : List (Option Reg)} {v : Operand → Option SV} {e : Operand → Value} {Pr : Pres}
  {rd : Nat → Option Reg} {new : Nat} {r : Res} {o : Oper}

theorem op_load {t : TypeId} {x : Operand} (hP : HP X d hp w) (hv : Reads d hp v e) (hrd : ∀ id r, rd id = some r → getH hp id = some r)
    (h : opRun C R (.load t x) v rd new = some r) (ho : o.op = .load t x) : Yld C.P e o w d hp r := by
  simp only [opRun] at h
  split at h
  · rename_i id off hx
    split at h
    · rename_i g hg
      simp only [Option.map_eq_some_iff] at h
      obtain ⟨sv, hs, rfl⟩ := h
      have hg := hrd _ _ hg
      have h1 := hv.is _ _ hx
      simp only [SV.is, Cell.den] at h1
      obtain ⟨y, hy, hy2⟩ := loadVar_run (hP.reg _ _ hg) hP.bl hs
      refine ⟨y, ?_, hy2, partT_ok hs (hP.ids _ _ hg), rfl⟩
      simp only [execOp, ho, h1, Instr.loadAt, Instr.sureAddr, Sem.run_bind, Sem.run_pure, Result.andThen_ok, hy]
    · cases h
  · rename_i id off n ix hx
    split at h
    · rename_i g hg
      cases c : (!aggT C.P t && (C.P.underlying t).isSome && Nat.ble (off + n) g.cs.length) <;> simp only [c, cond_false, cond_true] at h
      · cases h
      · simp only [Bool.and_eq_true, Bool.not_eq_true'] at c
        obtain ⟨⟨c1, c2⟩, c3⟩ := c
        have c3 := Nat.le_of_ble_eq_true c3
        obtain ⟨u, hu⟩ := Option.isSome_iff_exists.1 c2
        simp only [Option.map_eq_some_iff] at h
        obtain ⟨c, hc, rfl⟩ := h
        have hg := hrd _ _ hg
        have h1 := hv.is _ _ hx
        simp only [SV.is, Cell.den] at h1
        obtain ⟨_, b1, b2⟩ := hv.ok _ _ hx
        obtain ⟨j, hj⟩ := Int.eq_ofNat_of_zero_le b1
        have hjn : j < n := by omega
        obtain ⟨c', g1, g2, g3⟩ := selCell_some hc (n := j) (by simp; omega) hj
        have g1' := (drop_take_get g1).1
        refine ⟨c'.den d, ?_, g2.symm ▸ rfl, g3 hp, rfl⟩
        have := (hP.reg _ _ hg).cell hP.bl g1'
        simp only [execOp, ho, h1, Instr.loadAt, Instr.sureAddr, Sem.run_bind, Sem.run_pure, Result.andThen_ok, loadVar, run_isAgg hu, c1, Bool.false_eq_true, if_false, run_load,
          hj, Int.toNat_natCast, Nat.mul_one, this]
    · cases h
  · cases h
/-! ### Blocks that are written -/
/-- What stands behind an operation. -/
def Aft (X : Ctx) (d : Dn) (hp hp' : List (Option Reg)) (sv : SV) (x : Value) (w' : World) : Prop :=
  ∃ d', Agree hp d d' ∧ Has hp hp' ∧ HP X d' hp' w' ∧ sv.is d' x ∧ sv.ok d' hp'

/-- Cells of a block that are changed in place; all else stays. -/
structure Cut (w w' : World) (b : Nat) (o : Obj) : Prop where
  os : w'.os = w.os
  tape : w'.tape = w.tape
  output : w'.output = w.output
  size : w'.heap.size = w.heap.size
  other : ∀ k, k ≠ b → w'.heap[k]? = w.heap[k]?
  it : w'.heap[b]? = some o

theorem setCell_cut {w : World} {b off : Nat} {c : List Value} {t : TypeId} {x : Value} (h : w.heap[b]? = some (.cells c.toArray t (0, 0))) :
    Cut w (w.setCell ⟨b, off, none⟩ x) b (.cells (c.set off x).toArray t (0, 0)) where
  os := rfl
  tape := rfl
  output := rfl
  size := by simp
  other := fun k hk => Below.heap_setCell _ _ _ _ hk
  it := by
    simp only [World.setCell, Array.getElem?_modify, if_true, h, Option.map_some]
    simp

theorem Cut.trans {w w' w'' : World} {b : Nat} {o o' : Obj} (h : Cut w w' b o) (k : Cut w' w'' b o') : Cut w w'' b o' :=
  ⟨k.os.trans h.os, k.tape.trans h.tape, k.output.trans h.output, k.size.trans h.size, fun i hi => (k.other i hi).trans (h.other i hi), k.it⟩

theorem storeCells_run {P : Program} {b off : Nat} {t : TypeId} : ∀ (vs : List Value) (i : Nat) (w : World) (c : List Value), w.heap[b]? = some (.cells c.toArray t (0, 0)) →
    off + i + vs.length ≤ c.length → (∀ x ∈ vs, x.oneCell' = true) →
    ∃ w', (storeCells ⟨b, off, none⟩ vs i).run P w = .ok () w' ∧ Cut w w' b (.cells (c.take (off + i) ++ (vs ++ c.drop (off + i + vs.length))).toArray t (0, 0))
  | [], i, w, c, h, _, _ => ⟨w, rfl, ⟨rfl, rfl, rfl, rfl, fun _ _ => rfl, by rw [h]; simp⟩⟩
  | x :: vs, i, w, c, h, hl, hv => by
    simp only [List.length_cons] at hl
    have hc : w.cell? ⟨b, off + i, none⟩ = some c[off + i] := by
      simp [World.cell?, h, show off + i < c.length by omega]
    have hf : w.frozen? ⟨b, off + i, none⟩ = false := by
      simp [World.frozen?, h]
    have hcut := setCell_cut (off := off + i) (x := x) h
    obtain ⟨w', h1, h2⟩ := storeCells_run (P := P) (off := off) vs (i + 1) (w.setCell ⟨b, off + i, none⟩ x) (c.set (off + i) x) hcut.it (by rw [List.length_set]; omega) (fun y hy => hv y (List.mem_cons_of_mem _ hy))
    refine ⟨w', ?_, ?_⟩
    · simp only [storeCells, Sem.run_bind, add_mk]
      rw [run_store P w _ x .plain (hv x List.mem_cons_self), hc]
      simp only [hf, Bool.false_eq_true, if_false, Result.andThen_ok, h1]
    · have := hcut.trans h2
      have e1 : (c.set (off + i) x).take (off + (i + 1)) = c.take (off + i) ++ [x] := by
        rw [show off + (i + 1) = (off + i) + 1 by omega, List.take_add_one, List.take_set_of_le (by omega)]
        congr 1
        simp [show off + i < c.length by omega]
      have e2 : (c.set (off + i) x).drop (off + (i + 1) + vs.length) = c.drop (off + i + (x :: vs).length) := by
        rw [List.drop_set_of_lt (by omega)]
        congr 1
        simp; omega
      rw [e1, e2] at this
      simpa using this

theorem HP.lt (hP : HP X d hp w) {id : Nat} {g : Reg} (hg : getH hp id = some g) (ho : g.own = true) : (d.α id).1 < w.heap.size := by
  have := hP.reg _ _ hg
  unfold RegIs at this
  rw [if_pos ho] at this
  rcases Nat.lt_or_ge (d.α id).1 w.heap.size with h' | h'
  · exact h'
  · rw [Array.getElem?_eq_none h'] at this; cases this.2.2

theorem Has.setH {hp : List (Option Reg)} (id : Nat) (g : Reg) : Has hp (setH hp id (some g)) := fun k hk => by
  by_cases h : id = k
  · subst h
    obtain ⟨r, hr⟩ := Option.isSome_iff_exists.1 hk
    rw [getH_setH_same _ _ _ (getH_lt hr)]; rfl
  · rw [getH_setH_ne _ _ _ _ h]; exact hk

/-- A new block. -/
theorem HP.alloc (hP : HP X d hp w) {cs : List Cell} (hcs : ∀ c ∈ cs, c.ok d hp) {t : TypeId} (hn : getH hp new = none) (hl : new < hp.length) :
    Aft X d hp (setH hp new (some ⟨cs, true, t⟩)) (.one (.ptr new 0)) (.pointer (some ⟨w.heap.size, 0, none⟩)) { w with heap := w.heap.push (.cells (cs.map (Cell.den d)).toArray t) } := by
  let d' : Dn := ⟨d.Φ, d.ρ, fun id => if id = new then (w.heap.size, 0) else d.α id⟩
  have ag : Agree hp d d' := ⟨rfl, rfl, fun id hid => by
    have : id ≠ new := fun h => by subst h; rw [hn] at hid; cases hid
    simp [d', this]⟩
  have hasH := Has.setH (hp := hp) new ⟨cs, true, t⟩
  have hnew : d'.α new = (w.heap.size, 0) := by simp [d']
  refine ⟨d', ag, hasH, ⟨?_, ?_, ?_, ?_⟩, ?_, ?_⟩
  · exact hP.bl.alloc hP.bl.size _
  · intro id g hg
    by_cases h : new = id
    · subst h
      rw [getH_setH_same _ _ _ hl] at hg
      cases hg
      unfold RegIs
      rw [if_pos rfl, hnew]
      refine ⟨rfl, hP.bl.size, ?_⟩
      simp only [Array.getElem?_push, if_true]
      rw [cells_agree ag hcs]
    · rw [getH_setH_ne _ _ _ _ h] at hg
      have old := hP.reg _ _ hg
      have ha := ag.α id (by rw [hg]; rfl)
      unfold RegIs at *
      rw [ha]
      split
      · rename_i ho
        rw [if_pos ho] at old
        obtain ⟨h1, h2, h3⟩ := old
        have hlt := hP.lt hg ho
        refine ⟨h1, h2, ?_⟩
        rw [Array.getElem?_push, if_neg (by omega), h3, cells_agree ag (hP.ids _ _ hg)]
      · rename_i ho
        rw [if_neg ho] at old
        refine ⟨old.1, fun i c hc => ?_⟩
        rw [old.2 i c hc, Cell.den_agree ag (hP.ids _ _ hg c (List.mem_of_getElem? hc))]
  · intro i j ri rj hi hj oi oj hij
    by_cases h1 : new = i
    · subst h1
      rw [getH_setH_ne _ _ _ _ hij] at hj
      rw [hnew, ag.α j (by rw [hj]; rfl)]
      have := hP.lt hj oj
      simp only; omega
    · rw [getH_setH_ne _ _ _ _ h1] at hi
      rw [ag.α i (by rw [hi]; rfl)]
      by_cases h2 : new = j
      · subst h2
        rw [hnew]
        have := hP.lt hi oi
        simp only; omega
      · rw [getH_setH_ne _ _ _ _ h2] at hj
        rw [ag.α j (by rw [hj]; rfl)]
        exact hP.sep i j ri rj hi hj oi oj hij
  · intro id g hg c hc
    by_cases h : new = id
    · subst h
      rw [getH_setH_same _ _ _ hl] at hg
      cases hg
      exact Cell.ok_agree ag (Cell.ok_mono hasH (hcs c hc))
    · rw [getH_setH_ne _ _ _ _ h] at hg
      exact Cell.ok_agree ag (Cell.ok_mono hasH (hP.ids _ _ hg c hc))
  · simp only [SV.is, Cell.den, hnew]
  · show (getH _ new).isSome = true
    rw [getH_setH_same _ _ _ hl]; rfl

/-- A block of the call's own, written in place. -/
theorem HP.write (hP : HP X d hp w) {id : Nat} {g : Reg} (hg : getH hp id = some g) (ho : g.own = true) {cs : List Cell} (hcs : ∀ c ∈ cs, c.ok d hp) {w' : World}
    (hw : Cut w w' (d.α id).1 (.cells (cs.map (Cell.den d)).toArray g.ty (0, 0))) : HP X d (setH hp id (some { g with cs := cs })) w' where
  bl := by
    have r := hP.reg _ _ hg
    unfold RegIs at r
    rw [if_pos ho] at r
    exact hP.bl.trans ⟨hw.os, hw.tape, hw.output, by rw [hw.size]; exact Nat.le_refl _, fun k hk => hw.other k (by omega)⟩
  reg := fun k q hq => by
    by_cases h : id = k
    · subst h
      rw [getH_setH_same _ _ _ (getH_lt hg)] at hq
      cases hq
      have r := hP.reg _ _ hg
      unfold RegIs at *
      rw [if_pos ho] at r
      rw [if_pos ho]
      exact ⟨r.1, r.2.1, hw.it⟩
    · rw [getH_setH_ne _ _ _ _ h] at hq
      have old := hP.reg _ _ hq
      unfold RegIs at *
      split
      · rename_i hqo
        rw [if_pos hqo] at old
        refine ⟨old.1, old.2.1, ?_⟩
        rw [hw.other _ (hP.sep k id q g hq hg hqo ho (fun e => h e.symm))]
        exact old.2.2
      · rename_i hqo
        rw [if_neg hqo] at old
        exact old
  sep := fun i j ri rj hi hj oi oj hij => by
    have get : ∀ k q, getH (setH hp id (some { g with cs := cs })) k = some q → q.own = true → ∃ q', getH hp k = some q' ∧ q'.own = true := fun k q hq hqo => by
      by_cases h : id = k
      · subst h; exact ⟨g, hg, ho⟩
      · rw [getH_setH_ne _ _ _ _ h] at hq; exact ⟨q, hq, hqo⟩
    obtain ⟨qi, h1, h2⟩ := get i ri hi oi
    obtain ⟨qj, h3, h4⟩ := get j rj hj oj
    exact hP.sep i j qi qj h1 h3 h2 h4 hij
  ids := fun k q hq c hc => by
    by_cases h : id = k
    · subst h
      rw [getH_setH_same _ _ _ (getH_lt hg)] at hq
      cases hq
      exact Cell.ok_mono (Has.setH id _) (hcs c hc)
    · rw [getH_setH_ne _ _ _ _ h] at hq
      exact Cell.ok_mono (Has.setH id _) (hP.ids _ _ hq c hc)

theorem noTup_cells {sv : SV} {x : Value} (h : noTup sv = true) (hx : sv.is d x) : x.cells = (sv.cells.map (Cell.den d)).toArray := by
  cases sv with
  | one c => simp only [SV.is] at hx; subst hx; simp [SV.cells, Cell.den_cells]
  | agg cs => simp only [SV.is] at hx; subst hx; rfl
  | tup _ => cases h
  | any => cases h

theorem noTup_ok {sv : SV} (h : noTup sv = true) (hx : sv.ok d hp) : ∀ c ∈ sv.cells, c.ok d hp := by
  cases sv with
  | one c => intro c' hc; simp only [SV.cells, List.mem_singleton] at hc; subst hc; exact hx
  | agg cs => exact hx
  | tup _ => cases h
  | any => cases h

theorem op_new (hP : HP X d hp w) (hv : Reads d hp v e) (h : opRun C R o.op v rd new = some r) (ho : isNew o.op = true) (hn : getH hp new = none) (hl : new < hp.length) :
    ∃ x w', (execOp e o).run C.P w = .ok (.value x) w' ∧ Aft X d hp (wrAll hp r.wr) r.val x w' := by
  cases hop : o.op <;> rw [hop] at ho <;> simp only [isNew, Bool.false_eq_true] at ho
  case alloc t =>
    rw [hop] at h
    simp only [opRun] at h
    split at h
    · rename_i z hz
      cases c : noTup z <;> simp only [c, cond_false, cond_true] at h
      · cases h
      · cases h
        obtain ⟨x, hx1, hx2, hx3⟩ := run_zero (w := w) d hz
        refine ⟨_, _, ?_, hP.alloc (noTup_ok c (hx3 hp)) hn hl⟩
        simp only [execOp, hop, Instr.alloc, Sem.run_bind, hx1, Result.andThen_ok]
        simp [newVar, newRow, noTup_cells c hx2]
    · cases h
  case box t y =>
    rw [hop] at h
    simp only [opRun] at h
    split at h
    · rename_i z hz
      cases c : noTup z <;> simp only [c, cond_false, cond_true] at h
      · cases h
      · cases h
        refine ⟨_, _, ?_, hP.alloc (noTup_ok c (hv.ok _ _ hz)) hn hl⟩
        simp only [execOp, hop, Instr.box, Sem.run_bind]
        simp [newVar, newRow, noTup_cells c (hv.is _ _ hz)]
    · cases h
  case buildSlice t len parts =>
    rw [hop] at h
    simp only [opRun] at h
    split at h
    · rename_i el ps hu hps
      split at h
      · rename_i z hm hz
        cases c : (Nat.ble 1 len && (Nat.ble len 4096 && ps.all (fun p => noTup p.2))) <;> simp only [c, cond_false, cond_true] at h
        · cases h
        · simp only [Bool.and_eq_true] at c
          obtain ⟨c1, c2, c3⟩ := c
          have c1 := Nat.le_of_ble_eq_true c1
          have c2 := Nat.le_of_ble_eq_true c2
          simp only [Option.map_eq_some_iff] at h
          obtain ⟨cs, hf, rfl⟩ := h
          obtain ⟨x, hx1, hx2, hx3⟩ := run_zero (w := w) d hz
          simp only [SV.is] at hx2
          obtain ⟨p1, p2, p3⟩ := svParts_spec hv hps
          have hfr := fill_run d (fun i => some (i * 1, 1)) ps ((parts.map fun (i, x) => (i, e x)).toList) (List.replicate len z) cs (by simp [p1]) (fun k p q hk hq => by
            have hq' : (parts.toList.map fun x => (x.1, e x.2))[k]? = some q := by
              rw [← hq]; simp
            have := p2 k p q hk hq'
            exact ⟨this.1, List.all_eq_true.1 c3 p (List.mem_of_getElem? hk), this.2⟩) hf
          have hok : ∀ c ∈ cs, c.ok d hp := fillCells_ok _ ps _ cs p3 (fun c hc => by
            rw [List.eq_of_mem_replicate hc]
            exact hx3 hp) hf
          have A := hP.alloc (t := el) hok hn hl
          obtain ⟨d', a1, a2, a3, a4, a5⟩ := A
          have e0 : d'.α new = (w.heap.size, 0) := by
            simp only [SV.is, Cell.den, Value.pointer.injEq, Option.some.injEq, Addr.mk.injEq, Nat.add_zero] at a4
            exact Prod.ext a4.1.symm a4.2.1.symm
          refine ⟨.slice (some ⟨w.heap.size, 0, none⟩) len len, _, ?_, d', a1, a2, a3, ?_, a5⟩
          · have hcell : x.cells = #[Cell.den d z] := by rw [hx2]; exact Cell.den_cells d z
            have h2 : ¬ len * 1 > 2 ^ 24 := by omega
            have h3 : ¬ len * 1 = 0 := by omega
            have h4 : (Array.range (len * 1)).map (fun i => (#[Cell.den d z] : Array Value)[i % (#[Cell.den d z] : Array Value).size]!) = (List.replicate len (Cell.den d z)).toArray := by
              apply Array.ext
              · simp
              · intro i hi1 hi2
                simp [Nat.mod_one]
            simp only [execOp, hop, Instr.buildSlice, Sem.run_bind, run_und hu, Result.andThen_ok, run_size hm, h2, h3, if_false, hx1, Sem.run_pure, hcell, h4]
            rw [List.map_replicate] at hfr
            rw [hfr]
            simp [newRow]
          · simp only [SV.is, Cell.den, e0, Nat.add_zero]
      · cases h
    · cases h

theorem storeVar_run {P : Program} {b off n : Nat} {c : List Value} {t ty : TypeId} {x : Value} {vs : List Value} (h : w.heap[b]? = some (.cells c.toArray ty (0, 0))) (ht : sizeT P t = some n)
    (hx : x.cells = vs.toArray) (hn : n = vs.length) (hl : off + vs.length ≤ c.length) (hv : ∀ y ∈ vs, y.oneCell' = true) :
    ∃ w', (storeVar t ⟨b, off, none⟩ x).run P w = .ok () w' ∧ Cut w w' b (.cells (c.take off ++ (vs ++ c.drop (off + vs.length))).toArray ty (0, 0)) := by
  obtain ⟨w', h1, h2⟩ := storeCells_run (P := P) (off := off) vs 0 w c h (by simpa using hl) hv
  refine ⟨w', ?_, by simpa using h2⟩
  simp only [storeVar, Sem.run_bind, run_size ht, Result.andThen_ok, hx, List.size_toArray, hn, ne_eq, not_true_eq_false, if_false]
  simpa using h1

theorem putCells_den (e : E) (k : IntKind) (x : E) : ∀ (es : List E) (j n : Nat), n < es.length → e.den d.Φ d.ρ = ((j + n : Nat) : Int) →
    (putCells e k x j (es.map (Cell.int k))).map (Cell.den d) = ((es.map (Cell.int k)).map (Cell.den d)).set n (.int k (x.den d.Φ d.ρ))
  | [], _, _, h, _ => by simp at h
  | y :: r, j, 0, _, he => by
    simp only [List.map_cons, putCells, Cell.den, E.den, B.den, he, Nat.add_zero, decide_true, if_true, List.set_cons_zero]
    congr 1
    have rest : ∀ (es : List E) (i : Nat), j < i → (putCells e k x i (es.map (Cell.int k))).map (Cell.den d) = (es.map (Cell.int k)).map (Cell.den d) := by
      intro es
      induction es with
      | nil => intro i _; rfl
      | cons z es ih =>
        intro i hi
        have hne : ¬ e.den d.Φ d.ρ = (i : Int) := by rw [he]; omega
        simp only [List.map_cons, putCells, Cell.den, E.den, B.den, hne, decide_false, Bool.false_eq_true, if_false]
        rw [ih (i + 1) (by omega)]
    rw [rest r (j + 1) (by omega)]
  | y :: r, j, n + 1, h, he => by
    have hne : ¬ e.den d.Φ d.ρ = (j : Int) := by rw [he]; omega
    simp only [List.map_cons, putCells, Cell.den, E.den, B.den, hne, decide_false, Bool.false_eq_true, if_false, List.set_cons_succ]
    rw [putCells_den e k x r (j + 1) n (by simpa using h) (by rw [he]; congr 1; omega)]

theorem splice_mem {cs new : List Cell} {off : Nat} {c : Cell} (h : c ∈ splice cs new off) : c ∈ cs ∨ c ∈ new := by
  simp only [splice, List.mem_append] at h
  rcases h with h | h | h
  · exact .inl (List.mem_of_mem_take h)
  · exact .inr h
  · exact .inl (List.mem_of_mem_drop h)

theorem putCells_ok (e : E) (k : IntKind) (x : E) : ∀ (cs : List Cell) (j : Nat), (∀ c ∈ cs, c.ok d hp) → ∀ c ∈ putCells e k x j cs, c.ok d hp
  | [], _, _, c, h => by cases h
  | y :: r, j, hc, c, h => by
    have ih := putCells_ok e k x r (j + 1) (fun c h => hc c (List.mem_cons_of_mem _ h))
    cases y <;> simp only [putCells, List.mem_cons] at h <;> rcases h with h | h
    all_goals first
      | exact ih c h
      | (subst h; exact hc _ List.mem_cons_self)
      | (subst h; trivial)

theorem putCells_length (e : E) (k : IntKind) (x : E) : ∀ (cs : List Cell) (j : Nat), (putCells e k x j cs).length = cs.length
  | [], _ => rfl
  | y :: r, j => by cases y <;> simp [putCells, putCells_length e k x r (j + 1)]

theorem op_store {t : TypeId} {y z : Operand} (hP : HP X d hp w) (hv : Reads d hp v e) (hrd : ∀ id r, rd id = some r → getH hp id = some r)
    (h : opRun C R (.store t y z) v rd new = some r) (ho : o.op = .store t y z) :
    ∃ w', (execOp e o).run C.P w = .ok .skip w' ∧ Aft X d hp (wrAll hp r.wr) r.val undef w' := by
  simp only [opRun] at h
  split at h
  · rename_i id off sz hy hz
    split at h
    · rename_i g hg
      cases c : (noTup sz && g.own && decide (sizeT C.P t = some sz.cells.length) && Nat.ble (off + sz.cells.length) g.cs.length) <;> simp only [c, cond_false, cond_true] at h
      · cases h
      · cases h
        simp only [Bool.and_eq_true, decide_eq_true_eq] at c
        obtain ⟨⟨⟨c1, c2⟩, c3⟩, c4⟩ := c
        have c4 := Nat.le_of_ble_eq_true c4
        have hg := hrd _ _ hg
        have h1 := hv.is _ _ hy
        simp only [SV.is, Cell.den] at h1
        have hr := hP.reg _ _ hg
        unfold RegIs at hr
        rw [if_pos c2] at hr
        have hb : w.heap[(d.α id).1]? = some (.cells (g.cs.map (Cell.den d)).toArray g.ty (0, 0)) := hr.2.2
        obtain ⟨w', g1, g2⟩ := storeVar_run (P := C.P) (w := w) (off := off) (x := e z) (vs := sz.cells.map (Cell.den d)) hb c3 (noTup_cells c1 (hv.is _ _ hz)) (by simp) (by simpa using c4)
          (fun q hq => by obtain ⟨c, _, rfl⟩ := List.mem_map.1 hq; exact Cell.den_oneCell d c)
        refine ⟨w', ?_, d, Agree.refl _ _, Has.setH id _, ?_, undef_is d, undef_ok d _⟩
        · simp only [execOp, ho, h1, Instr.storeAt, Instr.sureAddr, Sem.run_bind, Sem.run_pure, Result.andThen_ok, hr.1, Nat.zero_add, g1]
        · refine hP.write hg c2 (cs := splice g.cs sz.cells off) (fun q hq => ?_) ?_
          · rcases splice_mem hq with hq | hq
            · exact hP.ids _ _ hg q hq
            · exact noTup_ok c1 (hv.ok _ _ hz) q hq
          · simpa [splice, List.map_take, List.map_drop] using g2
    · cases h
  · rename_i id off n ix k x hy hz
    split at h
    · rename_i g hg
      cases c : (g.own && decide (sizeT C.P t = some 1) && Nat.ble (off + n) g.cs.length && (intEs k ((g.cs.drop off).take n)).isSome) <;> simp only [c, cond_false, cond_true] at h
      · cases h
      · cases h
        simp only [Bool.and_eq_true, decide_eq_true_eq] at c
        obtain ⟨⟨⟨c1, c2⟩, c3⟩, c4⟩ := c
        have c3 := Nat.le_of_ble_eq_true c3
        obtain ⟨es, hes⟩ := Option.isSome_iff_exists.1 c4
        have hes := intEs_some hes
        have hg := hrd _ _ hg
        have h1 := hv.is _ _ hy
        have h2 := hv.is _ _ hz
        simp only [SV.is, Cell.den] at h1 h2
        obtain ⟨_, b1, b2⟩ := hv.ok _ _ hy
        obtain ⟨j, hj⟩ := Int.eq_ofNat_of_zero_le b1
        have hjn : j < n := by omega
        have hr := hP.reg _ _ hg
        unfold RegIs at hr
        rw [if_pos c1] at hr
        have hb : w.heap[(d.α id).1]? = some (.cells (g.cs.map (Cell.den d)).toArray g.ty (0, 0)) := hr.2.2
        obtain ⟨w', g1, g2⟩ := storeVar_run (P := C.P) (w := w) (off := off + j) (x := e z) (vs := [.int k (x.den d.Φ d.ρ)]) hb c2 (by rw [h2]; rfl) rfl (by simp; omega)
          (fun q hq => by simp only [List.mem_singleton] at hq; subst hq; rfl)
        refine ⟨w', ?_, d, Agree.refl _ _, Has.setH id _, ?_, undef_is d, undef_ok d _⟩
        · simp only [execOp, ho, h1, Instr.storeAt, Instr.sureAddr, Sem.run_bind, Sem.run_pure, Result.andThen_ok, hr.1, Nat.zero_add, hj, Int.toNat_natCast, Nat.mul_one, g1]
        · refine hP.write hg c1 (cs := splice g.cs (putCells ix k x 0 ((g.cs.drop off).take n)) off) (fun q hq => ?_) ?_
          · rcases splice_mem hq with hq | hq
            · exact hP.ids _ _ hg q hq
            · exact putCells_ok _ _ _ _ _ (fun c hc => hP.ids _ _ hg c (List.mem_of_mem_drop (List.mem_of_mem_take hc))) q hq
          · have hlen : es.length = n := by
              have := congrArg List.length hes
              simp at this; omega
            have hput := putCells_den (d := d) ix k x es 0 j (by omega) (by rw [hj]; congr 1; omega)
            rw [← hes] at hput
            have hl2 : (putCells ix k x 0 ((g.cs.drop off).take n)).length = n := by rw [putCells_length]; simp; omega
            have key : (splice g.cs (putCells ix k x 0 ((g.cs.drop off).take n)) off).map (Cell.den d) =
                (g.cs.map (Cell.den d)).take (off + j) ++ ([.int k (x.den d.Φ d.ρ)] ++ (g.cs.map (Cell.den d)).drop (off + j + 1)) := by
              simp only [splice, List.map_append, hput, hl2]
              have e0 : ((g.cs.map (Cell.den d)).set (off + j) (.int k (x.den d.Φ d.ρ))) = (g.cs.map (Cell.den d)).take (off + j) ++ ([.int k (x.den d.Φ d.ρ)] ++ (g.cs.map (Cell.den d)).drop (off + j + 1)) := by
                rw [List.set_eq_take_append_cons_drop, if_pos (by simp; omega)]; simp
              rw [← e0]
              apply List.ext_getElem?
              intro i
              simp only [List.map_take, List.map_drop]
              rw [List.getElem?_append]
              simp only [List.length_take, List.length_map]
              have ho : min off g.cs.length = off := by omega
              rw [ho]
              split
              · rename_i hi
                rw [List.getElem?_take_of_lt hi, List.getElem?_set_ne (by omega)]
              · rename_i hi
                rw [List.getElem?_append]
                simp only [List.length_set, List.length_take, List.length_drop, List.length_map]
                split
                · rename_i hi2
                  rw [List.getElem?_set, List.getElem?_set]
                  by_cases hij : j = i - off
                  · have : off + j = i := by omega
                    rw [if_pos hij, if_pos this, if_pos (by simp; omega), if_pos (by simp; omega)]
                  · have : ¬ off + j = i := by omega
                    rw [if_neg hij, if_neg this, List.getElem?_take_of_lt (by omega), List.getElem?_drop]
                    congr 1; omega
                · rename_i hi2
                  rw [List.getElem?_drop, List.getElem?_set_ne (by omega)]
                  congr 1; omega
            rw [key]
            simpa using g2
    · cases h
  · cases h

end
end Go.Proofs.Ytaknnjlkpepgaaa.Sx
