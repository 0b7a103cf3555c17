/-
  The symbolic executor: a region that draws its order.
-/
import Derived.Test.YtelfpnkhdaaeoaaDoorSxL
namespace Go.Proofs.YtelfpnkhdaaeoaaDoor.Sx
open Go Go.RowKit

/-- An operation of a region: its place, and the number that a block of its own gets. -/
structure Item where
  ix : Nat
  o : Oper
  nw : Nat

def items (C : Cfg) : List Oper → Nat → Nat → List Item
  | [], _, _ => []
  | o :: r, i, n => ⟨i, o, n⟩ :: items C r (i + 1) (n + newsOf C o.op)

def decOf (Φ : Fns) (ρ : Env) (S : St) (o : Op) : Bool := match pickOf S o with
  | some b => b.den Φ ρ
  | none => true

def runOne (Φ : Fns) (ρ : Env) (C : Cfg) (R : Bds) (ops : Array Oper) (it : Item) (S : St) : Option (Res × Fp) :=
  match opStep C R it.o.op (decOf Φ ρ S it.o.op) S it.nw with
  | some r => some (r, mkFp ops it.ix it.o S r)
  | none => none

def skipOne (ops : Array Oper) (it : Item) : Res × Fp := (⟨.undef, [], []⟩, skipFp ops it.ix it.o)

/-- What an operation does in an environment. -/
def effD (Φ : Fns) (ρ : Env) (C : Cfg) (R : Bds) (ops : Array Oper) (it : Item) (S : St) : Option (Res × Fp) :=
  match guardOf ops S it.o with
  | .run => runOne Φ ρ C R ops it S
  | .skip => some (skipOne ops it)
  | .ask b => if b.den Φ ρ = true then runOne Φ ρ C R ops it S else some (skipOne ops it)
  | .bad => none

section
variable {C : Cfg} {R : Bds} {X : Ctx} {d : Dn} {w : World} {S : St} {a : Act} {Pr : Pres} {Φ : Fns} {ρ : Env} {ops : Array Oper}
  {Q : Exit → Act → World → Prop} {K : Ex → Bds → St → Env → Prop}

/-! ### An operation hangs on what it reads -/
theorem valOf_congr {S S' : St} {q : Op} (h : ∀ t ∈ operandTmps q, getT S'.tmps t = getT S.tmps t) : ∀ x ∈ q.operands, valOf S' x = valOf S x := fun x hx => by
  cases x with
  | tmp t =>
    have : t ∈ operandTmps q := List.mem_filterMap.2 ⟨.tmp t, by simpa using hx, rfl⟩
    simp only [valOf, h t this]
  | _ => rfl

theorem svs_congr {v v' : Operand → Option SV} : ∀ (l : List Operand), (∀ x ∈ l, v' x = v x) → svs v' l = svs v l
  | [], _ => rfl
  | x :: r, h => by
    simp only [svs, h x List.mem_cons_self, svs_congr r fun y hy => h y (List.mem_cons_of_mem _ hy)]
theorem svParts_congr {v v' : Operand → Option SV} : ∀ (l : List (Nat × Operand)), (∀ x ∈ l.map (·.2), v' x = v x) → svParts v' l = svParts v l
  | [], _ => rfl
  | (i, x) :: r, h => by
    simp only [svParts, h x (by simp), svParts_congr r fun y hy => h y (by simp only [List.map_cons, List.mem_cons]; exact .inr hy)]

theorem callOp_congr {v v' : Operand → Option SV} {rd : Nat → Option Reg} (q : Op) (h : ∀ x ∈ q.operands, v' x = v x) : callOp C R v' rd q = callOp C R v rd q := by
  unfold callOp
  cases q with
  | call c =>
    simp only
    cases hc : c.callee with
    | value f =>
      simp only
      rw [h f (by simp [Op.operands, Call.operands, hc]), svs_congr c.args.toList fun x hx => h x (by simp [Op.operands, Call.operands, Array.mem_toList_iff.1 hx])]
    | _ => rfl
  | _ => rfl

theorem opIds_congr {v v' : Operand → Option SV} (q : Op) (h : ∀ x ∈ q.operands, v' x = v x) : opIds v' q = opIds v q := by
  unfold opIds
  cases q with
  | load t x => simp only; rw [h x (by simp [Op.operands])]
  | store t x y => simp only; rw [h x (by simp [Op.operands])]
  | indexAddr t x y => simp only; rw [h x (by simp [Op.operands])]
  | move x => simp only; rw [h x (by simp [Op.operands])]
  | slice t x lo hi mx => simp only; rw [h x (by simp [Op.operands])]
  | convert s t x => simp only; rw [h x (by simp [Op.operands])]
  | call c =>
    simp only
    have : ∀ x ∈ c.args.toList, ptrId (v' x) = ptrId (v x) := fun x hx => by rw [h x (by simp [Op.operands, Call.operands, Array.mem_toList_iff.1 hx])]
    generalize c.args.toList = l at this
    induction l with
    | nil => rfl
    | cons x r ih =>
      simp only [List.flatMap_cons]
      rw [this x List.mem_cons_self, ih fun y hy => this y (List.mem_cons_of_mem _ hy)]
  | binOp op t x y u => simp only [h x (by simp [Op.operands])]
  | _ => rfl

theorem opRun_congr {v v' : Operand → Option SV} {rd : Nat → Option Reg} {new : Nat} (q : Op) (h : ∀ x ∈ q.operands, v' x = v x) : opRun C R q v' rd new = opRun C R q v rd new := by
  cases q with
  | call c =>
    have hc := callOp_congr (C := C) (R := R) (rd := rd) (.call c) h
    simp only [opRun, hc]
    rw [svs_congr c.args.toList fun x hx => h x (by simp [Op.operands, Call.operands, Array.mem_toList_iff.1 hx])]
  | build t ps =>
    simp only [opRun]
    rw [svParts_congr ps.toList fun x hx => h x (by simpa [Op.operands] using hx)]
  | buildSlice t n ps =>
    simp only [opRun]
    rw [svParts_congr ps.toList fun x hx => h x (by simpa [Op.operands] using hx)]
  | move x => simp only [opRun, h x (by simp [Op.operands])]
  | assign x => simp only [opRun, h x (by simp [Op.operands])]
  | box t x => simp only [opRun, h x (by simp [Op.operands])]
  | load t x => simp only [opRun, h x (by simp [Op.operands])]
  | nilCheck x => simp only [opRun, h x (by simp [Op.operands])]
  | unOp u t x => simp only [opRun, h x (by simp [Op.operands])]
  | makeInterface t x => simp only [opRun, h x (by simp [Op.operands])]
  | convert s t x => simp only [opRun, h x (by simp [Op.operands])]
  | fieldAddr s x f => simp only [opRun, h x (by simp [Op.operands])]
  | field s x f => simp only [opRun, h x (by simp [Op.operands])]
  | extract x i => simp only [opRun, h x (by simp [Op.operands])]
  | store t x y => simp only [opRun, h x (by simp [Op.operands]), h y (by simp [Op.operands])]
  | binOp op t x y u => simp only [opRun, h x (by simp [Op.operands]), h y (by simp [Op.operands])]
  | indexAddr t x y => simp only [opRun, h x (by simp [Op.operands]), h y (by simp [Op.operands])]
  | index t x y => simp only [opRun, h x (by simp [Op.operands]), h y (by simp [Op.operands])]
  | sliceToArrayPointer t x => simp only [opRun, h x (by simp [Op.operands])]
  | slice t x lo hi mx =>
    cases lo with
    | some _ => rfl
    | none => cases mx with
      | some _ => rfl
      | none => cases hi with
        | none => simp only [opRun, h x (by simp [Op.operands]), Option.map_none]
        | some y => simp only [opRun, h x (by simp [Op.operands]), Option.map_some, h y (by simp [Op.operands])]
  | alloc t => rfl
  | makeSlice t x y => simp only [opRun, h x (by simp [Op.operands]), h y (by simp [Op.operands])]
  | _ => rfl

/-- The states are alike where the operation looks. -/
structure Alike (S S' : St) (f : Fp) : Prop where
  t : ∀ t ∈ f.rt, getT S'.tmps t = getT S.tmps t
  h : ∀ id ∈ f.rh, getH S'.heap id = getH S.heap id

theorem operandTmps_sub {o : Oper} : ∀ t ∈ operandTmps o.op, t ∈ readsT ops o := fun t ht => by
  unfold readsT
  split
  · split
    · exact List.mem_cons_of_mem _ ht
    · exact ht
  · exact ht

theorem guardOf_congr {S S' : St} {o : Oper} (h : ∀ t ∈ readsT ops o, getT S'.tmps t = getT S.tmps t) : guardOf ops S' o = guardOf ops S o := by
  unfold guardOf
  cases hg : o.guard with
  | none => rfl
  | some gw =>
    obtain ⟨g, want⟩ := gw
    simp only
    cases ht : (ops[g]?).bind (·.dst) with
    | none => rfl
    | some t =>
      simp only
      rw [h t (by unfold readsT; rw [hg]; simp only [ht]; exact List.mem_cons_self)]

theorem pickOf_congr {S S' : St} {q : Op} (h : ∀ x ∈ q.operands, valOf S' x = valOf S x) : pickOf S' q = pickOf S q := by
  unfold pickOf
  cases q with
  | pick c x y => simp only; rw [h c (by simp [Op.operands])]
  | _ => rfl

theorem nested_congr {hp hp' : List (Option Reg)} : ∀ (l : List Nat), (∀ id ∈ l, getH hp' id = getH hp id) → nested hp' l = nested hp l
  | [], _ => rfl
  | id :: r, h => by
    have h1 := h id List.mem_cons_self
    have h2 := nested_congr r fun x hx => h x (List.mem_cons_of_mem _ hx)
    unfold nested at *
    simp only [List.flatMap_cons, h1, h2]
theorem idsOf_congr {S S' : St} (q : Op) (h : ∀ x ∈ q.operands, valOf S' x = valOf S x) (hh : ∀ id ∈ idsOf S q, getH S'.heap id = getH S.heap id) : idsOf S' q = idsOf S q := by
  unfold idsOf at *
  simp only [opIds_congr q h]
  rw [nested_congr _ fun id hid => hh id (List.mem_append_left _ hid)]

theorem copyRun_congr {v v' : Operand → Option SV} {rd : Nat → Option Reg} {new g : Nat} {p : PSh} {tys : List TypeId} (q : Op) (h : ∀ x ∈ q.operands, v' x = v x) :
    copyRun C R v' rd new g p tys q = copyRun C R v rd new g p tys q := by
  cases q with
  | call c =>
    simp only [copyRun]
    rw [svs_congr c.args.toList fun x hx => h x (by simp [Op.operands, Call.operands, Array.mem_toList_iff.1 hx])]
  | _ => rfl

theorem subRun_congr {v v' : Operand → Option SV} {rd : Nat → Option Reg} {new : Nat} (q : Op) (h : ∀ x ∈ q.operands, v' x = v x) : subRun C R v' rd new q = subRun C R v rd new q := by
  cases q with
  | slice t x lo hi mx =>
    cases lo with
    | some _ => rfl
    | none => cases mx with
      | some _ => cases hi <;> rfl
      | none =>
        cases hi with
        | none => rfl
        | some y =>
          have hb : ∀ len, bndE v' len (some y) = bndE v len (some y) := fun len => by
            simp only [bndE, h y (by simp [Op.operands])]
          simp only [subRun, h x (by simp [Op.operands]), hb]
  | _ => rfl
theorem bslRun_congr {v v' : Operand → Option SV} {new : Nat} (q : Op) (h : ∀ x ∈ q.operands, v' x = v x) : bslRun C R v' new q = bslRun C R v new q := by
  unfold bslRun
  split
  · rename_i t n ps
    rw [opRun_congr (rd := fun _ => none) (.buildSlice t n ps) h]
  · rfl
theorem opStep_congr {S S' : St} {o : Oper} {dec : Bool} {new : Nat} (h : ∀ x ∈ o.op.operands, valOf S' x = valOf S x) (hh : ∀ id ∈ idsOf S o.op, getH S'.heap id = getH S.heap id) :
    opStep C R o.op dec S' new = opStep C R o.op dec S new := by
  unfold opStep
  split
  · rename_i c x y hop
    rw [h c (by rw [hop]; simp [Op.operands])]
    have : valOf S' (bif dec then x else y) = valOf S (bif dec then x else y) := by
      cases dec
      · exact h y (by rw [hop]; simp [Op.operands])
      · exact h x (by rw [hop]; simp [Op.operands])
    rw [this]
  · have hi : idsOf S' o.op = idsOf S o.op := idsOf_congr o.op h hh
    have hrd : (fun id => bif memN id (idsOf S' o.op) then getH S'.heap id else none) = fun id => bif memN id (idsOf S o.op) then getH S.heap id else none := by
      rw [hi]
      funext id
      cases c : memN id (idsOf S o.op)
      · rfl
      · simp only [cond_true]; exact hh id (memN_iff.1 c)
    rw [opRun_congr o.op h, hrd, subRun_congr o.op h, moreRun_congr o.op h, bslRun_congr o.op h]
    split
    · rename_i g p tys _
      rw [copyRun_congr o.op h]
    · split
      · rfl
      split
      · rfl
      · split
        · rename_i c hap
          exact appRun_congr c fun x hx => h x (by
            unfold appOp at hap
            split at hap
            · rename_i c' hop
              split at hap
              · cases hap
                rw [hop]
                simp [Op.operands, Call.operands, Array.mem_toList_iff.1 hx]
              · cases hap
            · cases hap)
        · rfl

theorem runOne_congr {it : Item} {S S' : St} {r : Res} {f : Fp} (h : runOne Φ ρ C R ops it S = some (r, f)) (ha : Alike S S' f) : runOne Φ ρ C R ops it S' = some (r, f) := by
  unfold runOne at h ⊢
  cases hs : opStep C R it.o.op (decOf Φ ρ S it.o.op) S it.nw with
  | none => rw [hs] at h; cases h
  | some r' =>
    rw [hs] at h
    simp only [Option.some.injEq, Prod.mk.injEq] at h
    obtain ⟨rfl, rfl⟩ := h
    have hv := valOf_congr (q := it.o.op) fun t ht => ha.t t (operandTmps_sub (ops := ops) t ht)
    have hd : decOf Φ ρ S' it.o.op = decOf Φ ρ S it.o.op := by unfold decOf; rw [pickOf_congr hv]
    rw [hd, opStep_congr hv ha.h, hs]
    simp only [mkFp, idsOf_congr it.o.op hv ha.h]

theorem fp_of_run {it : Item} {S : St} {r : Res} {f : Fp} (h : runOne Φ ρ C R ops it S = some (r, f)) : f = mkFp ops it.ix it.o S r ∧ opStep C R it.o.op (decOf Φ ρ S it.o.op) S it.nw = some r := by
  unfold runOne at h
  split at h
  · simp only [Option.some.injEq, Prod.mk.injEq] at h
    obtain ⟨rfl, rfl⟩ := h
    exact ⟨rfl, by assumption⟩
  · cases h

/-- The form of an operation's trace. -/
theorem effD_fp {it : Item} {S : St} {r : Res} {f : Fp} (h : effD Φ ρ C R ops it S = some (r, f)) :
    f.ix = it.ix ∧ f.rt = readsT ops it.o ∧ f.wt = it.o.dst ∧ f.wh = r.wr.map (·.1) ∧ ∀ x ∈ r.wr, (getH S.heap x.1).isSome = true ∨ (it.nw ≤ x.1 ∧ x.1 < it.nw + newsOf C it.o.op) := by
  have run : runOne Φ ρ C R ops it S = some (r, f) → f.ix = it.ix ∧ f.rt = readsT ops it.o ∧ f.wt = it.o.dst ∧ f.wh = r.wr.map (·.1) ∧ ∀ x ∈ r.wr, (getH S.heap x.1).isSome = true ∨ (it.nw ≤ x.1 ∧ x.1 < it.nw + newsOf C it.o.op) := fun h => by
    obtain ⟨rfl, h2⟩ := fp_of_run h
    exact ⟨rfl, rfl, rfl, rfl, opStep_wr h2⟩
  have skip : some (skipOne ops it) = some (r, f) → f.ix = it.ix ∧ f.rt = readsT ops it.o ∧ f.wt = it.o.dst ∧ f.wh = r.wr.map (·.1) ∧ ∀ x ∈ r.wr, (getH S.heap x.1).isSome = true ∨ (it.nw ≤ x.1 ∧ x.1 < it.nw + newsOf C it.o.op) := fun h => by
    simp only [skipOne, Option.some.injEq, Prod.mk.injEq] at h
    obtain ⟨rfl, rfl⟩ := h
    exact ⟨rfl, rfl, rfl, rfl, fun x hx => by cases hx⟩
  unfold effD at h
  split at h
  · exact run h
  · exact skip h
  · split at h
    · exact run h
    · exact skip h
  · cases h

theorem effD_congr {it : Item} {S S' : St} {r : Res} {f : Fp} (h : effD Φ ρ C R ops it S = some (r, f)) (ha : Alike S S' f) : effD Φ ρ C R ops it S' = some (r, f) := by
  have hrt := (effD_fp h).2.1
  have hg : guardOf ops S' it.o = guardOf ops S it.o := guardOf_congr fun t ht => ha.t t (by rw [hrt]; exact ht)
  unfold effD at h ⊢
  rw [hg]
  split at h
  · exact runOne_congr h ha
  · exact h
  · split at h
    · rename_i hb; rw [if_pos hb]; exact runOne_congr h ha
    · rename_i hb; rw [if_neg hb]; exact h
  · cases h

/-! ### Two operations that are apart -/
theorem disj_spec : ∀ {l m : List Nat}, disj l m = true → ∀ x, x ∈ l → x ∉ m
  | [], _, _, x, hx, _ => by cases hx
  | y :: r, m, h, x, hx, hm => by
    simp only [disj, Bool.and_eq_true, Bool.not_eq_true'] at h
    cases hx with
    | head => rw [memN_iff.2 hm] at h; exact absurd h.1 (by simp)
    | tail _ hx => exact disj_spec h.2 x hx hm

theorem setT_comm : ∀ (l : List SV) (i j : Nat) (x y : SV), i ≠ j → setT (setT l i x) j y = setT (setT l j y) i x
  | [], _, _, _, _, _ => rfl
  | _ :: _, 0, 0, _, _, h => absurd rfl h
  | _ :: _, 0, j + 1, _, _, _ => rfl
  | _ :: _, i + 1, 0, _, _, _ => rfl
  | a :: r, i + 1, j + 1, x, y, h => by simp only [setT, setT_comm r i j x y (by omega)]
theorem setH_comm : ∀ (l : List (Option Reg)) (i j : Nat) (x y : Option Reg), i ≠ j → setH (setH l i x) j y = setH (setH l j y) i x
  | [], _, _, _, _, _ => rfl
  | _ :: _, 0, 0, _, _, h => absurd rfl h
  | _ :: _, 0, j + 1, _, _, _ => rfl
  | _ :: _, i + 1, 0, _, _, _ => rfl
  | a :: r, i + 1, j + 1, x, y, h => by simp only [setH, setH_comm r i j x y (by omega)]

theorem put_tmps_ne {r : Res} {dst : Option Nat} {S : St} {t : Nat} (h : ∀ x, dst = some x → x ≠ t) : getT (r.put dst S).tmps t = getT S.tmps t := by
  cases dst with
  | none => rfl
  | some x => exact getT_setT_ne _ _ _ _ (h x rfl)
theorem put_heap_ne {r : Res} {dst : Option Nat} {S : St} {id : Nat} (h : id ∉ r.wr.map (·.1)) : getH (r.put dst S).heap id = getH S.heap id :=
  wrAll_ne _ _ _ fun x hx e => h (List.mem_map.2 ⟨x, hx, e⟩)

theorem setH_wrAll : ∀ (ws : List (Nat × Reg)) (hp : List (Option Reg)) (k : Nat) (g : Option Reg), k ∉ ws.map (·.1) → wrAll (setH hp k g) ws = setH (wrAll hp ws) k g
  | [], _, _, _, _ => rfl
  | (id, r) :: ws, hp, k, g, h => by
    simp only [List.map_cons, List.mem_cons, not_or] at h
    simp only [wrAll]
    rw [setH_comm _ _ _ _ _ h.1, setH_wrAll ws _ k g h.2]
theorem wrAll_comm : ∀ (a b : List (Nat × Reg)) (hp : List (Option Reg)), (∀ k, k ∈ a.map (·.1) → k ∉ b.map (·.1)) → wrAll (wrAll hp a) b = wrAll (wrAll hp b) a
  | [], _, _, _ => rfl
  | (id, r) :: a, b, hp, h => by
    simp only [wrAll]
    rw [wrAll_comm a b _ fun k hk => h k (List.mem_cons_of_mem _ hk), setH_wrAll b hp id _ (h id List.mem_cons_self)]

theorem apart_alike {S : St} {r : Res} {f g : Fp} {dst : Option Nat} (hw : f.wt = dst) (hh : f.wh = r.wr.map (·.1))
    (h1 : disj (optL f.wt) g.rt = true) (h2 : disj f.wh g.rh = true) : Alike S (r.put dst S) g where
  t := fun t ht => put_tmps_ne fun x hx e => by
    subst e
    exact disj_spec h1 x (by rw [hw, hx]; exact List.mem_singleton_self x) ht
  h := fun id hid => put_heap_ne fun hm => disj_spec h2 id (by rw [hh]; exact hm) hid

theorem Alike.symm {S S' : St} {f : Fp} (h : Alike S S' f) : Alike S' S f := ⟨fun t ht => (h.t t ht).symm, fun i hi => (h.h i hi).symm⟩

theorem commute {x y : Item} {S : St} {rx ry : Res} {fx fy : Fp} (hx : effD Φ ρ C R ops x S = some (rx, fx)) (hy : effD Φ ρ C R ops y (rx.put x.o.dst S) = some (ry, fy)) (ha : fx.apart fy = true) :
    effD Φ ρ C R ops y S = some (ry, fy) ∧ effD Φ ρ C R ops x (ry.put y.o.dst S) = some (rx, fx) ∧ rx.put x.o.dst (ry.put y.o.dst S) = ry.put y.o.dst (rx.put x.o.dst S) := by
  simp only [Fp.apart, Bool.and_eq_true] at ha
  obtain ⟨a1, a2, a3, a4, a5, a6⟩ := ha
  obtain ⟨_, x2, x3, x4, x5⟩ := effD_fp hx
  obtain ⟨_, y2, y3, y4, y5⟩ := effD_fp hy
  have e1 : effD Φ ρ C R ops y S = some (ry, fy) := effD_congr hy (apart_alike x3 x4 a1 a4).symm
  have e2 : effD Φ ρ C R ops x (ry.put y.o.dst S) = some (rx, fx) := effD_congr hx (apart_alike y3 y4 a3 a6)
  refine ⟨e1, e2, ?_⟩
  have ht : ((rx.put x.o.dst (ry.put y.o.dst S)).tmps) = ((ry.put y.o.dst (rx.put x.o.dst S)).tmps) := by
    cases hdx : x.o.dst with
    | none => cases hdy : y.o.dst <;> rfl
    | some i => cases hdy : y.o.dst with
      | none => rfl
      | some j =>
        simp only [Res.put, St.put]
        refine setT_comm _ _ _ _ _ fun e => ?_
        subst e
        exact disj_spec a2 j (by rw [x3, hdx]; exact List.mem_singleton_self j) (by rw [y3, hdy]; exact List.mem_singleton_self j)
  have hh : ((rx.put x.o.dst (ry.put y.o.dst S)).heap) = ((ry.put y.o.dst (rx.put x.o.dst S)).heap) := by
    exact wrAll_comm _ _ _ fun k hk hm => disj_spec a5 k (by rw [x4]; exact hm) (by rw [y4]; exact hk)
  cases hl : rx.put x.o.dst (ry.put y.o.dst S)
  cases hr : ry.put y.o.dst (rx.put x.o.dst S)
  rw [hl, hr] at ht hh
  simp only at ht hh
  rw [ht, hh]

/-! ### Runs -/
/-- The operations one after the other; what they ask, one by one. -/
def Runs (Φ : Fns) (ρ : Env) (Pr : Pres) (C : Cfg) (R : Bds) (ops : Array Oper) : List Item → St → St → List Fp → List (List O) → Prop
  | [], S, Sf, fs, oss => S = Sf ∧ fs = [] ∧ oss = []
  | it :: l, S, Sf, fs, oss => ∃ r f fs' oss', effD Φ ρ C R ops it S = some (r, f) ∧ OsHold Φ Pr ρ r.os ∧ fs = f :: fs' ∧ oss = r.os :: oss' ∧ ((panEs r.os).isEmpty || isPanOp C it.o.op) = true ∧
      Runs Φ ρ Pr C R ops l (r.put it.o.dst S) Sf fs' oss'

theorem Runs.fps : ∀ {l : List Item} {S Sf : St} {fs : List Fp} {oss : List (List O)}, Runs Φ ρ Pr C R ops l S Sf fs oss → fs.map (·.ix) = l.map (·.ix) ∧ oss.length = l.length
  | [], _, _, _, _, ⟨_, h, h'⟩ => by subst h h'; exact ⟨rfl, rfl⟩
  | it :: l, _, _, _, _, ⟨r, f, fs', oss', h1, _, h3, h3', _, h4⟩ => by
    subst h3 h3'
    simp only [List.map_cons, (effD_fp h1).1, (Runs.fps h4).1, List.length_cons, (Runs.fps h4).2, and_self]

/-- Where a code is asked of, an operation that may panic stands. -/
theorem Runs.pan : ∀ {l1 l2 : List Item} {S Sf : St} {fs : List Fp} {os1 os2 : List (List O)}, Runs Φ ρ Pr C R ops (l1 ++ l2) S Sf fs (os1 ++ os2) → os1.length = l1.length →
    ∀ o ∈ os1, ∀ e, O.pan e ∈ o → ∃ x ∈ l1, isPanOp C x.o.op = true
  | [], _, _, _, _, os1, _, _, hl, o, ho, _, _ => by
    have : os1 = [] := List.length_eq_zero_iff.1 hl
    subst this; cases ho
  | x :: l1, l2, _, _, _, [], _, _, hl, _, _, _, _ => by simp at hl
  | x :: l1, l2, _, _, _, p :: os1, os2, ⟨r, f, fs', oss', h1, _, _, h3', hd, h4⟩, hl, o, ho, e, he => by
    simp only [List.cons_append, List.cons.injEq] at h3'
    obtain ⟨rfl, rfl⟩ := h3'
    cases ho with
    | head =>
      refine ⟨x, List.mem_cons_self, ?_⟩
      simp only [Bool.or_eq_true] at hd
      rcases hd with hd | hd
      · have := mem_panEs.2 he
        rw [List.isEmpty_iff.1 hd] at this
        cases this
      · exact hd
    | tail _ ho =>
      obtain ⟨y, hy, hy'⟩ := Runs.pan h4 (by simpa using hl) o ho e he
      exact ⟨y, List.mem_cons_of_mem _ hy, hy'⟩

/-- An operation that is apart from all ahead of it may be taken first. -/
theorem Runs.front : ∀ {l1 l2 : List Item} {it : Item} {S Sf : St} {fs1 fs2 : List Fp} {f : Fp} {os1 os2 : List (List O)} {o : List O}, Runs Φ ρ Pr C R ops (l1 ++ it :: l2) S Sf (fs1 ++ f :: fs2) (os1 ++ o :: os2) → fs1.length = l1.length → os1.length = l1.length →
    (∀ g ∈ fs1, g.apart f = true) → ∃ r, effD Φ ρ C R ops it S = some (r, f) ∧ OsHold Φ Pr ρ r.os ∧ r.os = o ∧ ((panEs r.os).isEmpty || isPanOp C it.o.op) = true ∧ Runs Φ ρ Pr C R ops (l1 ++ l2) (r.put it.o.dst S) Sf (fs1 ++ fs2) (os1 ++ os2)
  | [], l2, it, S, Sf, fs1, fs2, f, os1, os2, o, h, hl, hlo, _ => by
    have : fs1 = [] := List.length_eq_zero_iff.1 hl
    subst this
    have : os1 = [] := List.length_eq_zero_iff.1 hlo
    subst this
    obtain ⟨r, f', fs', oss', h1, h2, h3, h3', hd, h4⟩ := h
    simp only [List.nil_append, List.cons.injEq] at h3 h3'
    obtain ⟨rfl, rfl⟩ := h3
    obtain ⟨rfl, rfl⟩ := h3'
    exact ⟨r, h1, h2, rfl, hd, h4⟩
  | x :: l1, l2, it, S, Sf, [], fs2, f, _, _, _, h, hl, _, _ => by simp at hl
  | x :: l1, l2, it, S, Sf, g :: fs1, fs2, f, [], _, _, h, _, hlo, _ => by simp at hlo
  | x :: l1, l2, it, S, Sf, g :: fs1, fs2, f, p :: os1, os2, o, h, hl, hlo, hap => by
    obtain ⟨rx, fx, fs', oss', h1, h2, h3, h3', hd, h4⟩ := h
    simp only [List.cons_append, List.cons.injEq] at h3 h3'
    obtain ⟨rfl, rfl⟩ := h3
    obtain ⟨rfl, rfl⟩ := h3'
    obtain ⟨r, k1, k2, k2', kd, k3⟩ := Runs.front h4 (by simpa using hl) (by simpa using hlo) fun q hq => hap q (List.mem_cons_of_mem _ hq)
    obtain ⟨c1, c2, c3⟩ := commute h1 k1 (hap g List.mem_cons_self)
    exact ⟨r, c1, k2, k2', kd, rx, g, fs1 ++ fs2, os1 ++ os2, c2, h2, rfl, rfl, hd, by rw [c3]; exact k3⟩

/-! ### Calls that may panic -/
theorem isPanOp_some {q : Op} (h : isPanOp C q = true) : ∃ c g, q = .call c ∧ c.callee = .value (.func g) ∧ memN g C.pfs = true := by
  unfold isPanOp at h
  split at h
  · rename_i c
    split at h
    · rename_i g hc
      exact ⟨c, g, rfl, hc, h⟩
    · cases h
  · cases h
theorem must_nopan {b : B} {e : E} : O.pan e ∉ must b := by
  unfold must
  split
  · exact fun h => by cases h
  · intro h
    cases h with
    | tail _ h => cases h
/-- An operation's step: it goes on only where no code is told. -/
theorem opStep_wpZ (hC : CTs C d.Φ Pr) (hR : RV d.Φ R d.ρ) (h : Sat X d S a w) {o : Oper} {r : Res} {new : Nat} {dec : Bool} (hr : opStep C R o.op dec S new = some r) (hdec : ∀ b, pickOf S o.op = some b → b.den d.Φ d.ρ = dec)
    (hnew : ∀ k, new ≤ k → k < new + newsOf C o.op → getH S.heap k = none ∧ k < S.heap.length) (hos : OsHold d.Φ Pr d.ρ r.os)
    (hdyn : ((panEs r.os).isEmpty || isPanOp C o.op) = true)
    (hpan : ∀ e, O.pan e ∈ r.os → (∀ e', O.pan e' ∈ r.os → e' = e) → e.den d.Φ d.ρ ≠ 0 → ∀ w', Bl X w' → Q (.panic (panicV C.pty (e.den d.Φ d.ρ))) a w') {K' : Act → World → Prop}
    (hK : (∀ e, O.pan e ∈ r.os → e.den d.Φ d.ρ = 0) → ∀ d' a' w', Agree S.heap d d' → Sat X d' (r.put o.dst S) a' w' → K' a' w') : o.wp C.P a w K' Q := by
  cases hp : isPanOp C o.op with
  | false =>
    rw [hp, Bool.or_false] at hdyn
    have hno : ∀ e, O.pan e ∈ r.os → False := fun e he => by
      have := mem_panEs.2 he
      rw [List.isEmpty_iff.1 hdyn] at this
      cases this
    exact opStep_wp hC hR h hr hdec hnew hos (fun e he => (hno e he).elim) (hK fun e he => (hno e he).elim)
  | true =>
    obtain ⟨c, g, hop, hc, hg⟩ := isPanOp_some hp
    have hr0 := hr
    unfold opStep at hr
    rw [hop] at hr
    simp only at hr
    split at hr
    · rename_i g' p tys hcf
      suffices hno : ∀ e, O.pan e ∈ r.os → False from opStep_wp hC hR h hr0 hdec hnew hos (fun e he => (hno e he).elim) (hK fun e he => (hno e he).elim)
      intro e he
      rw [Option.bind_eq_some_iff] at hr
      obtain ⟨r1, h1, h2⟩ := hr
      have e1 : r.os = r1.os := by
        unfold Res.one at h2
        split at h2
        · split at h2
          · cases h2; rfl
          · cases h2
        · cases h2; rfl
      have hno : ∀ ls : List L, O.pan e ∉ cpOs R ls := fun ls hm => by
        unfold cpOs at hm
        obtain ⟨l, _, hl⟩ := List.mem_flatMap.1 hm
        exact must_nopan hl
      rw [e1] at he
      unfold copyRun at h1
      simp only at h1
      split at h1
      · split at h1
        · simp only [cond_eq_ite] at h1
          split at h1
          · split at h1
            · cases h1; exact hno _ he
            · cases h1; exact hno _ he
            · cases h1
          · cases h1
        · cases h1
      · cases h1
    · have e1 : ∀ rd, subRun C R (valOf S) rd new (.call c) = none := fun rd => rfl
      have e2 : ∀ rd, moreRun C R (valOf S) rd (.call c) = none := fun rd => by simp only [moreRun, hc]
      have e3 : appOp (.call c) = none := by simp only [appOp, hc]
      have e4 : nilOp C (.call c) = none := rfl
      have e5 : bslRun C R (valOf S) new (.call c) = none := rfl
      rw [e1] at hr
      simp only at hr
      rw [e2] at hr
      simp only [e3, e4, e5] at hr
      simp only [opRun, hc] at hr
      split at hr
      · rename_i g1 s as hg1
        have hg2 := hg1
        obtain ⟨c', f', args, q1, q2, q3, _⟩ := callOp_some hg1
        cases q1
        rw [hc] at q2
        cases q2
        simp only [valOf, Option.some.injEq, SV.one.injEq, Cell.fn.injEq] at q3
        subst q3
        simp only [hg, cond_true] at hr
        cases hpk : (isPanOp C (.call c) && pfOk s) <;> simp only [hpk, cond_false, cond_true] at hr
        · cases hr
        simp only [Option.map_eq_some_iff] at hr
        obtain ⟨sv, hsv, rfl⟩ := hr
        have e0 : (E.app g 0 as).den d.Φ d.ρ = (d.Φ g (as.denE d.Φ d.ρ) (as.denL d.Φ d.ρ)).1.getD 0 0 := rfl
        have hone : ∀ e, O.pan e ∈ (bif s.total then [] else [O.pre g as]) ++ [O.pan (.app g 0 as)] → e = .app g 0 as := fun e he => by
          rcases List.mem_append.1 he with he | he
          · cases ht : s.total <;> simp [ht] at he
          · simpa using he
        refine pcall_wp hC hR h.hp rfl h.reads rd_ok (by rw [hop]; exact hg2) hg ?_ (fun w' hw' h0 => ?_) fun w' hw' h0 => ?_
        · cases ht : s.total
          · right
            have := hos (.pre g as) (by simp [ht])
            exact this
          · exact .inl rfl
        · have hi := resSV_is (d := d) hsv
          rw [resComps_den hR] at hi
          exact hK (fun e he => by rw [hone e he, e0]; exact h0) d _ w' (Agree.refl _ _) (Sat.after (r := ⟨sv, [], (bif s.total then [] else [.pre g as]) ++ [.pan (.app g 0 as)]⟩) h (Agree.refl _ _) (Has.refl _) hw' hi (resSV_ok hsv (resComps_plain R g as s.res.tail 1)) o.dst)
        · have := hpan (.app g 0 as) (by simp) hone (by rw [e0]; exact h0) w' hw'
          rw [e0] at this
          exact this
      · cases hr

/-! ### Every order -/
theorem effD_wp {it : Item} {r : Res} {f : Fp} {K' : Act → World → Prop} (hC : CTs C d.Φ Pr) (hR : RV d.Φ R d.ρ) (h : Sat X d S a w) (ho : ops[it.ix]? = some it.o)
    (he : effD d.Φ d.ρ C R ops it S = some (r, f)) (hos : OsHold d.Φ Pr d.ρ r.os) (hn : ∀ k, it.nw ≤ k → k < it.nw + newsOf C it.o.op → getH S.heap k = none ∧ k < S.heap.length)
    (hdyn : ((panEs r.os).isEmpty || isPanOp C it.o.op) = true)
    (hpan : ∀ e, O.pan e ∈ r.os → (∀ e', O.pan e' ∈ r.os → e' = e) → e.den d.Φ d.ρ ≠ 0 → ∀ w', Bl X w' → Q (.panic (panicV C.pty (e.den d.Φ d.ρ))) a w')
    (hK : (∀ e, O.pan e ∈ r.os → e.den d.Φ d.ρ = 0) → ∀ d' a' w', Agree S.heap d d' → Sat X d' (r.put it.o.dst S) a' w' → K' a' w') : wpOp C.P ops Q it.ix K' a w := by
  have hg := guardOf_spec (ops := ops) (o := it.o) h
  have run : runOne d.Φ d.ρ C R ops it S = some (r, f) → it.o.wp C.P a w K' Q := fun hr => by
    refine opStep_wpZ hC hR h (fp_of_run hr).2 (fun b hb => ?_) hn hos hdyn hpan hK
    simp only [decOf, hb]
  have skip : some (skipOne ops it) = some (r, f) → K' (a.put it.o.dst undef) w := fun hr => by
    simp only [skipOne, Option.some.injEq, Prod.mk.injEq] at hr
    obtain ⟨rfl, rfl⟩ := hr
    have := skip_sat h it.o.dst
    refine hK (fun e he => by cases he) d _ w (Agree.refl _ _) ?_
    cases hd : it.o.dst <;> rw [hd] at this <;> exact this
  unfold wpOp
  simp only [ho]
  unfold effD at he
  cases hgd : guardOf ops S it.o with
  | run =>
    rw [hgd] at he hg
    simp only at hg he
    rw [if_pos hg]; exact .inl (run he)
  | skip =>
    rw [hgd] at he hg
    simp only at hg he
    rw [if_neg (by rw [hg]; simp)]; exact skip he
  | ask b =>
    rw [hgd] at he hg
    simp only at hg he
    split at he
    · rename_i hb; rw [if_pos (by rw [hg]; exact hb)]; exact .inl (run he)
    · rename_i hb; rw [if_neg (by rw [hg]; exact hb)]; exact skip he
  | bad => rw [hgd] at he; cases he

theorem predsOf_spec {j : Nat} {o : Oper} (h : ops[j]? = some o) {p : Nat} (hp : p ∈ predsOf ops j) : ∃ e ∈ o.after, Region.binds .any e = true ∧ e.on = p := by
  unfold predsOf at hp
  rw [h] at hp
  simp only [List.mem_map, List.mem_filter] at hp
  obtain ⟨e, ⟨h1, h2⟩, h3⟩ := hp
  exact ⟨e, by simpa using h1, h2, h3⟩

theorem chain_listed {listed : Array Bool} (hcl : ∀ j, listed.getD j false = true → ∀ p ∈ predsOf ops j, listed.getD p false = true) (x : Nat) :
    ∀ (n b : Nat), chainB ops x n b = true → (∀ p ∈ predsOf ops b, listed.getD p false = true) → listed.getD x false = true
  | 0, _, h, _ => by cases h
  | n + 1, b, h, hb => by
    simp only [chainB, Bool.or_eq_true, List.any_eq_true, Bool.and_eq_true] at h
    rcases h with h | ⟨p, hp, _, h⟩
    · exact hb x (memN_iff.1 h)
    · exact chain_listed hcl x n p h (hcl p (hb p hp))

theorem any_sound {Sf : St} (hC : CTs C Φ Pr) (hR : RV Φ R ρ) (hE : ∀ j p, p ∈ predsOf ops j → p < j)
    (hPO : ∀ i j x y, i < j → ops[i]? = some x → ops[j]? = some y → isPanOp C x.op = true → isPanOp C y.op = true → chainB ops i 12 j = true) :
    ∀ (n : Nat) (T : List Item) (listed : Array Bool) (S : St) (fs : List Fp) (oss : List (List O)) (d : Dn) (a : Act) (w : World), T.length = n → d.Φ = Φ → d.ρ = ρ →
      (∀ it ∈ T, ops[it.ix]? = some it.o) → listed.size = ops.size → (∀ j, listed.getD j true = false ↔ ∃ it ∈ T, it.ix = j) → T.Pairwise (fun x y => x.ix < y.ix) →
      (∀ j, listed.getD j false = true → ∀ p ∈ predsOf ops j, listed.getD p false = true) →
      ((∀ o ∈ oss, ∀ e, O.pan e ∈ o → e.den Φ ρ = 0) → ∀ d' a' w', d'.Φ = Φ → d'.ρ = ρ → Sat X d' Sf a' w' → Q .normal a' w') →
      (∀ os1 o os2, oss = os1 ++ o :: os2 → (∀ o' ∈ os1, ∀ e, O.pan e ∈ o' → e.den Φ ρ = 0) → ∀ e, O.pan e ∈ o → (∀ e', O.pan e' ∈ o → e' = e) → e.den Φ ρ ≠ 0 → ∀ a' w', a'.defers = [] → Bl X w' → Q (.panic (panicV C.pty (e.den Φ ρ))) a' w') →
      Runs Φ ρ Pr C R ops T S Sf fs oss → fs.Pairwise (fun x y => x.apart y = true ∨ chainB ops x.ix 4 y.ix = true) →
      (∀ it ∈ T, ∀ k, it.nw ≤ k → k < it.nw + newsOf C it.o.op → getH S.heap k = none ∧ k < S.heap.length) → T.Pairwise (fun x y => x.nw + newsOf C x.o.op ≤ y.nw) →
      Sat X d S a w → wpAny C.P .any ops Q n listed a w := by
  intro n
  induction n with
  | zero =>
    intro T listed S fs oss d a w hl hd hd' hv hsz hun hso hcl hQ hP hr hord hfr hdi h
    have : T = [] := List.length_eq_zero_iff.1 hl
    subst this
    obtain ⟨h1, _, h2⟩ := hr
    subst h1 h2
    refine ⟨?_, hQ (fun o ho => by cases ho) d a w hd hd' h⟩
    apply List.eq_nil_iff_forall_not_mem.2
    intro j hj
    have := (hun j).1 (mem_ready.1 hj).1
    obtain ⟨_, hm, _⟩ := this
    cases hm
  | succ n ih =>
    intro T listed S fs oss d a w hl hd hd' hv hsz hun hso hcl hQ hP hr hord hfr hdi h
    refine ⟨fun hnil => ?_, fun i hi => ?_⟩
    · -- the first one is ready
      exfalso
      cases T with
      | nil => simp at hl
      | cons it T =>
        have hit := hv it List.mem_cons_self
        have hlt : it.ix < ops.size := (Array.getElem?_eq_some_iff.1 hit).1
        have : it.ix ∈ Region.ready .any ops listed := mem_ready.2 ⟨(hun it.ix).2 ⟨it, List.mem_cons_self, rfl⟩, it.o, hit, fun e he hb => by
          have hp : e.on ∈ predsOf ops it.ix := by
            unfold predsOf; rw [hit]
            simp only [List.mem_map, List.mem_filter]
            exact ⟨e, ⟨by simpa using he, hb⟩, rfl⟩
          have hlt' := hE _ _ hp
          cases hq : listed.getD e.on false with
          | true => rfl
          | false =>
            have hs : e.on < listed.size := by omega
            have : listed.getD e.on true = false := by simp [hs] at hq ⊢; exact hq
            obtain ⟨x, hx, hxe⟩ := (hun e.on).1 this
            cases hx with
            | head => omega
            | tail _ hx =>
              have := List.rel_of_pairwise_cons hso hx
              omega⟩
        rw [hnil] at this; cases this
    · obtain ⟨h1, o, ho, hpre⟩ := mem_ready.1 hi
      obtain ⟨it, hm, hix⟩ := (hun i).1 h1
      obtain ⟨T1, T2, rfl⟩ := List.append_of_mem hm
      obtain ⟨hfl, hol⟩ := hr.fps
      have hlen : fs.length = T1.length + (T2.length + 1) := by
        have := congrArg List.length hfl; simpa using this
      obtain ⟨os1, ob, os2, rfl, ho1⟩ : ∃ os1 ob os2, oss = os1 ++ ob :: os2 ∧ os1.length = T1.length := by
        simp only [List.length_append, List.length_cons] at hol
        have hlt : T1.length < oss.length := by omega
        refine ⟨oss.take T1.length, oss[T1.length], oss.drop (T1.length + 1), ?_, by simp; omega⟩
        rw [List.getElem_cons_drop]; simp
      obtain ⟨fs1, f, fs2, rfl, hl1⟩ : ∃ fs1 f fs2, fs = fs1 ++ f :: fs2 ∧ fs1.length = T1.length := by
        have hlt : T1.length < fs.length := by omega
        refine ⟨fs.take T1.length, fs[T1.length], fs.drop (T1.length + 1), ?_, by simp; omega⟩
        rw [List.getElem_cons_drop]; simp
      have hf : f.ix = it.ix ∧ fs1.map (·.ix) = T1.map (·.ix) := by
        simp only [List.map_append, List.map_cons] at hfl
        have := List.append_inj hfl (by simp [hl1])
        simp only [List.cons.injEq] at this
        exact ⟨this.2.1, this.1⟩
      rw [List.pairwise_append] at hord
      have hap : ∀ g ∈ fs1, g.apart f = true := fun g hg => by
        rcases hord.2.2 g hg f List.mem_cons_self with h' | h'
        · exact h'
        · exfalso
          have hgi : g.ix ∈ T1.map (·.ix) := by rw [← hf.2]; exact List.mem_map.2 ⟨g, hg, rfl⟩
          obtain ⟨x, hx, hxe⟩ := List.mem_map.1 hgi
          have hl' := chain_listed (ops := ops) hcl g.ix 4 f.ix h' (fun p hp => by
            rw [hf.1, hix] at hp
            obtain ⟨e, he, hb, hep⟩ := predsOf_spec ho hp
            rw [← hep]; exact hpre e he hb)
          have hun' := (hun g.ix).2 ⟨x, List.mem_append_left _ hx, hxe⟩
          have hs : g.ix < listed.size := by
            rcases Nat.lt_or_ge g.ix listed.size with h'' | h''
            · exact h''
            · simp [Array.getElem?_eq_none h''] at hl'
          simp [hs] at hun' hl'
          rw [hun'] at hl'; cases hl'
      have hpf : isPanOp C it.o.op = true → ∀ o' ∈ os1, ∀ e, O.pan e ∈ o' → False := fun hpi o' ho' e he => by
        obtain ⟨x, hx, hxp⟩ := hr.pan ho1 o' ho' e he
        rw [List.pairwise_append] at hso
        have hlt := hso.2.2 x hx it List.mem_cons_self
        have hch := hPO x.ix it.ix x.o it.o hlt (hv x (List.mem_append_left _ hx)) (hv it (by simp)) hxp hpi
        have hl' := chain_listed (ops := ops) hcl x.ix 12 it.ix hch (fun p hp => by
          rw [hix] at hp
          obtain ⟨e, he, hb, hep⟩ := predsOf_spec ho hp
          rw [← hep]; exact hpre e he hb)
        have hun' := (hun x.ix).2 ⟨x, List.mem_append_left _ hx, rfl⟩
        have hs : x.ix < listed.size := by
          rcases Nat.lt_or_ge x.ix listed.size with h'' | h''
          · exact h''
          · simp [Array.getElem?_eq_none h''] at hl'
        simp [hs] at hun' hl'
        rw [hun'] at hl'; cases hl'
      obtain ⟨r, e1, e2, eo, hdyn, e3⟩ := hr.front hl1 ho1 hap
      subst eo
      have hit := hv it (by simp)
      subst hd hd'
      rw [← hix]
      refine effD_wp hC hR h hit e1 e2 (hfr it (by simp)) hdyn (fun e he huq hne w' hw' => ?_) fun hz d' a' w' ag hs' => ?_
      · have hpi : isPanOp C it.o.op = true := by
          simp only [Bool.or_eq_true] at hdyn
          rcases hdyn with hd | hd
          · have := mem_panEs.2 he
            rw [List.isEmpty_iff.1 hd] at this
            cases this
          · exact hd
        exact hP os1 r.os os2 rfl (fun o' ho' e' he' => (hpf hpi o' ho' e' he').elim) e he huq hne a w' h.df hw'
      have hmem : ∀ x, x ∈ T1 ++ T2 → x ∈ T1 ++ it :: T2 := fun x hx => by
        simp only [List.mem_append, List.mem_cons] at hx ⊢
        rcases hx with hx | hx
        · exact .inl hx
        · exact .inr (.inr hx)
      have hsub : (T1 ++ T2).Sublist (T1 ++ it :: T2) := List.Sublist.append_left (List.sublist_cons_self it T2) T1
      have hne : ∀ x ∈ T1 ++ T2, x.ix ≠ it.ix := fun x hx => by
        rw [List.pairwise_append] at hso
        simp only [List.mem_append] at hx
        rcases hx with hx | hx
        · have := hso.2.2 x hx it List.mem_cons_self; omega
        · have := List.rel_of_pairwise_cons hso.2.1 hx; omega
      refine ih (T1 ++ T2) (listed.setIfInBounds it.ix true) (r.put it.o.dst S) (fs1 ++ fs2) (os1 ++ os2) d' a' w' (by simp at hl ⊢; omega) ag.Φ ag.ρ (fun x hx => hv x (hmem x hx)) (by simpa using hsz) ?_ (hso.sublist hsub) ?_ (fun hz' => hQ fun o ho => by
        simp only [List.mem_append, List.mem_cons] at ho
        rcases ho with ho | rfl | ho
        · exact hz' o (List.mem_append_left _ ho)
        · exact hz
        · exact hz' o (List.mem_append_right _ ho)) (fun p1 p p2 hsp hz' e he huq hne => by
        obtain ⟨q1, q2, hq, hz2⟩ : ∃ q1 q2, os1 ++ r.os :: os2 = q1 ++ p :: q2 ∧ ∀ o' ∈ q1, ∀ e, O.pan e ∈ o' → e.den d.Φ d.ρ = 0 := by
          rcases List.append_eq_append_iff.1 hsp with ⟨u, hu1, hu2⟩ | ⟨u, hu1, hu2⟩
          · refine ⟨os1 ++ r.os :: u, p2, by rw [hu2]; simp, fun o' ho' e' he' => ?_⟩
            simp only [List.mem_append, List.mem_cons] at ho'
            rcases ho' with ho' | rfl | ho'
            · exact hz' o' (by rw [hu1]; exact List.mem_append_left _ ho') e' he'
            · exact hz e' he'
            · exact hz' o' (by rw [hu1]; exact List.mem_append_right _ ho') e' he'
          · cases u with
            | nil =>
              simp only [List.append_nil, List.nil_append] at hu1 hu2
              refine ⟨os1 ++ [r.os], p2, by rw [← hu2]; simp, fun o' ho' e' he' => ?_⟩
              simp only [List.mem_append, List.mem_singleton] at ho'
              rcases ho' with ho' | rfl
              · exact hz' o' (by rw [← hu1]; exact ho') e' he'
              · exact hz e' he'
            | cons y u =>
              simp only [List.cons_append, List.cons.injEq] at hu2
              obtain ⟨rfl, rfl⟩ := hu2
              exact ⟨p1, u ++ r.os :: os2, by rw [hu1]; simp, hz'⟩
        exact hP q1 p q2 hq hz2 e he huq hne) e3 ?_ ?_ (hdi.sublist hsub) hs'
      · intro j
        by_cases hj : it.ix = j
        · subst hj
          constructor
          · intro hq
            exfalso
            rcases Nat.lt_or_ge it.ix listed.size with h'' | h''
            · simp [h''] at hq
            · simp [Array.getElem?_eq_none (show (listed.setIfInBounds it.ix true).size ≤ it.ix by simpa using h'')] at hq
          · rintro ⟨x, hx, hxe⟩
            exact absurd hxe (hne x hx)
        · rw [getD_set_ne true hj, hun j]
          constructor
          · rintro ⟨x, hx, hxe⟩
            simp only [List.mem_append, List.mem_cons] at hx
            rcases hx with hx | rfl | hx
            · exact ⟨x, List.mem_append_left _ hx, hxe⟩
            · exact absurd hxe hj
            · exact ⟨x, List.mem_append_right _ hx, hxe⟩
          · rintro ⟨x, hx, hxe⟩
            exact ⟨x, hmem x hx, hxe⟩
      · intro j hq p hp
        by_cases hj : it.ix = j
        · subst hj
          obtain ⟨e, he, hb, hep⟩ := predsOf_spec hit hp
          rw [hix] at hit
          rw [ho] at hit
          cases hit
          rw [← hep]
          exact getD_set_true (hpre e he hb)
        · rw [getD_set_ne false hj] at hq
          exact getD_set_true (hcl j hq p hp)
      · rw [List.pairwise_append]
        refine ⟨hord.1, (List.pairwise_cons.1 hord.2.1).2, fun x hx y hy => hord.2.2 x hx y (List.mem_cons_of_mem _ hy)⟩
      · intro x hx k k1 k2
        have old := hfr x (hmem x hx) k k1 k2
        obtain ⟨_, _, _, _, hform⟩ := effD_fp e1
        have hd2 : it.nw + newsOf C it.o.op ≤ x.nw ∨ x.nw + newsOf C x.o.op ≤ it.nw := by
          rw [List.pairwise_append] at hdi
          simp only [List.mem_append] at hx
          rcases hx with hx | hx
          · exact .inr (hdi.2.2 x hx it List.mem_cons_self)
          · exact .inl (List.rel_of_pairwise_cons hdi.2.1 hx)
        simp only [Res.put]
        rw [wrAll_length, wrAll_ne _ _ _ fun y hy e => ?_]
        · exact old
        · rcases hform y hy with h3 | h3
          · rw [e, old.1] at h3; cases h3
          · omega

end
end Go.Proofs.YtelfpnkhdaaeoaaDoor.Sx
