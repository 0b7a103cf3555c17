/-
  The symbolic executor: reading and writing memory, calls; one operation, whole.
-/
import Derived.Test.YtelfpnkhdaaeoaaDoorSxG
import Derived.Laws.MakeOwn
namespace Go.Proofs.YtelfpnkhdaaeoaaDoor.Sx
open Go Go.RowKit

/-! ## Numbers as values -/
/-- From place j on. -/
def kdVals (xs : List Int) : Nat → List Kd → List Value
  | _, [] => []
  | j, k :: r => kdVal k (xs.getD j 0) :: kdVals xs (j + 1) r

def compVal (agg : Bool) (vs : List Value) : Value := match agg, vs with
  | true, vs => .agg vs.toArray
  | false, v :: _ => v
  | false, [] => undef

def resVals (xs : List Int) : Nat → List (Bool × List Kd) → List Value
  | _, [] => []
  | j, (b, ks) :: r => compVal b (kdVals xs j ks) :: resVals xs (j + ks.length) r

def oneOr (vs : List Value) : Value := match vs with
  | [v] => v
  | vs => .tuple vs.toArray

def resV (s : Sig) (xs : List Int) : Value := oneOr (resVals xs 0 s.res)

/-- A slice that holds a list of numbers. -/
def SliceIs (w : World) (ks : List EK) (l : List Int) (v : Value) : Prop :=
  ∃ (a : Option (Nat × Nat)) (n c : Nat), v = .slice (a.map fun p => ⟨p.1, p.2, none⟩) n c ∧ n = l.length / ks.length ∧ Kinds ks l ∧ (a = none → n = 0 ∧ c = 0) ∧
    (∀ p, a = some p → ∀ i x, l[i]? = some x → w.cell? ⟨p.1, p.2 + i, none⟩ = some (evl (kindAt ks i) x)) ∧ l.length ≤ c * ks.length
def SlicesAre (w : World) (ls : List (List Int)) : Nat → List (List EK) → List Value → Prop
  | _, [], vs => vs = []
  | m, ks :: kss, vs => ∃ v rest, vs = v :: rest ∧ SliceIs w ks (ls.getD m []) v ∧ SlicesAre w ls (m + 1) kss rest

/-- A text's value. -/
def byteV (l : List Int) : Value := .string ⟨(l.map u8).toArray⟩
/-- The arguments of a call, from number j and list m on. -/
def ArgsAre (w : World) (xs : List Int) (ls : List (List Int)) : Nat → Nat → List PSh → List Value → Prop
  | _, _, [], args => args = []
  | j, m, .val b ks :: ps, args => ∃ rest, args = compVal b (kdVals xs j ks) :: rest ∧ (b = false → ks.length = 1) ∧ ArgsAre w xs ls (j + ks.length) m ps rest
  | j, m, .ptr ks :: ps, args => ∃ b o rest, args = .pointer (some ⟨b, o, none⟩) :: rest ∧ b < w.heap.size ∧
      (∀ (i : Nat) (v : Value), (kdVals xs j ks)[i]? = some v → w.cell? ⟨b, o + i, none⟩ = some v) ∧ ArgsAre w xs ls (j + ks.length) m ps rest
  | j, m, .slc ks :: ps, args => ∃ b o rest, args = .slice (some ⟨b, o, none⟩) ks.length ks.length :: rest ∧ b < w.heap.size ∧
      (∀ (i : Nat) (v : Value), (kdVals xs j ks)[i]? = some v → w.cell? ⟨b, o + i, none⟩ = some v) ∧ ArgsAre w xs ls (j + ks.length) m ps rest
  | j, m, .fnc g :: ps, args => ∃ rest, args = .func (.func g) #[] #[] :: rest ∧ ArgsAre w xs ls j m ps rest
  | j, m, .str :: ps, args => ∃ rest, args = byteV (ls.getD m []) :: rest ∧ (∀ x ∈ ls.getD m [], 0 ≤ x ∧ x ≤ 255) ∧ ArgsAre w xs ls j (m + 1) ps rest
  | j, m, .lst ks :: ps, args => ∃ v rest, args = v :: rest ∧ SliceIs w ks (ls.getD m []) v ∧ ArgsAre w xs ls j (m + 1) ps rest
  | j, m, .lsts kss :: ps, args => ∃ vs rest, args = .agg vs.toArray :: rest ∧ SlicesAre w ls m kss vs ∧ ArgsAre w xs ls j (m + kss.length) ps rest
  | j, m, .mix ks kss :: ps, args => ∃ vs rest, args = .agg (kdVals xs j ks ++ vs).toArray :: rest ∧ SlicesAre w ls m kss vs ∧ ArgsAre w xs ls (j + ks.length) (m + kss.length) ps rest
  | j, m, .plsts kss :: ps, args => ∃ b o vs rest, args = .pointer (some ⟨b, o, none⟩) :: rest ∧ b < w.heap.size ∧ (∀ (i : Nat) (v : Value), vs[i]? = some v → w.cell? ⟨b, o + i, none⟩ = some v) ∧
      SlicesAre w ls m kss vs ∧ ArgsAre w xs ls j (m + kss.length) ps rest

/-- WHAT A FUNCTION IS KNOWN TO DO: called with such arguments it returns what is told of their numbers and lists, and leaves all that was there. -/
def CT (P : Program) (Φ : Fns) (Pr : Pres) (g : Nat) (s : Sig) : Prop :=
  ∀ (w : World) (xs : List Int) (ls : List (List Int)) (args : List Value), allHas (parIvs s.params) xs → allL (parLvs s.params) ls → ArgsAre w xs ls 0 0 s.params args → Pr g xs ls →
    Calls P g args.toArray w fun e w' => e = .returned (resV s (Φ g xs ls).1) ∧ Below w.heap.size w w'

/-- What a function that may panic does: it returns, or panics with a code. -/
def panicV (pty : TypeId) (n : Int) : List PanicEntry := [{ v := .iface pty (.int .i64 n), recovered := false }]
def PPost (pty : TypeId) (s : Sig) (r : List Int) (e : Ending) : Prop :=
  (r.getD 0 0 = 0 ∧ e = .returned (oneOr (resVals r 1 s.res.tail))) ∨ (r.getD 0 0 ≠ 0 ∧ e = .panicked (panicV pty (r.getD 0 0)))
def CTP (P : Program) (Φ : Fns) (Pr : Pres) (pty : TypeId) (g : Nat) (s : Sig) : Prop :=
  ∀ (w : World) (xs : List Int) (ls : List (List Int)) (args : List Value), allHas (parIvs s.params) xs → allL (parLvs s.params) ls → ArgsAre w xs ls 0 0 s.params args → Pr g xs ls →
    Calls P g args.toArray w fun e w' => PPost pty s (Φ g xs ls).1 e ∧ Below w.heap.size w w'
/-- What a function of a closure does: its numbers and lists are those of the addresses that the closure holds. -/
def CTK (P : Program) (Φ : Fns) (Pr : Pres) (h g : Nat) (s : Sig) : Prop :=
  ∀ (w : World) (xs : List Int) (ls : List (List Int)) (args : List Value), allHas (parIvs s.params) xs → allL (parLvs s.params) ls → ArgsAre w xs ls 0 0 s.params args → Pr g xs ls →
    Calls P g #[.func (.func h) #[] args.toArray] w fun e w' => e = .returned (resV s (Φ g xs ls).1) ∧ Below w.heap.size w w'
/-- One or the other. -/
def CTq (P : Program) (Φ : Fns) (Pr : Pres) (pfs : List Nat) (pty : TypeId) (cls : List (Nat × Nat)) (g : Nat) (s : Sig) : Prop := match clOf cls g with
  | some h => CTK P Φ Pr h g s
  | none => match memN g pfs with
    | true => CTP P Φ Pr pty g s
    | false => CT P Φ Pr g s

/-- New slices that hold some lists. -/
def FreshAll (n : Nat) (w : World) : List (List EK) → List TypeId → List (List Int) → List Value → List Nat → Prop
  | [], [], [], [], [] => True
  | ks :: kss, ty :: tys, l :: ls, v :: vs, b :: bs => (n ≤ b ∧ Kinds ks l ∧ ∃ rest c, v = .slice (some ⟨b, 0, none⟩) (l.length / ks.length) c ∧ w.heap[b]? = some (.cells (numsV ks l ++ rest).toArray ty (0, 0)) ∧ l.length + rest.length = c * ks.length) ∧
      (∀ b' ∈ bs, b' ≠ b) ∧ FreshAll n w kss tys ls vs bs
  | _, _, _, _, _ => False

/-- A slice alone, or a struct of slices. -/
def cpShape (p : PSh) (v : Value) (vs : List Value) : Prop := match p with
  | .lst _ => vs = [v]
  | _ => v = .agg vs.toArray

/-- WHAT A COPYING FUNCTION IS KNOWN TO DO. -/
def CTC (P : Program) (g : Nat) (p : PSh) (tys : List TypeId) : Prop :=
  ∀ (w : World) (xs : List Int) (ls : List (List Int)) (a : Value), allL (cpLvs p) ls → ArgsAre w xs ls 0 0 [p] [a] →
    Calls P g #[a] w fun e w' => ∃ v vs bs, e = .returned v ∧ Below w.heap.size w w' ∧ FreshAll w.heap.size w' p.lss tys ls vs bs ∧ cpShape p v vs

/-- The results' values: numbers from place j on; slices. -/
def lVals (xs : List Int) : Nat → List Value → List LR → List Value
  | _, _, [] => []
  | j, vs, .n b ks :: r => compVal b (kdVals xs j ks) :: lVals xs (j + ks.length) vs r
  | j, vs, .l agg kss _ :: r => compVal agg (vs.take kss.length) :: lVals xs j (vs.drop kss.length) r
  | j, vs, .m ks kss _ :: r => compVal true (kdVals xs j ks ++ vs.take kss.length) :: lVals xs (j + ks.length) (vs.drop kss.length) r
/-- What such a function returns. -/
def LPost (s : LSig) (n : Nat) (w : World) (r : List Int × List (List Int)) (e : Ending) : Prop :=
  ∃ vs bs, e = .returned (oneOr (lVals r.1 1 vs s.res)) ∧ allHas s.ivs r.1 ∧ allL s.lvs r.2 ∧
    ((r.1.getD 0 0 = 1 ∧ vs = List.replicate (lsKss s.res).length (.slice none 0 0)) ∨ (r.1.getD 0 0 ≠ 1 ∧ FreshAll n w (lsKss s.res) (lsTys s.res) r.2 vs bs))
/-- WHAT A FUNCTION THAT RETURNS LISTS IS KNOWN TO DO. -/
def CTL (P : Program) (Φ : Fns) (Pr : Pres) (g : Nat) (s : LSig) : Prop :=
  ∀ (w : World) (xs : List Int) (ls : List (List Int)) (args : List Value), allHas (parIvs s.params) xs → allL (parLvs s.params) ls → ArgsAre w xs ls 0 0 s.params args → Pr g xs ls →
    Calls P g args.toArray w fun e w' => LPost s w.heap.size w' (Φ g xs ls) e ∧ Below w.heap.size w w'

def sVals (xs : List Int) (zs : List (List Int)) : Nat → Nat → List SR → List Value
  | _, _, [] => []
  | j, m, .n b ks :: r => compVal b (kdVals xs j ks) :: sVals xs zs (j + ks.length) m r
  | j, m, .s :: r => byteV (zs.getD m []) :: sVals xs zs j (m + 1) r
def SPost (s : SSig) (r : List Int × List (List Int)) (e : Ending) : Prop := e = .returned (oneOr (sVals r.1 r.2 0 0 s.res)) ∧ allHas s.ivs r.1 ∧ allL s.lvs r.2
/-- WHAT A FUNCTION THAT RETURNS TEXTS IS KNOWN TO DO. -/
def CTS (P : Program) (Φ : Fns) (Pr : Pres) (g : Nat) (s : SSig) : Prop :=
  ∀ (w : World) (xs : List Int) (ls : List (List Int)) (args : List Value), allHas (parIvs s.params) xs → allL (parLvs s.params) ls → ArgsAre w xs ls 0 0 s.params args → Pr g xs ls →
    Calls P g args.toArray w fun e w' => SPost s (Φ g xs ls) e ∧ Below w.heap.size w w'

/-- All is as it was but block b. -/
structure Wrote (w w' : World) (b : Nat) : Prop where
  os : w'.os = w.os
  tape : w'.tape = w.tape
  output : w'.output = w.output
  size : w.heap.size ≤ w'.heap.size
  other : ∀ k, k < w.heap.size → k ≠ b → w'.heap[k]? = w.heap[k]?
def WPost (s : WSig) (r : List Int × List (List Int)) (e : Ending) : Prop := e = .returned (oneOr (resVals r.1 0 s.res)) ∧ allHas s.ivs r.1 ∧ allL [s.lv] r.2
/-- WHAT A FUNCTION THAT WRITES INTO A SLICE IS KNOWN TO DO. -/
def CTW0 (P : Program) (Φ : Fns) (Pr : Pres) (g : Nat) (s : WSig) : Prop :=
  ∀ (w : World) (xs l : List Int) (v : Value) (args : List Value), allHas (parIvs s.params) xs → allL [s.lv] [l] → ArgsAre w xs [] 0 0 s.params args → Pr g xs [l] →
    (v = .slice none 0 0 → l = [] → Calls P g (s.arg v :: args).toArray w fun e w' => WPost s (Φ g xs [l]) e ∧ Below w.heap.size w w') ∧
    ∀ b rest c, v = .slice (some ⟨b, 0, none⟩) (l.length / s.ks.length) c → Kinds s.ks l → w.heap[b]? = some (.cells (numsV s.ks l ++ rest).toArray s.ty (0, 0)) → l.length + rest.length = c * s.ks.length →
      Calls P g (s.arg v :: args).toArray w fun e w' => WPost s (Φ g xs [l]) e ∧ Wrote w w' b ∧
        ∃ l' rest', (Φ g xs [l]).2 = [l'] ∧ Kinds s.ks l' ∧ l'.length = l.length ∧ w'.heap[b]? = some (.cells (numsV s.ks l' ++ rest').toArray s.ty (0, 0)) ∧ l'.length + rest'.length = c * s.ks.length
/-- Calling f with a struct of two slices is calling g with each. -/
def Two (P : Program) (f g : Nat) : Prop := ∀ (w : World) (v1 v2 : Value) (k : Int) (Q : Ending → World → Prop),
  Calls P g #[v1, .int .i64 k] w (fun e w' => ∃ k', e = .returned (.int .i64 k') ∧ Calls P g #[v2, .int .i64 k'] w' fun e w'' => (∃ k'', e = .returned (.int .i64 k'')) ∧ Q e w'') → Calls P f #[.agg #[v1, v2], .int .i64 k] w Q
def CTW (P : Program) (Φ : Fns) (Pr : Pres) (f : Nat) (s : WSig) : Prop := match s.via with
  | none => CTW0 P Φ Pr f s
  | some g => Two P f g ∧ CTW0 P Φ Pr g s

/-- What is known of the functions of a table. -/
structure CTs (C : Cfg) (Φ : Fns) (Pr : Pres) : Prop where
  ct : ∀ g s, sigOf C.sigs g = some s → CTq C.P Φ Pr C.pfs C.pty C.cls g s
  tot : ∀ g s, sigOf C.sigs g = some s → s.total = true → ∀ xs ls, Pr g xs ls
  cp : ∀ g p tys, cpOf C.cps g = some (p, tys) → CTC C.P g p tys
  lf : ∀ g s, lfOf C.lfs g = some s → CTL C.P Φ Pr g s
  ltot : ∀ g s, lfOf C.lfs g = some s → s.total = true → ∀ xs ls, Pr g xs ls
  wf : ∀ g s, wfOf C.wfs g = some s → CTW C.P Φ Pr g s ∧ (s.total = true → ∀ xs ls, Pr g xs ls)
  sf : ∀ g s, sfOf C.sfs g = some s → CTS C.P Φ Pr g s ∧ (s.total = true → ∀ xs ls, Pr g xs ls)

/-! ## Memory -/
theorem HP.regs {X : Ctx} {d : Dn} {hp : List (Option Reg)} {w w' : World} (h : HP X d hp w) (hb : Below w.heap.size w w') : HP X d hp w' where
  bl := h.bl.trans hb h.bl.size
  reg := fun id r hr => (h.reg id r hr).move rfl rfl rfl rfl rfl (SameTl.refl _ _) fun ho => hb.block _ ((h.reg id r hr).at ho).2
  sep := h.sep
  ids := h.ids
  pin := h.pin

theorem wrAll_nil (hp : List (Option Reg)) : wrAll hp [] = hp := rfl

section
variable {C : Cfg} {R : Bds} {X : Ctx} {d : Dn} {w : World} {hp : List (Option Reg)} {v : Operand → Option SV} {e : Operand → Value} {Pr : Pres}
  {rd : Nat → Option Reg} {new : Nat} {r : Res} {o : Oper}

theorem kdE_spec (hR : RV d.Φ R d.ρ) {k : Kd} {c : Cell} {x : E} (h : kdE R k c = some x) : c.den d = kdVal k (x.den d.Φ d.ρ) ∧ k.iv.has (x.den d.Φ d.ρ) := by
  unfold kdE at h
  split at h
  · rename_i k k' x'
    cases c : decide (k = k') <;> simp only [c, cond_false, cond_true] at h
    · cases h
    · simp only [decide_eq_true_eq] at c; subst c
      split at h
      · rename_i iv hiv
        cases c2 : iv.sub (kiv k) <;> simp only [c2, cond_false, cond_true] at h
        · cases h
        · cases h
          exact ⟨rfl, Iv.sub_has c2 (E.iv_ok hR _ hiv)⟩
      · cases h
  · rename_i k lo hi k' x'
    cases c : decide (k = k') <;> simp only [c, cond_false, cond_true] at h
    · cases h
    · simp only [decide_eq_true_eq] at c; subst c
      split at h
      · rename_i iv hiv
        cases c2 : iv.sub (Kd.n k lo hi).iv <;> simp only [c2, cond_false, cond_true] at h
        · cases h
        · cases h
          exact ⟨rfl, Iv.sub_has c2 (E.iv_ok hR _ hiv)⟩
      · cases h
  · rename_i b
    cases h
    rw [ofB_den hR]
    simp only [Cell.den, kdVal, Kd.iv, Iv.has]
    cases b.den d.Φ d.ρ <;> simp
  · cases h

theorem ekCell_den (hR : RV d.Φ R d.ρ) {k : EK} {x : E} (h : (eiv k).has (x.den d.Φ d.ρ)) : (ekCell R k x).den d = evl k (x.den d.Φ d.ρ) := by
  have i : ∀ {q : IntKind}, (kiv q).has (x.den d.Φ d.ρ) → (Cell.int q (mkWrap R q x)).den d = .int q (x.den d.Φ d.ρ) := fun hq => by
    show Value.int _ _ = _
    rw [mkWrap_den hR, wrap_id hq]
  cases k
  case b => show Value.bool _ = Value.bool _; rw [toB_den hR]
  all_goals exact i h
theorem ekCell_ok (R : Bds) (k : EK) (x : E) : (ekCell R k x).ok d hp := by cases k <;> trivial
theorem flatE_den (e : E) (s f : Nat) : (flatE e s f).den d.Φ d.ρ = e.den d.Φ d.ρ * s + f := by
  unfold flatE
  cases c : Nat.beq s 1 <;> simp only [cond_false, cond_true, mkAdd_den, E.den]
  have c : s = 1 := Nat.eq_of_beq_eq_true c
  rw [c]; omega
theorem op_load {t : TypeId} {x : Operand} (hR : RV d.Φ R d.ρ) (hos : OsHold d.Φ Pr d.ρ r.os) (hP : HP X d hp w) (hv : Reads d hp v e) (hrd : ∀ id r, rd id = some r → getH hp id = some r)
    (h : opRun C R (.load t x) v rd new = some r) (ho : o.op = .load t x) : Yld C.P e o w d hp r := by
  simp only [opRun] at h
  split at h
  · rename_i id off hx
    split at h
    · rename_i g hg
      simp only [Option.map_eq_some_iff] at h
      obtain ⟨sv, hs, rfl⟩ := h
      have hg := hrd _ _ hg
      have h1 := hv.is _ _ hx
      simp only [SV.is, Cell.den] at h1
      obtain ⟨y, hy, hy2⟩ := loadVar_run (hP.reg _ _ hg) hP.bl hs
      refine ⟨y, ?_, hy2, partT_ok hs (hP.ids _ _ hg), rfl⟩
      simp only [execOp, ho, h1, Instr.loadAt, Instr.sureAddr, Sem.run_bind, Sem.run_pure, Result.andThen_ok, hy]
    · cases h
  · rename_i id off n ix hx
    split at h
    · rename_i g hg
      cases c : (!aggT C.P t && (C.P.underlying t).isSome && Nat.ble (off + n) g.cs.length) <;> simp only [c, cond_false, cond_true] at h
      · cases h
      · simp only [Bool.and_eq_true, Bool.not_eq_true'] at c
        obtain ⟨⟨c1, c2⟩, c3⟩ := c
        have c3 := Nat.le_of_ble_eq_true c3
        obtain ⟨u, hu⟩ := Option.isSome_iff_exists.1 c2
        simp only [Option.map_eq_some_iff] at h
        obtain ⟨c, hc, rfl⟩ := h
        have hg := hrd _ _ hg
        have h1 := hv.is _ _ hx
        simp only [SV.is, Cell.den] at h1
        obtain ⟨_, b1, b2⟩ := hv.ok _ _ hx
        obtain ⟨j, hj⟩ := Int.eq_ofNat_of_zero_le b1
        have hjn : j < n := by omega
        obtain ⟨c', g1, g2, g3⟩ := selCell_some hc (n := j) (by simp; omega) hj
        have g1' := (drop_take_get g1).1
        refine ⟨c'.den d, ?_, g2.symm ▸ rfl, g3 hp, rfl⟩
        have := (hP.reg _ _ hg).cell hP.bl g1'
        simp only [execOp, ho, h1, Instr.loadAt, Instr.sureAddr, Sem.run_bind, Sem.run_pure, Result.andThen_ok, loadVar, run_isAgg hu, c1, Bool.false_eq_true, if_false, run_load,
          hj, Int.toNat_natCast, Nat.mul_one, this]
    · cases h
  · rename_i id s ix f hx
    split at h
    · rename_i g hg
      split at h
      · rename_i ks l htl
        split at h
        · rename_i k hk
          cases c : (!aggT C.P t && (C.P.underlying t).isSome && Nat.beq s ks.length) <;> simp only [c, cond_false, cond_true] at h
          · cases h
          · simp only [Bool.and_eq_true, Bool.not_eq_true'] at c
            obtain ⟨⟨c1, c2⟩, c3⟩ := c
            have c3 : s = ks.length := Nat.eq_of_beq_eq_true c3
            obtain ⟨u, hu⟩ := Option.isSome_iff_exists.1 c2
            cases h
            have hg := hrd _ _ hg
            have h1 := hv.is _ _ hx
            simp only [SV.is, Cell.den] at h1
            obtain ⟨_, b1⟩ : (getH hp id).isSome = true ∧ 0 ≤ ix.den d.Φ d.ρ := hv.ok _ _ hx
            obtain ⟨j, hj⟩ := Int.eq_ofNat_of_zero_le b1
            have b2 := must_hold hos
            rw [mkLt_den hR] at b2
            have b2 := of_decide_eq_true b2
            rw [flatE_den, hj] at b2
            simp only [E.den] at b2
            have hlt : j * s + f < (l.den d.Φ d.ρ).length := by
              have : ((j * s + f : Nat) : Int) < (l.den d.Φ d.ρ).length := by rw [Int.natCast_add, Int.natCast_mul]; exact b2
              omega
            have hget := List.getElem?_eq_getElem hlt
            obtain ⟨n1, n2⟩ := (hP.reg _ _ hg).num hP.bl htl hget
            have hf : f < ks.length := (List.getElem?_eq_some_iff.1 hk).1
            have hkind : kindAt ks (j * s + f) = k := by
              unfold kindAt
              rw [c3, Nat.mul_comm, Nat.mul_add_mod, Nat.mod_eq_of_lt hf, List.getD_eq_getElem?_getD, hk]; rfl
            rw [hkind] at n1 n2
            refine ⟨evl k ((l.den d.Φ d.ρ)[j * s + f]), ?_, ?_, ekCell_ok _ _ _, rfl⟩
            · simp only [execOp, ho, h1, Instr.loadAt, Instr.sureAddr, Sem.run_bind, Sem.run_pure, Result.andThen_ok, loadVar, run_isAgg hu, c1, Bool.false_eq_true, if_false, run_load,
                hj, Int.toNat_natCast, n1]
            · have e0 : (E.at l (flatE ix s f)).den d.Φ d.ρ = (l.den d.Φ d.ρ)[j * s + f] := by
                simp only [E.den, flatE_den, hj]
                rw [show ((j : Int) * (s : Int) + (f : Int)).toNat = j * s + f by rw [← Int.natCast_mul, ← Int.natCast_add]; exact Int.toNat_natCast _, List.getD_eq_getElem?_getD, hget]
                rfl
              show _ = (ekCell R k (.at l (flatE ix s f))).den d
              rw [ekCell_den hR (by rw [e0]; exact n2), e0]
        · cases h
      · cases h
    · cases h
  · cases h
/-! ### Blocks that are written -/
/-- What stands behind an operation. -/
def Aft (X : Ctx) (d : Dn) (hp hp' : List (Option Reg)) (sv : SV) (x : Value) (w' : World) : Prop :=
  ∃ d', Agree hp d d' ∧ Has hp hp' ∧ HP X d' hp' w' ∧ sv.is d' x ∧ sv.ok d' hp'

/-- Cells of a block that are changed in place; all else stays. -/
structure Cut (w w' : World) (b : Nat) (o : Obj) : Prop where
  os : w'.os = w.os
  tape : w'.tape = w.tape
  output : w'.output = w.output
  size : w'.heap.size = w.heap.size
  other : ∀ k, k ≠ b → w'.heap[k]? = w.heap[k]?
  it : w'.heap[b]? = some o

theorem setCell_cut {w : World} {b off : Nat} {c : List Value} {t : TypeId} {x : Value} (h : w.heap[b]? = some (.cells c.toArray t (0, 0))) :
    Cut w (w.setCell ⟨b, off, none⟩ x) b (.cells (c.set off x).toArray t (0, 0)) where
  os := rfl
  tape := rfl
  output := rfl
  size := by simp
  other := fun k hk => Below.heap_setCell _ _ _ _ hk
  it := by
    simp only [World.setCell, Array.getElem?_modify, if_true, h, Option.map_some]
    simp

theorem Cut.trans {w w' w'' : World} {b : Nat} {o o' : Obj} (h : Cut w w' b o) (k : Cut w' w'' b o') : Cut w w'' b o' :=
  ⟨k.os.trans h.os, k.tape.trans h.tape, k.output.trans h.output, k.size.trans h.size, fun i hi => (k.other i hi).trans (h.other i hi), k.it⟩

theorem storeCells_run {P : Program} {b off : Nat} {t : TypeId} : ∀ (vs : List Value) (i : Nat) (w : World) (c : List Value), w.heap[b]? = some (.cells c.toArray t (0, 0)) →
    off + i + vs.length ≤ c.length → (∀ x ∈ vs, x.oneCell' = true) →
    ∃ w', (storeCells ⟨b, off, none⟩ vs i).run P w = .ok () w' ∧ Cut w w' b (.cells (c.take (off + i) ++ (vs ++ c.drop (off + i + vs.length))).toArray t (0, 0))
  | [], i, w, c, h, _, _ => ⟨w, rfl, ⟨rfl, rfl, rfl, rfl, fun _ _ => rfl, by rw [h]; simp⟩⟩
  | x :: vs, i, w, c, h, hl, hv => by
    simp only [List.length_cons] at hl
    have hc : w.cell? ⟨b, off + i, none⟩ = some c[off + i] := by
      simp [World.cell?, h, show off + i < c.length by omega]
    have hf : w.frozen? ⟨b, off + i, none⟩ = false := by
      simp [World.frozen?, h]
    have hcut := setCell_cut (off := off + i) (x := x) h
    obtain ⟨w', h1, h2⟩ := storeCells_run (P := P) (off := off) vs (i + 1) (w.setCell ⟨b, off + i, none⟩ x) (c.set (off + i) x) hcut.it (by rw [List.length_set]; omega) (fun y hy => hv y (List.mem_cons_of_mem _ hy))
    refine ⟨w', ?_, ?_⟩
    · simp only [storeCells, Sem.run_bind, add_mk]
      rw [run_store P w _ x .plain (hv x List.mem_cons_self), hc]
      simp only [hf, Bool.false_eq_true, if_false, Result.andThen_ok, h1]
    · have := hcut.trans h2
      have e1 : (c.set (off + i) x).take (off + (i + 1)) = c.take (off + i) ++ [x] := by
        rw [show off + (i + 1) = (off + i) + 1 by omega, List.take_add_one, List.take_set_of_le (by omega)]
        congr 1
        simp [show off + i < c.length by omega]
      have e2 : (c.set (off + i) x).drop (off + (i + 1) + vs.length) = c.drop (off + i + (x :: vs).length) := by
        rw [List.drop_set_of_lt (by omega)]
        congr 1
        simp; omega
      rw [e1, e2] at this
      simpa using this

theorem HP.lt (hP : HP X d hp w) {id : Nat} {g : Reg} (hg : getH hp id = some g) (ho : g.own = true) : (d.α id).1 < w.heap.size := ((hP.reg _ _ hg).at ho).2

theorem Has.setH {hp : List (Option Reg)} (id : Nat) (g : Reg) : Has hp (setH hp id (some g)) := fun k hk => by
  by_cases h : id = k
  · subst h
    obtain ⟨r, hr⟩ := Option.isSome_iff_exists.1 hk
    rw [getH_setH_same _ _ _ (getH_lt hr)]; rfl
  · rw [getH_setH_ne _ _ _ _ h]; exact hk

/-- A new block. -/
theorem HP.alloc (hP : HP X d hp w) {cs : List Cell} (hcs : ∀ c ∈ cs, c.ok d hp) {t : TypeId} (hn : getH hp new = none) (hl : new < hp.length) :
    Aft X d hp (setH hp new (some ⟨cs, true, t, none⟩)) (.one (.ptr new 0)) (.pointer (some ⟨w.heap.size, 0, none⟩)) { w with heap := w.heap.push (.cells (cs.map (Cell.den d)).toArray t) } := by
  let d' : Dn := ⟨d.Φ, d.ρ, fun id => if id = new then (w.heap.size, 0) else d.α id, d.κ⟩
  have ag : Agree hp d d' := ⟨rfl, rfl, fun id hid => by
    have : id ≠ new := fun h => by subst h; rw [hn] at hid; cases hid
    simp [d', this], fun _ _ => rfl⟩
  have hasH := Has.setH (hp := hp) new ⟨cs, true, t, none⟩
  have hnew : d'.α new = (w.heap.size, 0) := by simp [d']
  refine ⟨d', ag, hasH, ⟨?_, ?_, ?_, ?_, hP.pin.agree ag hasH⟩, ?_, ?_⟩
  · exact hP.bl.trans ((Below.refl _ _).alloc (Nat.le_refl _) _) hP.bl.size
  · intro id g hg
    by_cases h : new = id
    · subst h
      rw [getH_setH_same _ _ _ hl] at hg
      cases hg
      refine RegIs.of_zero ?_ rfl
      unfold RegIs0
      rw [if_pos rfl, hnew]
      refine ⟨rfl, .inl hP.bl.size, ?_⟩
      simp only [Array.getElem?_push, if_true]
      rw [cells_agree ag hcs]
    · rw [getH_setH_ne _ _ _ _ h] at hg
      refine (hP.reg _ _ hg).move rfl rfl (ag.α id (by rw [hg]; rfl)) rfl (cells_agree ag (hP.ids _ _ hg)) (SameTl.eq rfl rfl _) fun ho => ?_
      have hlt := hP.lt hg ho
      show (w.heap.push _)[(d.α id).1]? = _
      rw [Array.getElem?_push, if_neg (by omega)]
  · intro i j ri rj hi hj oi oj hij
    by_cases h1 : new = i
    · subst h1
      rw [getH_setH_ne _ _ _ _ hij] at hj
      rw [hnew, ag.α j (by rw [hj]; rfl)]
      have := hP.lt hj oj
      simp only; omega
    · rw [getH_setH_ne _ _ _ _ h1] at hi
      rw [ag.α i (by rw [hi]; rfl)]
      by_cases h2 : new = j
      · subst h2
        rw [hnew]
        have := hP.lt hi oi
        simp only; omega
      · rw [getH_setH_ne _ _ _ _ h2] at hj
        rw [ag.α j (by rw [hj]; rfl)]
        exact hP.sep i j ri rj hi hj oi oj hij
  · intro id g hg c hc
    by_cases h : new = id
    · subst h
      rw [getH_setH_same _ _ _ hl] at hg
      cases hg
      exact Cell.ok_agree ag (Cell.ok_mono hasH (hcs c hc))
    · rw [getH_setH_ne _ _ _ _ h] at hg
      exact Cell.ok_agree ag (Cell.ok_mono hasH (hP.ids _ _ hg c hc))
  · simp only [SV.is, Cell.den, hnew]
  · show (getH _ new).isSome = true
    rw [getH_setH_same _ _ _ hl]; rfl

/-- A list of the call's own, written in place. -/
theorem HP.writeL (hP : HP X d hp w) {id : Nat} {g : Reg} (hg : getH hp id = some g) (ho : g.own = true) {ks : List EK} {l l' : L} (htl : g.tl = some (ks, l)) (hk : Kinds ks (l'.den d.Φ d.ρ))
    (hlen : (l'.den d.Φ d.ρ).length = (l.den d.Φ d.ρ).length) {w' : World}
    (hw : ∀ rest, w.heap[(d.α id).1]? = some (.cells (numsV ks (l.den d.Φ d.ρ) ++ rest).toArray g.ty (0, 0)) → Cut w w' (d.α id).1 (.cells (numsV ks (l'.den d.Φ d.ρ) ++ rest).toArray g.ty (0, 0))) :
    HP X d (setH hp id (some { g with tl := some (ks, l') })) w' := by
  have hreg := hP.reg _ _ hg
  have hat := hreg.at ho
  unfold RegIs at hreg
  rw [htl] at hreg
  obtain ⟨q1, q2, q3, q4⟩ := hreg
  rw [if_pos ho] at q4
  obtain ⟨q4, q5, rest, c, q6, q7, q8⟩ := q4
  have hcut := hw rest q6
  refine ⟨hP.bl.step hcut.os hcut.tape hcut.output (by rw [hcut.size]; exact Nat.le_refl _) (fun k hk => hcut.other k (fun e => hk (by rw [e]; exact hat.1))), fun k q hq => ?_, fun i j ri rj hi hj oi oj hij => ?_, fun k q hq c hc => ?_, hP.pin.agree (Agree.refl _ _) (Has.setH id _)⟩
  · by_cases h : id = k
    · subst h
      rw [getH_setH_same _ _ _ (getH_lt hg)] at hq
      cases hq
      unfold RegIs
      refine ⟨q1, hk, fun h => (by rw [q7] at h; cases h), ?_⟩
      rw [if_pos ho]
      exact ⟨q4, q5, rest, c, hcut.it, q7, by
        show (l'.den d.Φ d.ρ).length + rest.length = c * ks.length
        rw [hlen]; exact q8⟩
    · rw [getH_setH_ne _ _ _ _ h] at hq
      exact (hP.reg _ _ hq).move rfl rfl rfl rfl rfl (SameTl.refl _ _) fun hqo => hcut.other _ (hP.sep k id q g hq hg hqo ho (fun e => h e.symm))
  · have get : ∀ k q, getH (setH hp id (some { g with tl := some (ks, l') })) k = some q → q.own = true → ∃ q', getH hp k = some q' ∧ q'.own = true := fun k q hq hqo => by
      by_cases h : id = k
      · subst h; exact ⟨g, hg, ho⟩
      · rw [getH_setH_ne _ _ _ _ h] at hq; exact ⟨q, hq, hqo⟩
    obtain ⟨qi, h1, h2⟩ := get i ri hi oi
    obtain ⟨qj, h3, h4⟩ := get j rj hj oj
    exact hP.sep i j qi qj h1 h3 h2 h4 hij
  · by_cases h : id = k
    · subst h
      rw [getH_setH_same _ _ _ (getH_lt hg)] at hq
      cases hq
      have : c ∈ g.cs := hc
      rw [q1] at this; cases this
    · rw [getH_setH_ne _ _ _ _ h] at hq
      exact Cell.ok_mono (Has.setH id _) (hP.ids _ _ hq c hc)

/-- A list of the call's own that a called function has written. -/
theorem HP.wrote (hP : HP X d hp w) {id c : Nat} {g : Reg} (hg : getH hp id = some g) (ho : g.own = true) {ks : List EK} {l l' : L} (htl : g.tl = some (ks, l)) (hk : Kinds ks (l'.den d.Φ d.ρ))
    {w' : World} (hw : Wrote w w' (d.α id).1) {rest : List Value} (hb : w'.heap[(d.α id).1]? = some (.cells (numsV ks (l'.den d.Φ d.ρ) ++ rest).toArray g.ty (0, 0))) (hκ : d.κ id = some c)
    (hc : (l'.den d.Φ d.ρ).length + rest.length = c * ks.length) : HP X d (setH hp id (some { g with tl := some (ks, l') })) w' := by
  have hreg := hP.reg _ _ hg
  have hat := hreg.at ho
  unfold RegIs at hreg
  rw [htl] at hreg
  obtain ⟨q1, q2, q3, q4⟩ := hreg
  rw [if_pos ho] at q4
  obtain ⟨q4, q5, _⟩ := q4
  refine ⟨hP.bl.step hw.os hw.tape hw.output hw.size (fun k hk => hw.other k (Nat.lt_of_lt_of_le (Ctx.Mine.lt hk) hP.bl.size) (fun e => hk (by rw [e]; exact hat.1))), fun k q hq => ?_, fun i j ri rj hi hj oi oj hij => ?_, fun k q hq c hc => ?_, hP.pin.agree (Agree.refl _ _) (Has.setH id _)⟩
  · by_cases h : id = k
    · subst h
      rw [getH_setH_same _ _ _ (getH_lt hg)] at hq
      cases hq
      unfold RegIs
      refine ⟨q1, hk, fun h => (by rw [hκ] at h; cases h), ?_⟩
      rw [if_pos ho]
      exact ⟨q4, q5, rest, c, hb, hκ, hc⟩
    · rw [getH_setH_ne _ _ _ _ h] at hq
      exact (hP.reg _ _ hq).move rfl rfl rfl rfl rfl (SameTl.refl _ _) fun hqo => hw.other _ (hP.lt hq hqo) (hP.sep k id q g hq hg hqo ho (fun e => h e.symm))
  · have get : ∀ k q, getH (setH hp id (some { g with tl := some (ks, l') })) k = some q → q.own = true → ∃ q', getH hp k = some q' ∧ q'.own = true := fun k q hq hqo => by
      by_cases h : id = k
      · subst h; exact ⟨g, hg, ho⟩
      · rw [getH_setH_ne _ _ _ _ h] at hq; exact ⟨q, hq, hqo⟩
    obtain ⟨qi, h1, h2⟩ := get i ri hi oi
    obtain ⟨qj, h3, h4⟩ := get j rj hj oj
    exact hP.sep i j qi qj h1 h3 h2 h4 hij
  · by_cases h : id = k
    · subst h
      rw [getH_setH_same _ _ _ (getH_lt hg)] at hq
      cases hq
      have : c ∈ g.cs := hc
      rw [q1] at this; cases this
    · rw [getH_setH_ne _ _ _ _ h] at hq
      exact Cell.ok_mono (Has.setH id _) (hP.ids _ _ hq c hc)

/-- One more block of numbers, that is there already. -/
theorem HP.addL (hP : HP X d hp w) {new b c : Nat} {ks : List EK} {l : L} {ty : TypeId} (hn : getH hp new = none) (hl : new < hp.length) (hk : Kinds ks (l.den d.Φ d.ρ)) (hb : X.Mine b)
    (hf : ∀ i ri, getH hp i = some ri → ri.own = true → (d.α i).1 ≠ b) {rest : List Value} (hw : w.heap[b]? = some (.cells (numsV ks (l.den d.Φ d.ρ) ++ rest).toArray ty (0, 0))) (hc : (l.den d.Φ d.ρ).length + rest.length = c * ks.length) :
    ∃ d', Agree hp d d' ∧ Has hp (setH hp new (some ⟨[], true, ty, some (ks, l)⟩)) ∧ HP X d' (setH hp new (some ⟨[], true, ty, some (ks, l)⟩)) w ∧ d'.α new = (b, 0) ∧ d'.κ new = some c := by
  let d' : Dn := ⟨d.Φ, d.ρ, fun id => if id = new then (b, 0) else d.α id, fun id => if id = new then some c else d.κ id⟩
  have ne : ∀ id, (getH hp id).isSome = true → id ≠ new := fun id hid h => by subst h; rw [hn] at hid; cases hid
  have ag : Agree hp d d' := ⟨rfl, rfl, fun id hid => by simp [d', ne id hid], fun id hid => by simp [d', ne id hid]⟩
  have hasH := Has.setH (hp := hp) new ⟨[], true, ty, some (ks, l)⟩
  have hnew : d'.α new = (b, 0) := by simp [d']
  have hkap : d'.κ new = some c := by simp [d']
  refine ⟨d', ag, hasH, ⟨hP.bl, fun id g hg => ?_, fun i j ri rj hi hj oi oj hij => ?_, fun id g hg c hc => ?_, hP.pin.agree ag hasH⟩, hnew, hkap⟩
  · by_cases h : new = id
    · subst h
      rw [getH_setH_same _ _ _ hl] at hg
      cases hg
      unfold RegIs
      refine ⟨rfl, hk, fun hq => ?_, ?_⟩
      · rw [hkap] at hq; cases hq
      rw [if_pos rfl, hnew]
      exact ⟨rfl, hb, rest, c, hw, hkap, hc⟩
    · rw [getH_setH_ne _ _ _ _ h] at hg
      exact (hP.reg _ _ hg).move rfl rfl (ag.α id (by rw [hg]; rfl)) (ag.κ id (by rw [hg]; rfl)) (cells_agree ag (hP.ids _ _ hg)) (SameTl.eq rfl rfl _) fun _ => rfl
  · by_cases h1 : new = i
    · subst h1
      rw [getH_setH_ne _ _ _ _ hij] at hj
      rw [hnew, ag.α j (by rw [hj]; rfl)]
      exact fun e => hf j rj hj oj e.symm
    · rw [getH_setH_ne _ _ _ _ h1] at hi
      rw [ag.α i (by rw [hi]; rfl)]
      by_cases h2 : new = j
      · subst h2
        rw [hnew]
        exact hf i ri hi oi
      · rw [getH_setH_ne _ _ _ _ h2] at hj
        rw [ag.α j (by rw [hj]; rfl)]
        exact hP.sep i j ri rj hi hj oi oj hij
  · by_cases h : new = id
    · subst h
      rw [getH_setH_same _ _ _ hl] at hg
      cases hg
      cases hc
    · rw [getH_setH_ne _ _ _ _ h] at hg
      exact Cell.ok_agree ag (Cell.ok_mono hasH (hP.ids _ _ hg c hc))

theorem nelE_nat (l : L) (s : Nat) : (nelE l s).den d.Φ d.ρ = (((l.den d.Φ d.ρ).length / s : Nat) : Int) := by
  unfold nelE
  cases c : Nat.beq s 1 <;> simp only [cond_false, cond_true, E.den, stripS_len]
  · rw [← Int.natCast_ediv]
  · have c := Nat.eq_of_beq_eq_true c
    rw [c, Nat.div_one]

/-- Some more. -/
theorem HP.addAll {n : Nat} (hn0 : X.w0.heap.size ≤ n) : ∀ (kss : List (List EK)) (tys : List TypeId) (ls : List L) (vs : List Value) (bs : List Nat) (new : Nat) (hp : List (Option Reg)) (d : Dn), HP X d hp w →
    FreshAll n w kss tys (ls.map (L.den d.Φ d.ρ)) vs bs → (∀ k, new ≤ k → k < new + kss.length → getH hp k = none ∧ k < hp.length) → (∀ i ri, getH hp i = some ri → ri.own = true → (d.α i).1 ∉ bs) →
    ∃ d', Agree hp d d' ∧ Has hp (wrAll hp (cpWr new kss tys ls)) ∧ HP X d' (wrAll hp (cpWr new kss tys ls)) w ∧ (cpCells new kss ls).map (Cell.den d') = vs ∧
      ∀ c ∈ cpCells new kss ls, c.ok d' (wrAll hp (cpWr new kss tys ls))
  | [], tys, ls, vs, bs, new, hp, d, hP, hf, _, _ => by
    match tys, ls, vs, bs, hf with
    | [], [], [], [], _ => exact ⟨d, Agree.refl _ _, Has.refl _, hP, rfl, fun c hc => by cases hc⟩
  | ks :: kss, tys, ls, vs, bs, new, hp, d, hP, hf, hfree, hno => by
    match tys, ls, vs, bs, hf with
    | ty :: tys, l :: ls, v :: vs, b :: bs, hf =>
      obtain ⟨⟨h2, h3, rest, c, hv, h4, hcap⟩, h5, h6⟩ := hf
      obtain ⟨q1, q2⟩ := hfree new (Nat.le_refl _) (by simp)
      obtain ⟨d1, a1, a2, a3, a4, a5⟩ := hP.addL (c := c) q1 q2 h3 (.inl (Nat.le_trans hn0 h2)) (fun i ri hi oi e => hno i ri hi oi (by rw [e]; exact List.mem_cons_self)) h4 hcap
      have e1 : ls.map (L.den d1.Φ d1.ρ) = ls.map (L.den d.Φ d.ρ) := by rw [a1.Φ, a1.ρ]
      obtain ⟨d2, b1, b2, b3, b4, b5⟩ := HP.addAll hn0 kss tys ls vs bs (new + 1) _ d1 a3 (by rw [e1]; exact h6) (fun k k1 k2 => by
          have := hfree k (by omega) (by simp; omega)
          rw [getH_setH_ne _ _ _ _ (by omega), setH_length]; exact this) (fun i ri hi oi hm => by
          by_cases h : new = i
          · subst h; rw [a4] at hm; exact h5 _ hm rfl
          · rw [getH_setH_ne _ _ _ _ h] at hi
            rw [a1.α i (by rw [hi]; rfl)] at hm
            exact hno i ri hi oi (List.mem_cons_of_mem _ hm))
      have hin : (getH (setH hp new (some ⟨[], true, ty, some (ks, l)⟩)) new).isSome = true := by rw [getH_setH_same _ _ _ q2]; rfl
      have hΦ : d2.Φ = d.Φ := b1.Φ.trans a1.Φ
      have hρ : d2.ρ = d.ρ := b1.ρ.trans a1.ρ
      refine ⟨d2, a1.trans b1 a2, a2.trans b2, b3, ?_, fun x hx => ?_⟩
      · simp only [cpCells, List.map_cons, b4]
        congr 1
        simp only [Cell.den, b1.κ new hin, a5, b1.α new hin, a4, nelE_nat, Int.toNat_natCast, hv, hΦ, hρ, E.den]
        simp
      · simp only [cpCells, List.mem_cons] at hx
        rcases hx with rfl | hx
        · refine ⟨b2 _ hin, Int.le_refl _, ?_⟩
          rw [nelE_nat]; exact Int.natCast_nonneg _
        · exact b5 x hx

/-- A block of the call's own, written in place. -/
theorem HP.write (hP : HP X d hp w) {id : Nat} {g : Reg} (hg : getH hp id = some g) (ho : g.own = true) (htl : g.tl = none) {cs : List Cell} (hcs : ∀ c ∈ cs, c.ok d hp) {w' : World}
    (hw : Cut w w' (d.α id).1 (.cells (cs.map (Cell.den d)).toArray g.ty (0, 0))) : HP X d (setH hp id (some { g with cs := cs })) w' where
  bl := by
    have r := (hP.reg _ _ hg).at ho
    exact hP.bl.step hw.os hw.tape hw.output (by rw [hw.size]; exact Nat.le_refl _) (fun k hk => hw.other k (fun e => hk (by rw [e]; exact r.1)))
  reg := fun k q hq => by
    by_cases h : id = k
    · subst h
      rw [getH_setH_same _ _ _ (getH_lt hg)] at hq
      cases hq
      have r := (hP.reg _ _ hg).zero htl
      refine RegIs.of_zero ?_ htl
      unfold RegIs0 at *
      rw [if_pos ho] at r
      rw [if_pos ho]
      exact ⟨r.1, r.2.1, hw.it⟩
    · rw [getH_setH_ne _ _ _ _ h] at hq
      exact (hP.reg _ _ hq).move rfl rfl rfl rfl rfl (SameTl.refl _ _) fun hqo => hw.other _ (hP.sep k id q g hq hg hqo ho (fun e => h e.symm))
  sep := fun i j ri rj hi hj oi oj hij => by
    have get : ∀ k q, getH (setH hp id (some { g with cs := cs })) k = some q → q.own = true → ∃ q', getH hp k = some q' ∧ q'.own = true := fun k q hq hqo => by
      by_cases h : id = k
      · subst h; exact ⟨g, hg, ho⟩
      · rw [getH_setH_ne _ _ _ _ h] at hq; exact ⟨q, hq, hqo⟩
    obtain ⟨qi, h1, h2⟩ := get i ri hi oi
    obtain ⟨qj, h3, h4⟩ := get j rj hj oj
    exact hP.sep i j qi qj h1 h3 h2 h4 hij
  pin := hP.pin.agree (Agree.refl _ _) (Has.setH id _)
  ids := fun k q hq c hc => by
    by_cases h : id = k
    · subst h
      rw [getH_setH_same _ _ _ (getH_lt hg)] at hq
      cases hq
      exact Cell.ok_mono (Has.setH id _) (hcs c hc)
    · rw [getH_setH_ne _ _ _ _ h] at hq
      exact Cell.ok_mono (Has.setH id _) (hP.ids _ _ hq c hc)

theorem noTup_cells {sv : SV} {x : Value} (h : noTup sv = true) (hx : sv.is d x) : x.cells = (sv.cells.map (Cell.den d)).toArray := by
  cases sv with
  | one c => simp only [SV.is] at hx; subst hx; simp [SV.cells, Cell.den_cells]
  | agg cs => simp only [SV.is] at hx; subst hx; rfl
  | tup _ => cases h
  | any => cases h

theorem noTup_ok {sv : SV} (h : noTup sv = true) (hx : sv.ok d hp) : ∀ c ∈ sv.cells, c.ok d hp := by
  cases sv with
  | one c => intro c' hc; simp only [SV.cells, List.mem_singleton] at hc; subst hc; exact hx
  | agg cs => exact hx
  | tup _ => cases h
  | any => cases h

theorem op_new (hP : HP X d hp w) (hv : Reads d hp v e) (h : opRun C R o.op v rd new = some r) (ho : isNew o.op = true) (hmk : ∀ t x y, o.op ≠ .makeSlice t x y) (hn : getH hp new = none) (hl : new < hp.length) :
    ∃ x w', (execOp e o).run C.P w = .ok (.value x) w' ∧ Aft X d hp (wrAll hp r.wr) r.val x w' := by
  cases hop : o.op <;> rw [hop] at ho <;> simp only [isNew, Bool.false_eq_true] at ho
  case makeSlice t x y => exact (hmk t x y hop).elim
  case alloc t =>
    rw [hop] at h
    simp only [opRun] at h
    split at h
    · rename_i z hz
      cases c : noTup z <;> simp only [c, cond_false, cond_true] at h
      · cases h
      · cases h
        obtain ⟨x, hx1, hx2, hx3⟩ := run_zero (w := w) d hz
        refine ⟨_, _, ?_, hP.alloc (noTup_ok c (hx3 hp)) hn hl⟩
        simp only [execOp, hop, Instr.alloc, Sem.run_bind, hx1, Result.andThen_ok]
        simp [newVar, newRow, noTup_cells c hx2]
    · cases h
  case box t y =>
    rw [hop] at h
    simp only [opRun] at h
    split at h
    · rename_i z hz
      cases c : noTup z <;> simp only [c, cond_false, cond_true] at h
      · cases h
      · cases h
        refine ⟨_, _, ?_, hP.alloc (noTup_ok c (hv.ok _ _ hz)) hn hl⟩
        simp only [execOp, hop, Instr.box, Sem.run_bind]
        simp [newVar, newRow, noTup_cells c (hv.is _ _ hz)]
    · cases h
  case buildSlice t len parts =>
    rw [hop] at h
    simp only [opRun] at h
    split at h
    · rename_i el ps hu hps
      split at h
      · rename_i z hm hz
        cases c : (Nat.ble 1 len && (Nat.ble len 4096 && ps.all (fun p => noTup p.2))) <;> simp only [c, cond_false, cond_true] at h
        · cases h
        · simp only [Bool.and_eq_true] at c
          obtain ⟨c1, c2, c3⟩ := c
          have c1 := Nat.le_of_ble_eq_true c1
          have c2 := Nat.le_of_ble_eq_true c2
          simp only [Option.map_eq_some_iff] at h
          obtain ⟨cs, hf, rfl⟩ := h
          obtain ⟨x, hx1, hx2, hx3⟩ := run_zero (w := w) d hz
          simp only [SV.is] at hx2
          obtain ⟨p1, p2, p3⟩ := svParts_spec hv hps
          have hfr := fill_run d (fun i => some (i * 1, 1)) ps ((parts.map fun (i, x) => (i, e x)).toList) (List.replicate len z) cs (by simp [p1]) (fun k p q hk hq => by
            have hq' : (parts.toList.map fun x => (x.1, e x.2))[k]? = some q := by
              rw [← hq]; simp
            have := p2 k p q hk hq'
            exact ⟨this.1, List.all_eq_true.1 c3 p (List.mem_of_getElem? hk), this.2⟩) hf
          have hok : ∀ c ∈ cs, c.ok d hp := fillCells_ok _ ps _ cs p3 (fun c hc => by
            rw [List.eq_of_mem_replicate hc]
            exact hx3 hp) hf
          have A := hP.alloc (t := el) hok hn hl
          obtain ⟨d', a1, a2, a3, a4, a5⟩ := A
          have e0 : d'.α new = (w.heap.size, 0) := by
            simp only [SV.is, Cell.den, Value.pointer.injEq, Option.some.injEq, Addr.mk.injEq, Nat.add_zero] at a4
            exact Prod.ext a4.1.symm a4.2.1.symm
          refine ⟨.slice (some ⟨w.heap.size, 0, none⟩) len len, _, ?_, d', a1, a2, a3, ?_, a5⟩
          · have hcell : x.cells = #[Cell.den d z] := by rw [hx2]; exact Cell.den_cells d z
            have h2 : ¬ len * 1 > 2 ^ 24 := by omega
            have h3 : ¬ len * 1 = 0 := by omega
            have h4 : (Array.range (len * 1)).map (fun i => (#[Cell.den d z] : Array Value)[i % (#[Cell.den d z] : Array Value).size]!) = (List.replicate len (Cell.den d z)).toArray := by
              apply Array.ext
              · simp
              · intro i hi1 hi2
                simp [Nat.mod_one]
            simp only [execOp, hop, Instr.buildSlice, Sem.run_bind, run_und hu, Result.andThen_ok, run_size hm, h2, h3, if_false, hx1, Sem.run_pure, hcell, h4]
            rw [List.map_replicate] at hfr
            rw [hfr]
            simp [newRow]
          · simp only [SV.is, Cell.den, e0, Nat.add_zero]
      · rename_i m z hm hz
        cases c : (noTup z && (Nat.beq z.cells.length (m + 2) && (Nat.ble 1 len && (Nat.ble (len * (m + 2)) 4096 && ps.all (fun p => noTup p.2))))) <;> simp only [c, cond_false, cond_true] at h
        · cases h
        · simp only [Bool.and_eq_true] at c
          obtain ⟨c0, cz, c1, c2, c3⟩ := c
          have cz := Nat.eq_of_beq_eq_true cz
          have c1 := Nat.le_of_ble_eq_true c1
          have c2 := Nat.le_of_ble_eq_true c2
          simp only [Option.map_eq_some_iff] at h
          obtain ⟨cs, hf, rfl⟩ := h
          obtain ⟨x, hx1, hx2, hx3⟩ := run_zero (w := w) d hz
          have hxc := noTup_cells c0 hx2
          obtain ⟨p1, p2, p3⟩ := svParts_spec hv hps
          have hfr := fill_run d (fun i => some (i * (m + 2), m + 2)) ps ((parts.map fun (i, x) => (i, e x)).toList) (zeroCs z len) cs (by simp [p1]) (fun k p q hk hq => by
            have hq' : (parts.toList.map fun x => (x.1, e x.2))[k]? = some q := by
              rw [← hq]; simp
            have := p2 k p q hk hq'
            exact ⟨this.1, List.all_eq_true.1 c3 p (List.mem_of_getElem? hk), this.2⟩) hf
          have hok : ∀ c ∈ cs, c.ok d hp := fillCells_ok _ ps _ cs p3 (fun c hc => by
            obtain ⟨i, _, rfl⟩ := List.mem_map.1 hc
            rw [List.getD_eq_getElem?_getD]
            cases h : z.cells[i % z.cells.length]? with
            | none => exact trivial
            | some c => exact (noTup_ok c0 (hx3 hp)) c (List.mem_of_getElem? h)) hf
          have A := hP.alloc (t := el) hok hn hl
          obtain ⟨d', a1, a2, a3, a4, a5⟩ := A
          have e0 : d'.α new = (w.heap.size, 0) := by
            simp only [SV.is, Cell.den, Value.pointer.injEq, Option.some.injEq, Addr.mk.injEq, Nat.add_zero] at a4
            exact Prod.ext a4.1.symm a4.2.1.symm
          refine ⟨.slice (some ⟨w.heap.size, 0, none⟩) len len, _, ?_, d', a1, a2, a3, ?_, a5⟩
          · have h2 : ¬ len * (m + 2) > 2 ^ 24 := by omega
            have h3 : ¬ len * (m + 2) = 0 := by
              have : 1 * (m + 2) ≤ len * (m + 2) := Nat.mul_le_mul_right _ c1
              omega
            have h4 : (Array.range (len * (m + 2))).map (fun i => ((z.cells.map (Cell.den d)).toArray : Array Value)[i % ((z.cells.map (Cell.den d)).toArray : Array Value).size]!) = ((zeroCs z len).map (Cell.den d)).toArray := by
              apply Array.ext
              · simp [zeroCs, cz]
              · intro i hi1 hi2
                have hi : i % z.cells.length < z.cells.length := Nat.mod_lt _ (by omega)
                simp only [Array.getElem_map, Array.getElem_range, List.size_toArray, List.length_map, zeroCs, List.map_map, List.getElem_toArray, List.getElem_map, List.getElem_range, Function.comp]
                rw [getElem!_pos _ _ (by simpa using hi)]
                simp [List.getD_eq_getElem?_getD, List.getElem?_eq_getElem hi]
            simp only [execOp, hop, Instr.buildSlice, Sem.run_bind, run_und hu, Result.andThen_ok, run_size hm, h2, h3, if_false, hx1, Sem.run_pure, hxc, h4]
            rw [hfr]
            simp [newRow]
          · simp only [SV.is, Cell.den, e0, Nat.add_zero]
      · cases h
    · cases h

theorem storeVar_run {P : Program} {b off n : Nat} {c : List Value} {t ty : TypeId} {x : Value} {vs : List Value} (h : w.heap[b]? = some (.cells c.toArray ty (0, 0))) (ht : sizeT P t = some n)
    (hx : x.cells = vs.toArray) (hn : n = vs.length) (hl : off + vs.length ≤ c.length) (hv : ∀ y ∈ vs, y.oneCell' = true) :
    ∃ w', (storeVar t ⟨b, off, none⟩ x).run P w = .ok () w' ∧ Cut w w' b (.cells (c.take off ++ (vs ++ c.drop (off + vs.length))).toArray ty (0, 0)) := by
  obtain ⟨w', h1, h2⟩ := storeCells_run (P := P) (off := off) vs 0 w c h (by simpa using hl) hv
  refine ⟨w', ?_, by simpa using h2⟩
  simp only [storeVar, Sem.run_bind, run_size ht, Result.andThen_ok, hx, List.size_toArray, hn, ne_eq, not_true_eq_false, if_false]
  simpa using h1

theorem putCells_den (e : E) (k : IntKind) (x : E) : ∀ (es : List E) (j n : Nat), n < es.length → e.den d.Φ d.ρ = ((j + n : Nat) : Int) →
    (putCells e k x j (es.map (Cell.int k))).map (Cell.den d) = ((es.map (Cell.int k)).map (Cell.den d)).set n (.int k (x.den d.Φ d.ρ))
  | [], _, _, h, _ => by simp at h
  | y :: r, j, 0, _, he => by
    simp only [List.map_cons, putCells, Cell.den, E.den, B.den, he, Nat.add_zero, decide_true, if_true, List.set_cons_zero]
    congr 1
    have rest : ∀ (es : List E) (i : Nat), j < i → (putCells e k x i (es.map (Cell.int k))).map (Cell.den d) = (es.map (Cell.int k)).map (Cell.den d) := by
      intro es
      induction es with
      | nil => intro i _; rfl
      | cons z es ih =>
        intro i hi
        have hne : ¬ e.den d.Φ d.ρ = (i : Int) := by rw [he]; omega
        simp only [List.map_cons, putCells, Cell.den, E.den, B.den, hne, decide_false, Bool.false_eq_true, if_false]
        rw [ih (i + 1) (by omega)]
    rw [rest r (j + 1) (by omega)]
  | y :: r, j, n + 1, h, he => by
    have hne : ¬ e.den d.Φ d.ρ = (j : Int) := by rw [he]; omega
    simp only [List.map_cons, putCells, Cell.den, E.den, B.den, hne, decide_false, Bool.false_eq_true, if_false, List.set_cons_succ]
    rw [putCells_den e k x r (j + 1) n (by simpa using h) (by rw [he]; congr 1; omega)]

theorem splice_mem {cs new : List Cell} {off : Nat} {c : Cell} (h : c ∈ splice cs new off) : c ∈ cs ∨ c ∈ new := by
  simp only [splice, List.mem_append] at h
  rcases h with h | h | h
  · exact .inl (List.mem_of_mem_take h)
  · exact .inr h
  · exact .inl (List.mem_of_mem_drop h)

theorem putCells_ok (e : E) (k : IntKind) (x : E) : ∀ (cs : List Cell) (j : Nat), (∀ c ∈ cs, c.ok d hp) → ∀ c ∈ putCells e k x j cs, c.ok d hp
  | [], _, _, c, h => by cases h
  | y :: r, j, hc, c, h => by
    have ih := putCells_ok e k x r (j + 1) (fun c h => hc c (List.mem_cons_of_mem _ h))
    cases y <;> simp only [putCells, List.mem_cons] at h <;> rcases h with h | h
    all_goals first
      | exact ih c h
      | (subst h; exact hc _ List.mem_cons_self)
      | (subst h; trivial)

theorem putCells_length (e : E) (k : IntKind) (x : E) : ∀ (cs : List Cell) (j : Nat), (putCells e k x j cs).length = cs.length
  | [], _ => rfl
  | y :: r, j => by cases y <;> simp [putCells, putCells_length e k x r (j + 1)]

theorem op_store {t : TypeId} {y z : Operand} (hR : RV d.Φ R d.ρ) (hos : OsHold d.Φ Pr d.ρ r.os) (hP : HP X d hp w) (hv : Reads d hp v e) (hrd : ∀ id r, rd id = some r → getH hp id = some r)
    (h : opRun C R (.store t y z) v rd new = some r) (ho : o.op = .store t y z) :
    ∃ w', (execOp e o).run C.P w = .ok .skip w' ∧ Aft X d hp (wrAll hp r.wr) r.val undef w' := by
  simp only [opRun] at h
  split at h
  · rename_i id off sz hy hz
    split at h
    · rename_i g hg
      cases c : (noTup sz && (g.own && g.tl.isNone) && decide (sizeT C.P t = some sz.cells.length) && Nat.ble (off + sz.cells.length) g.cs.length) <;> simp only [c, cond_false, cond_true] at h
      · cases h
      · cases h
        simp only [Bool.and_eq_true, decide_eq_true_eq, Option.isNone_iff_eq_none] at c
        obtain ⟨⟨⟨c1, c2, ctl⟩, c3⟩, c4⟩ := c
        have c4 := Nat.le_of_ble_eq_true c4
        have hg := hrd _ _ hg
        have h1 := hv.is _ _ hy
        simp only [SV.is, Cell.den] at h1
        have hr := (hP.reg _ _ hg).zero ctl
        unfold RegIs0 at hr
        rw [if_pos c2] at hr
        have hb : w.heap[(d.α id).1]? = some (.cells (g.cs.map (Cell.den d)).toArray g.ty (0, 0)) := hr.2.2
        obtain ⟨w', g1, g2⟩ := storeVar_run (P := C.P) (w := w) (off := off) (x := e z) (vs := sz.cells.map (Cell.den d)) hb c3 (noTup_cells c1 (hv.is _ _ hz)) (by simp) (by simpa using c4)
          (fun q hq => by obtain ⟨c, _, rfl⟩ := List.mem_map.1 hq; exact Cell.den_oneCell d c)
        refine ⟨w', ?_, d, Agree.refl _ _, Has.setH id _, ?_, undef_is d, undef_ok d _⟩
        · simp only [execOp, ho, h1, Instr.storeAt, Instr.sureAddr, Sem.run_bind, Sem.run_pure, Result.andThen_ok, hr.1, Nat.zero_add, g1]
        · refine hP.write hg c2 ctl (cs := splice g.cs sz.cells off) (fun q hq => ?_) ?_
          · rcases splice_mem hq with hq | hq
            · exact hP.ids _ _ hg q hq
            · exact noTup_ok c1 (hv.ok _ _ hz) q hq
          · simpa [splice, List.map_take, List.map_drop] using g2
    · cases h
  · rename_i id off n ix k x hy hz
    split at h
    · rename_i g hg
      cases c : ((g.own && g.tl.isNone) && decide (sizeT C.P t = some 1) && Nat.ble (off + n) g.cs.length && (intEs k ((g.cs.drop off).take n)).isSome) <;> simp only [c, cond_false, cond_true] at h
      · cases h
      · cases h
        simp only [Bool.and_eq_true, decide_eq_true_eq, Option.isNone_iff_eq_none] at c
        obtain ⟨⟨⟨⟨c1, ctl⟩, c2⟩, c3⟩, c4⟩ := c
        have c3 := Nat.le_of_ble_eq_true c3
        obtain ⟨es, hes⟩ := Option.isSome_iff_exists.1 c4
        have hes := intEs_some hes
        have hg := hrd _ _ hg
        have h1 := hv.is _ _ hy
        have h2 := hv.is _ _ hz
        simp only [SV.is, Cell.den] at h1 h2
        obtain ⟨_, b1, b2⟩ := hv.ok _ _ hy
        obtain ⟨j, hj⟩ := Int.eq_ofNat_of_zero_le b1
        have hjn : j < n := by omega
        have hr := (hP.reg _ _ hg).zero ctl
        unfold RegIs0 at hr
        rw [if_pos c1] at hr
        have hb : w.heap[(d.α id).1]? = some (.cells (g.cs.map (Cell.den d)).toArray g.ty (0, 0)) := hr.2.2
        obtain ⟨w', g1, g2⟩ := storeVar_run (P := C.P) (w := w) (off := off + j) (x := e z) (vs := [.int k (x.den d.Φ d.ρ)]) hb c2 (by rw [h2]; rfl) rfl (by simp; omega)
          (fun q hq => by simp only [List.mem_singleton] at hq; subst hq; rfl)
        refine ⟨w', ?_, d, Agree.refl _ _, Has.setH id _, ?_, undef_is d, undef_ok d _⟩
        · simp only [execOp, ho, h1, Instr.storeAt, Instr.sureAddr, Sem.run_bind, Sem.run_pure, Result.andThen_ok, hr.1, Nat.zero_add, hj, Int.toNat_natCast, Nat.mul_one, g1]
        · refine hP.write hg c1 ctl (cs := splice g.cs (putCells ix k x 0 ((g.cs.drop off).take n)) off) (fun q hq => ?_) ?_
          · rcases splice_mem hq with hq | hq
            · exact hP.ids _ _ hg q hq
            · exact putCells_ok _ _ _ _ _ (fun c hc => hP.ids _ _ hg c (List.mem_of_mem_drop (List.mem_of_mem_take hc))) q hq
          · have hlen : es.length = n := by
              have := congrArg List.length hes
              simp at this; omega
            have hput := putCells_den (d := d) ix k x es 0 j (by omega) (by rw [hj]; congr 1; omega)
            rw [← hes] at hput
            have hl2 : (putCells ix k x 0 ((g.cs.drop off).take n)).length = n := by rw [putCells_length]; simp; omega
            have key : (splice g.cs (putCells ix k x 0 ((g.cs.drop off).take n)) off).map (Cell.den d) =
                (g.cs.map (Cell.den d)).take (off + j) ++ ([.int k (x.den d.Φ d.ρ)] ++ (g.cs.map (Cell.den d)).drop (off + j + 1)) := by
              simp only [splice, List.map_append, hput, hl2]
              have e0 : ((g.cs.map (Cell.den d)).set (off + j) (.int k (x.den d.Φ d.ρ))) = (g.cs.map (Cell.den d)).take (off + j) ++ ([.int k (x.den d.Φ d.ρ)] ++ (g.cs.map (Cell.den d)).drop (off + j + 1)) := by
                rw [List.set_eq_take_append_cons_drop, if_pos (by simp; omega)]; simp
              rw [← e0]
              apply List.ext_getElem?
              intro i
              simp only [List.map_take, List.map_drop]
              rw [List.getElem?_append]
              simp only [List.length_take, List.length_map]
              have ho : min off g.cs.length = off := by omega
              rw [ho]
              split
              · rename_i hi
                rw [List.getElem?_take_of_lt hi, List.getElem?_set_ne (by omega)]
              · rename_i hi
                rw [List.getElem?_append]
                simp only [List.length_set, List.length_take, List.length_drop, List.length_map]
                split
                · rename_i hi2
                  rw [List.getElem?_set, List.getElem?_set]
                  by_cases hij : j = i - off
                  · have : off + j = i := by omega
                    rw [if_pos hij, if_pos this, if_pos (by simp; omega), if_pos (by simp; omega)]
                  · have : ¬ off + j = i := by omega
                    rw [if_neg hij, if_neg this, List.getElem?_take_of_lt (by omega), List.getElem?_drop]
                    congr 1; omega
                · rename_i hi2
                  rw [List.getElem?_drop, List.getElem?_set_ne (by omega)]
                  congr 1; omega
            rw [key]
            simpa using g2
    · cases h
  · rename_i id s ix f cc0 hy hz
    split at h
    · rename_i g hg
      split at h
      · rename_i ks l htl
        split at h
        rotate_left
        · cases h
        rename_i k c2
        split at h
        rotate_left
        · cases h
        rename_i x hkx
        cases c : (g.own && (Nat.beq s ks.length && decide (sizeT C.P t = some 1))) <;> simp only [c, cond_false, cond_true] at h
        · cases h
        · cases h
          simp only [Bool.and_eq_true, decide_eq_true_eq] at c
          obtain ⟨c1, c3, c4⟩ := c
          obtain ⟨kx1, hx⟩ := kdE_spec hR hkx
          have kx1 : _ = evl k (x.den d.Φ d.ρ) := kx1
          have c3 := Nat.eq_of_beq_eq_true c3
          have hg := hrd _ _ hg
          have h1 := hv.is _ _ hy
          have h2 := hv.is _ _ hz
          simp only [SV.is] at h1 h2
          rw [kx1] at h2
          simp only [Cell.den] at h1
          obtain ⟨_, b1⟩ : (getH hp id).isSome = true ∧ 0 ≤ ix.den d.Φ d.ρ := hv.ok _ _ hy
          obtain ⟨j, hj⟩ := Int.eq_ofNat_of_zero_le b1
          have b2 := must_hold hos
          rw [mkLt_den hR] at b2
          have b2 := of_decide_eq_true b2
          rw [flatE_den, hj] at b2
          simp only [E.den] at b2
          have hlt : j * s + f < (l.den d.Φ d.ρ).length := by
            have : ((j * s + f : Nat) : Int) < (l.den d.Φ d.ρ).length := by rw [Int.natCast_add, Int.natCast_mul]; exact b2
            omega
          have hfl : ((flatE ix s f).den d.Φ d.ρ).toNat = j * s + f := by
            rw [flatE_den, hj, ← Int.natCast_mul, ← Int.natCast_add, Int.toNat_natCast]
          have hf : f < ks.length := (List.getElem?_eq_some_iff.1 c2).1
          have hkind : kindAt ks (j * s + f) = k := by
            unfold kindAt
            rw [c3, Nat.mul_comm, Nat.mul_add_mod, Nat.mod_eq_of_lt hf, List.getD_eq_getElem?_getD, c2]; rfl
          have hreg := hP.reg _ _ hg
          unfold RegIs at hreg
          rw [htl] at hreg
          obtain ⟨_, hK, _, hreg⟩ := hreg
          rw [if_pos c1] at hreg
          obtain ⟨ha, _, rest, cp, hb, _, _⟩ := hreg
          simp only at hb hK
          obtain ⟨w', g1, g2⟩ := storeVar_run (P := C.P) (w := w) (off := j * s + f) (x := e z) (vs := [evl k (x.den d.Φ d.ρ)]) hb c4 (by rw [h2]; cases k <;> rfl) rfl (by simp only [numsV, List.length_append, List.length_mapIdx, List.length_singleton]; omega)
            (fun q hq => by simp only [List.mem_singleton] at hq; subst hq; exact evl_one _ _)
          refine ⟨w', ?_, d, Agree.refl _ _, Has.setH id _, ?_, undef_is d, undef_ok d _⟩
          · simp only [execOp, ho, h1, Instr.storeAt, Instr.sureAddr, Sem.run_bind, Sem.run_pure, Result.andThen_ok, ha, Nat.zero_add, hj, Int.toNat_natCast, g1]
          · have hden : (L.set l (flatE ix s f) x).den d.Φ d.ρ = (l.den d.Φ d.ρ).set (j * s + f) (x.den d.Φ d.ρ) := by
              simp only [L.den, hfl]
            refine hP.writeL hg c1 htl (l' := .set l (flatE ix s f) x) ?_ (by rw [hden, List.length_set]) fun rest' hb' => ?_
            · rw [hden]
              refine ⟨fun i y hi => ?_, by rw [List.length_set]; exact hK.2⟩
              rw [List.getElem?_set] at hi
              split at hi
              · rename_i e'
                first
                | (cases hi; rw [← e', hkind]; exact hx)
                | (split at hi
                   · cases hi; rw [← e', hkind]; exact hx
                   · cases hi)
              · exact hK.1 i y hi
            · rw [hb] at hb'
              simp only [Option.some.injEq, Obj.cells.injEq, Array.mk.injEq, and_true] at hb'
              have hr' := List.append_cancel_left hb'
              subst hr'
              have e0 : (numsV ks (l.den d.Φ d.ρ) ++ rest).take (j * s + f) ++ ([evl k (x.den d.Φ d.ρ)] ++ (numsV ks (l.den d.Φ d.ρ) ++ rest).drop (j * s + f + [evl k (x.den d.Φ d.ρ)].length)) =
                  numsV ks ((l.den d.Φ d.ρ).set (j * s + f) (x.den d.Φ d.ρ)) ++ rest := by
                have e1 : numsV ks ((l.den d.Φ d.ρ).set (j * s + f) (x.den d.Φ d.ρ)) = (numsV ks (l.den d.Φ d.ρ)).set (j * s + f) (evl k (x.den d.Φ d.ρ)) := by
                  unfold numsV
                  apply List.ext_getElem?
                  intro i
                  rw [List.getElem?_mapIdx, List.getElem?_set, List.getElem?_set, List.length_mapIdx, List.getElem?_mapIdx]
                  by_cases hi : j * s + f = i
                  · rw [if_pos hi, if_pos hi, if_pos (by omega), if_pos (by omega), ← hi, Option.map_some, hkind]
                  · rw [if_neg hi, if_neg hi]
                have hln : j * s + f < (numsV ks (l.den d.Φ d.ρ)).length := by simp [numsV]; exact hlt
                rw [e1, ← List.set_append_left _ _ hln, List.set_eq_take_append_cons_drop, if_pos (by rw [List.length_append]; omega)]
                simp
              rw [hden, ← e0]
              exact g2
      · cases h
    · cases h
  · cases h

theorem zeroKs_spec : ∀ {vs : List Value} {ks : List EK}, zeroKs vs = some ks → vs = ks.map fun k => evl k 0
  | [], ks, h => by simp only [zeroKs, Option.some.injEq] at h; subst h; rfl
  | v :: r, ks, h => by
    unfold zeroKs at h
    split at h
    · rename_i e; cases e
    · rename_i k r' e
      cases e
      simp only [Option.map_eq_some_iff] at h
      obtain ⟨ks', h1, rfl⟩ := h
      rw [zeroKs_spec h1]; cases k <;> rfl
    · rename_i r' e
      cases e
      simp only [Option.map_eq_some_iff] at h
      obtain ⟨ks', h1, rfl⟩ := h
      rw [zeroKs_spec h1]; rfl
    · cases h

theorem numsV_take (ks : List EK) (xs : List Int) (n : Nat) : (numsV ks xs).take n = numsV ks (xs.take n) := by
  unfold numsV
  apply List.ext_getElem?
  intro i
  rw [List.getElem?_take, List.getElem?_mapIdx, List.getElem?_mapIdx, List.getElem?_take]
  split <;> rfl

/-- A new list of zeros. -/
theorem op_make {t : TypeId} {x y : Operand} (hR : RV d.Φ R d.ρ) (hos : OsHold d.Φ Pr d.ρ r.os) (hP : HP X d hp w) (hv : Reads d hp v e)
    (h : opRun C R (.makeSlice t x y) v rd new = some r) (ho : o.op = .makeSlice t x y) (hn : getH hp new = none) (hl : new < hp.length) :
    ∃ q w', (execOp e o).run C.P w = .ok (.value q) w' ∧ Aft X d hp (wrAll hp r.wr) r.val q w' := by
  simp only [opRun] at h
  split at h
  · rename_i el ks bytes k1 a k2 b hmk hx hy
    split at h
    · rename_i ivb hiv
      cases c : ((ile (bytes * ivb.hi) 281474976710656 && ile ivb.hi 9223372036854775807) || Nat.ble bytes 256) <;> simp only [c, cond_false, cond_true] at h
      · cases h
      · cases h
        have o1 := must_hold (fun q hq => hos q (List.mem_append_left _ hq))
        have o2 := must_hold (fun q hq => hos q (List.mem_append_right _ (List.mem_append_left _ hq)))
        rw [mkLe_den hR] at o1 o2
        have o1 := of_decide_eq_true o1
        have o2 := of_decide_eq_true o2
        have hb := (E.iv_ok hR _ hiv).2
        have cc : (bytes : Int) * b.den d.Φ d.ρ ≤ 281474976710656 ∧ b.den d.Φ d.ρ ≤ 9223372036854775807 := by
          cases c' : (ile (bytes * ivb.hi) 281474976710656 && ile ivb.hi 9223372036854775807)
          · rw [c'] at c hos
            simp only [Bool.false_or] at c
            have c := Nat.le_of_ble_eq_true c
            have o3 := must_hold (fun q hq => hos q (List.mem_append_right _ (List.mem_append_right _ hq)))
            rw [mkLe_den hR] at o3
            have o3 : b.den d.Φ d.ρ ≤ 1099511627776 := of_decide_eq_true o3
            have o0 : 0 ≤ b.den d.Φ d.ρ := Int.le_trans o1 o2
            refine ⟨?_, by omega⟩
            have e1 : (bytes : Int) * b.den d.Φ d.ρ ≤ 256 * b.den d.Φ d.ρ := Int.mul_le_mul_of_nonneg_right (by omega) o0
            omega
          · simp only [Bool.and_eq_true] at c'
            have c1 := ile_iff.1 c'.1
            have c2 := ile_iff.1 c'.2
            have : (bytes : Int) * b.den d.Φ d.ρ ≤ bytes * ivb.hi := Int.mul_le_mul_of_nonneg_left hb (Int.natCast_nonneg _)
            exact ⟨by omega, by omega⟩
        unfold makeKs at hmk
        split at hmk
        · rename_i el' hu
          split at hmk
          · rename_i i hi
            split at hmk
            · rename_i z hz
              split at hmk
              · rename_i ks' hks
                cases cx : (Nat.beq i.size ks'.length && Nat.blt 0 ks'.length) <;> simp only [cx, cond_false, cond_true] at hmk
                · cases hmk
                · cases hmk
                  simp only [Bool.and_eq_true, Nat.beq_eq, Nat.blt_eq] at cx
                  obtain ⟨cc1, cc2⟩ := cx
                  have h1 := hv.is _ _ hx
                  have h2 := hv.is _ _ hy
                  simp only [SV.is, Cell.den] at h1 h2
                  have o1 : 0 ≤ a.den d.Φ d.ρ := o1
                  obtain ⟨n, hn1⟩ := Int.eq_ofNat_of_zero_le o1
                  obtain ⟨m, hm1⟩ := Int.eq_ofNat_of_zero_le (Int.le_trans o1 o2)
                  have hnm : n ≤ m := by omega
                  have hrun := run_make (P := C.P) w t el i z hu hi hz k1 k2 (a.den d.Φ d.ρ) (b.den d.Φ d.ρ) o1 o2 (by
                    have := cc.1
                    omega) (by have := cc.2; omega)
                  rw [hn1, hm1] at hrun
                  simp only [Int.toNat_natCast] at hrun
                  let cells := madeCells z.cells (m * i.size)
                  have hcells : cells = (numsV ks (List.replicate (m * ks.length) 0)).toArray := by
                    have hzc : z.cells = (ks.map fun k => evl k 0).toArray := by rw [← zeroKs_spec hks]
                    apply Array.ext
                    · simp [cells, madeCells, numsV, cc1]
                    · intro j hj1 hj2
                      have hj : j % ks.length < ks.length := Nat.mod_lt _ cc2
                      simp only [cells, madeCells, hzc, numsV, Array.getElem_map, Array.getElem_range, List.size_toArray, List.length_map, List.getElem_toArray, List.getElem_mapIdx, List.getElem_replicate, kindAt]
                      rw [getElem!_pos _ _ (by simpa using hj)]
                      simp [List.getD_eq_getElem?_getD, List.getElem?_eq_getElem hj]
                  have hP' := hP.regs (w' := w.alloc (.cells cells el)) ((Below.refl _ _).alloc (Nat.le_refl _) _)
                  have hN : (L.zeros (mkMul a (.lit ks.length))).den d.Φ d.ρ = List.replicate (n * ks.length) 0 := by
                    simp only [L.den, mkMul_den, E.den, hn1]
                    rw [← Int.natCast_mul, Int.toNat_natCast]
                  obtain ⟨d', a1, a2, a3, a4, a5⟩ := hP'.addL (new := new) (b := w.heap.size) (c := m) (ks := ks) (l := .zeros (mkMul a (.lit ks.length))) (ty := el) hn hl
                    (by
                      rw [hN]
                      exact ⟨fun j q hj => by
                        have : q = 0 := List.eq_of_mem_replicate (List.mem_of_getElem? hj)
                        subst this
                        exact eiv_zero _, by simp⟩)
                    (.inl hP.bl.size) (fun j rj hj oj => by have := hP.lt hj oj; omega) (rest := (numsV ks (List.replicate (m * ks.length) 0)).drop (n * ks.length))
                    (by
                      rw [hN]
                      have e1 : numsV ks (List.replicate (n * ks.length) 0) = (numsV ks (List.replicate (m * ks.length) 0)).take (n * ks.length) := by
                        rw [numsV_take, List.take_replicate, Nat.min_eq_left (Nat.mul_le_mul_right _ hnm)]
                      rw [e1, List.take_append_drop, ← hcells]
                      show (w.heap.push _)[w.heap.size]? = _
                      rw [Array.getElem?_push, if_pos rfl])
                    (by
                      rw [hN]
                      have := Nat.mul_le_mul_right ks.length hnm
                      simp [numsV]
                      omega)
                  refine ⟨.slice (some ⟨w.heap.size, 0, none⟩) n m, w.alloc (.cells cells el), ?_, d', a1, a2, a3, ?_, ?_⟩
                  · simp only [execOp, ho, h1, h2, hn1, hm1, Sem.run_bind, hrun, Result.andThen_ok, Sem.run_pure]
                    rfl
                  · have hnel : (nelE (.zeros (mkMul a (.lit ks.length))) ks.length).den d'.Φ d'.ρ = (n : Int) := by
                      rw [nelE_nat, a1.Φ, a1.ρ, hN, List.length_replicate, Nat.mul_div_cancel _ cc2]
                    simp only [SV.is, Cell.den, hnel, a4, a5, Int.toNat_natCast, E.den]
                    simp
                  · refine ⟨?_, Int.le_refl _, ?_⟩
                    · show (getH (setH hp new _) new).isSome = true
                      rw [getH_setH_same _ _ _ hl]; rfl
                    · rw [nelE_nat]; exact Int.natCast_nonneg _
              · cases hmk
            · cases hmk
          · cases hmk
        · cases hmk
    · cases h
  · cases h

end
end Go.Proofs.YtelfpnkhdaaeoaaDoor.Sx
