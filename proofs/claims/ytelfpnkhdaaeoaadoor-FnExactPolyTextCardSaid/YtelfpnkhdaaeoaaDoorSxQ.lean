/-
  The symbolic executor: whole functions. What is asked of a function's numbers gives what it is known to do.
-/
import Derived.Test.YtelfpnkhdaaeoaaDoorSxP
namespace Go.Proofs.YtelfpnkhdaaeoaaDoor.Sx
open Go Go.RowKit

def VC.holds (Φ : Fns) (Pr : Pres) (post : List Int → List (List Int) → Prop) : VC → Env → Prop
  | .fail _, _ => False
  | .fin as, ρ => post (as.denE Φ ρ) (as.denL Φ ρ)
  | .ite b t e, ρ => (b.den Φ ρ = true → t.holds Φ Pr post ρ) ∧ (b.den Φ ρ = false → e.holds Φ Pr post ρ)
  | .need os t, ρ => OsHold Φ Pr ρ os ∧ t.holds Φ Pr post ρ
  | .bind e t, ρ => t.holds Φ Pr post (ρ.pushI [e.den Φ ρ])
  | .call g as n t, ρ => t.holds Φ Pr post (ρ.pushI (norm n (Φ g (as.denE Φ ρ) (as.denL Φ ρ)).1))
  | .calll g as rs lrs t, ρ => ∀ ys zs, allHas rs ys → allL lrs zs → (ys, zs) = Φ g (as.denE Φ ρ) (as.denL Φ ρ) → t.holds Φ Pr post (ρ.push2 ys zs)
  | .again k n0 m0 rs es les, ρ => allHas rs (es.map (E.den Φ ρ)) ∧ Pr.inv k ⟨ρ.i.take n0, ρ.l.take m0⟩ ⟨es.map (E.den Φ ρ), les.map (L.den Φ ρ)⟩ ∧
      Pr.mu k ⟨ρ.i.take n0, ρ.l.take m0⟩ ⟨es.map (E.den Φ ρ), les.map (L.den Φ ρ)⟩ < Pr.mu k ⟨ρ.i.take n0, ρ.l.take m0⟩ ⟨(ρ.i.drop n0).take rs.length, (ρ.l.drop m0).take les.length⟩
  | .loop k es les rs lrs t, ρ => allHas rs (es.map (E.den Φ ρ)) ∧ Pr.inv k ρ ⟨es.map (E.den Φ ρ), les.map (L.den Φ ρ)⟩ ∧
      ∀ ys zs, allHas rs ys → allL lrs zs → Pr.inv k ρ ⟨ys, zs⟩ → t.holds Φ Pr post (ρ.push2 ys zs)

section
variable {C : Cfg} {R : Bds} {X : Ctx} {d : Dn} {w : World} {S : St} {a : Act} {Pr : Pres} {Φ : Fns}

theorem vc_holds {fin : Ex → Bds → St → VC} {post : List Int → List (List Int) → Prop} : ∀ (t : T) (ρ : Env), (t.vc fin).holds Φ Pr post ρ → t.holds Φ Pr ρ fun x R S ρ => (fin x R S).holds Φ Pr post ρ
  | .fail _, _, h => h
  | .leaf _ _ _, _, h => h
  | .ite _ t e, ρ, h => ⟨fun hb => vc_holds t ρ (h.1 hb), fun hb => vc_holds e ρ (h.2 hb)⟩
  | .need _ t, ρ, h => ⟨h.1, vc_holds t ρ h.2⟩
  | .bind _ t, _, h => vc_holds t _ h
  | .call _ _ _ t, _, h => vc_holds t _ h
  | .calll _ _ _ _ t, _, h => fun ys zs h1 h2 h3 => vc_holds t _ (h ys zs h1 h2 h3)
  | .again _ _ _ _ _ _, _, h => h
  | .loop _ _ _ _ _ t, _, h => ⟨h.1, h.2.1, fun ys zs h1 h2 h3 => vc_holds t _ (h.2.2 ys zs h1 h2 h3)⟩

/-! ### What is returned -/
def AllIs (d : Dn) : List SV → List Value → Prop
  | [], [] => True
  | v :: vs, x :: xs => v.is d x ∧ AllIs d vs xs
  | _, _ => False

theorem resAS_spec (hR : RV d.Φ R d.ρ) : ∀ {res : List (Bool × List Kd)} {vs : List SV} {as : AS} {vals : List Value}, resAS R res vs = some as → AllIs d vs vals →
    as.denL d.Φ d.ρ = [] ∧ allHas ((res.flatMap (·.2)).map Kd.iv) (as.denE d.Φ d.ρ) ∧ ∀ pre : List Int, vals = resVals (pre ++ as.denE d.Φ d.ρ) pre.length res
  | [], [], as, [], h, _ => by
    simp only [resAS, Option.some.injEq] at h; subst h
    exact ⟨rfl, trivial, fun _ => rfl⟩
  | [], [], _, _ :: _, _, hv => hv.elim
  | [], _ :: _, _, _, h, _ => by cases h
  | _ :: _, [], _, _, h, _ => by simp [resAS] at h
  | (b, ks) :: res, v :: vs, as, [], h, hv => hv.elim
  | (b, ks) :: res, v :: vs, out, x :: vals, h, hv => by
    have fin : ∀ (cs : List Cell) (as : AS), resAS R res vs = some as → cellsAS R ks cs as = some out → x = compVal b (cs.map (Cell.den d)) →
        out.denL d.Φ d.ρ = [] ∧ allHas ((((b, ks) :: res).flatMap (·.2)).map Kd.iv) (out.denE d.Φ d.ρ) ∧ ∀ pre : List Int, x :: vals = resVals (pre ++ out.denE d.Φ d.ρ) pre.length ((b, ks) :: res) := by
      intro cs as h1 h2 h3
      obtain ⟨xs, i1, i2, i3, i4, i5⟩ := cellsAS_spec hR h2
      obtain ⟨j1, j2, j3⟩ := resAS_spec hR h1 hv.2
      refine ⟨i3.trans j1, by rw [i2, List.flatMap_cons, List.map_append]; exact allHas_append i5 j2, fun pre => ?_⟩
      have e := j3 (pre ++ xs)
      simp only [resVals]
      rw [i2, kdVals_append ks pre.length xs i1 rfl, ← i4, ← h3, e, List.length_append, i1, List.append_assoc]
    cases b with
    | true =>
      cases v with
      | agg cs =>
        simp only [resAS] at h
        split at h
        · rename_i as h1
          exact fin cs as h1 h hv.1
        · cases h
      | _ => cases h
    | false =>
      cases v with
      | one c =>
        simp only [resAS] at h
        split at h
        · rename_i as h1
          exact fin [c] as h1 h hv.1
        · cases h
      | _ => cases h

def rvRun (tmps : Array Value) : ResultVar → Sem Value
  | .tmp t => pure (tmps.getD t undef)
  | .cell q t => do loadVar t (← asAddr (tmps.getD q undef))

theorem results_eq (fn : Func) (tmps : Array Value) : results fn tmps = (do
    let vs ← fn.results.mapM (rvRun tmps)
    pure (if h : vs.size = 1 then vs[0] else .tuple vs)) := by
  unfold results
  congr 2

theorem resVar_run (h : Sat X d S a w) {rv : ResultVar} {sv : SV} (hr : resVar X.P S rv = some sv) :
    ∃ x, (rvRun a.tmps rv).run X.P w = .ok x w ∧ sv.is d x := by
  cases rv with
  | tmp t =>
    simp only [resVar, Option.some.injEq] at hr
    subst hr
    exact ⟨_, rfl, h.tm.is t⟩
  | cell q t =>
    simp only [resVar] at hr
    split at hr
    · rename_i id off hq
      split at hr
      · rename_i r hid
        obtain ⟨y, hy, hy2⟩ := loadVar_run (h.hp.reg _ _ hid) h.hp.bl hr
        have := h.tm.is q
        rw [hq] at this
        simp only [SV.is, Cell.den] at this
        refine ⟨y, ?_, hy2⟩
        simp only [rvRun, Sem.run_bind, this, asAddr, Sem.run_pure, Result.andThen_ok, hy]
      · cases hr
    · cases hr

theorem resVars_run (h : Sat X d S a w) : ∀ {rs : List ResultVar} {vs : List SV}, resVars X.P S rs = some vs →
    ∃ xs, (rs.mapM (rvRun a.tmps)).run X.P w = .ok xs w ∧ AllIs d vs xs
  | [], vs, hr => by
    simp only [resVars, Option.some.injEq] at hr
    subst hr
    exact ⟨[], by rw [List.mapM_nil, Sem.run_pure], trivial⟩
  | r :: rs, vs, hr => by
    simp only [resVars] at hr
    split at hr
    · rename_i x xs h1 h2
      cases hr
      obtain ⟨y, hy1, hy2⟩ := resVar_run h h1
      obtain ⟨ys, hs1, hs2⟩ := resVars_run h h2
      refine ⟨y :: ys, ?_, hy2, hs2⟩
      simp only [List.mapM_cons, Sem.run_bind, hy1, Result.andThen_ok, hs1, Sem.run_pure]
    · cases hr

theorem results_run (h : Sat X d S a w) {fn : Func} {vs : List SV} (hr : resVars X.P S fn.results.toList = some vs) :
    ∃ xs, (results fn a.tmps).run X.P w = .ok (oneOr xs) w ∧ AllIs d vs xs := by
  obtain ⟨xs, h1, h2⟩ := resVars_run h hr
  refine ⟨xs, ?_, h2⟩
  rw [results_eq, Sem.run_bind, Array.mapM_eq_mapM_toList, map_eq_pure_bind, Sem.run_bind, h1]
  simp only [Result.andThen_ok, Sem.run_pure]
  congr 1
  match xs with
  | [] => rfl
  | [v] => rfl
  | _ :: _ :: _ => rfl

/-! ### What it is called with -/
/-- All blocks from place id on. -/
def There (hp : List (Option Reg)) (id n : Nat) : Prop := ∀ i, i < n → (getH hp (id + i)).isSome = true

structure InitOk (X : Ctx) (d : Dn) (w : World) (id j m : Nat) (ps : List PSh) (args : List Value) : Prop where
  len : args.length = (parSVs j id m ps).length
  is : ∀ t, (getT (parSVs j id m ps) t).is d (args.getD t undef)
  ok : ∀ hp, There hp id (parRegs j id m ps).length → ∀ t, (getT (parSVs j id m ps) t).ok d hp
  reg : ∀ i r, getH (parRegs j id m ps) i = some r → r.own = false ∧ RegIs X d (id + i) r w ∧ ∀ hp, There hp id (parRegs j id m ps).length → ∀ c ∈ r.cs, c.ok d hp
  all : ∀ i, i < (parRegs j id m ps).length → (getH (parRegs j id m ps) i).isSome = true

theorem getH_append : ∀ (l r : List (Option Reg)) (i : Nat), getH (l ++ r) i = if i < l.length then getH l i else getH r (i - l.length)
  | [], r, i => by simp
  | _ :: _, _, 0 => by simp [getH]
  | _ :: l, r, i + 1 => by
    simp only [List.cons_append, getH, List.length_cons, getH_append l r i]
    by_cases h : i < l.length
    · rw [if_pos h, if_pos (by omega)]
    · rw [if_neg h, if_neg (by omega)]; congr 1; omega

theorem InitOk.cons {id j m j' m' k : Nat} {p : PSh} {ps : List PSh} {a : Value} {rest : List Value} {P : List (Option Reg)} {sv : SV} (hk : P.length = k)
    (e1 : parSVs j id m (p :: ps) = sv :: parSVs j' (id + k) m' ps) (e2 : parRegs j id m (p :: ps) = P ++ parRegs j' (id + k) m' ps) (I : InitOk X d w (id + k) j' m' ps rest)
    (h1 : sv.is d a) (h2 : ∀ hp, There hp id k → sv.ok d hp)
    (h3 : ∀ i r, getH P i = some r → r.own = false ∧ RegIs X d (id + i) r w ∧ ∀ hp, There hp id k → ∀ c ∈ r.cs, c.ok d hp) (h4 : ∀ i, i < k → (getH P i).isSome = true) : InitOk X d w id j m (p :: ps) (a :: rest) := by
  subst hk
  have t1 : ∀ hp, There hp id (parRegs j id m (p :: ps)).length → There hp id P.length := fun hp h i hi => h i (by rw [e2, List.length_append]; omega)
  have t2 : ∀ hp, There hp id (parRegs j id m (p :: ps)).length → There hp (id + P.length) (parRegs j' (id + P.length) m' ps).length := fun hp h i hi => by
    rw [Nat.add_assoc]; exact h _ (by rw [e2, List.length_append]; omega)
  refine ⟨by rw [e1]; simp [I.len], fun t => ?_, fun hp hh t => ?_, fun i r hr => ?_, fun i hi => ?_⟩
  · rw [e1]
    cases t with
    | zero => exact h1
    | succ t => exact I.is t
  · rw [e1]
    cases t with
    | zero => exact h2 hp (t1 hp hh)
    | succ t => exact I.ok hp (t2 hp hh) t
  · rw [e2, getH_append] at hr
    split at hr
    · obtain ⟨q1, q2, q3⟩ := h3 i r hr
      exact ⟨q1, q2, fun hp hh => q3 hp (t1 hp hh)⟩
    · obtain ⟨q1, q2, q3⟩ := I.reg _ r hr
      refine ⟨q1, ?_, fun hp hh => q3 hp (t2 hp hh)⟩
      rwa [show id + P.length + (i - P.length) = id + i by omega] at q2
  · rw [e2, getH_append]
    rw [e2, List.length_append] at hi
    split
    · rename_i h; exact h4 i h
    · exact I.all _ (by omega)

theorem notMine (hw : X.w0 = w) (hx0 : ∀ b, ¬ X.own0 b) {b : Nat} (h : b < w.heap.size) : ¬ X.Mine b := fun hm => hm.elim (fun h' => by rw [hw] at h'; omega) (hx0 b)
/-- A slice that is a whole block. -/
theorem slice_ok (hw : X.w0 = w) (hx0 : ∀ b, ¬ X.own0 b) {ks : List EK} {l : List Int} {v : Value} (h : SliceIs w ks l v) : ∃ b : (Nat × Nat) × Option Nat, ∀ (d : Dn) (id m : Nat), d.α id = b.1 → d.κ id = b.2 → d.ρ.l.getD m [] = l →
    (Cell.sl id ks.length (.lit 0) (nelE (.var m) ks.length)).den d = v ∧ RegIs X d id ⟨[], false, 0, some (ks, .var m)⟩ w ∧ 0 ≤ (nelE (.var m) ks.length).den d.Φ d.ρ := by
  obtain ⟨a, n, c, rfl, h1, h2, h3, h4, h5⟩ := h
  refine ⟨(a.getD (0, 0), a.map fun _ => c), fun d id m hα hκ hl => ?_⟩
  have hn : (nelE (.var m) ks.length).den d.Φ d.ρ = (n : Int) := by
    unfold nelE
    cases cc : Nat.beq ks.length 1 <;> simp only [cond_false, cond_true, stripS]
    · simp only [E.den, L.den, hl]
      rw [← Int.natCast_ediv, h1]
    · have cc := Nat.eq_of_beq_eq_true cc
      simp only [E.den, L.den, hl]
      rw [h1, cc, Nat.div_one]
  refine ⟨?_, ?_, by rw [hn]; omega⟩
  · simp only [Cell.den, hn, hκ, hα, Int.toNat_natCast]
    cases a with
    | none =>
      obtain ⟨k1, k2⟩ := h3 rfl
      rw [k1, k2]; rfl
    | some p => simp [E.den]
  · unfold RegIs
    refine ⟨rfl, ?_⟩
    show LRegIs X d id ks (d.ρ.l.getD m []) false 0 w
    rw [hl]
    have hnil : a = none → l = [] := fun ha => by
      obtain ⟨k1, _⟩ := h3 ha
      have k2 := h2.2
      rw [k1] at h1
      have := Nat.div_add_mod l.length ks.length
      rw [← h1, k2] at this
      exact List.length_eq_zero_iff.1 (by simpa using this.symm)
    refine ⟨h2, fun hk => hnil (by rw [hκ] at hk; simpa using hk), ?_⟩
    rw [if_neg (by simp)]
    intro hne
    cases a with
    | none => exact (hne (hnil rfl)).elim
    | some p =>
      rw [hα, hw]
      have hc := h4 p rfl
      refine ⟨?_, fun i x hx => hc i x hx, fun e he => (by rw [hκ] at he; cases he; exact h5)⟩
      cases l with
      | nil => exact (hne rfl).elim
      | cons x l =>
        have := hc 0 x rfl
        simp only [Option.getD_some]
        rcases Nat.lt_or_ge p.1 w.heap.size with h' | h'
        · exact notMine hw hx0 h'
        · simp [World.cell?, Array.getElem?_eq_none h'] at this

/-- Some slices, one after the other. -/
theorem slices_ok (hw : X.w0 = w) (hx0 : ∀ b, ¬ X.own0 b) {ls : List (List Int)} : ∀ (kss : List (List EK)) (m : Nat) (vs : List Value), SlicesAre w ls m kss vs →
    ∃ bs : List ((Nat × Nat) × Option Nat), ∀ (d : Dn) (id : Nat), (∀ i p, bs[i]? = some p → d.α (id + i) = p.1 ∧ d.κ (id + i) = p.2) → d.ρ.l = ls → bs.length = kss.length ∧
      (slVars id m kss).map (Cell.den d) = vs ∧ (∀ i r, getH (lRegs m kss) i = some r → r.own = false ∧ RegIs X d (id + i) r w ∧ r.cs = []) ∧
      (∀ hp, There hp id kss.length → ∀ c ∈ slVars id m kss, c.ok d hp) ∧ (lRegs m kss).length = kss.length ∧ ∀ i, i < kss.length → (getH (lRegs m kss) i).isSome = true
  | [], m, vs, h => by
    have h : vs = [] := h
    subst h
    exact ⟨[], fun d id _ _ => ⟨rfl, rfl, fun i r hr => (by simp only [lRegs, getH_nil] at hr; cases hr), fun hp _ c hc => (by cases hc), rfl, fun i hi => (by cases hi)⟩⟩
  | ks :: kss, m, vs, h => by
    obtain ⟨v, rest, rfl, h1, h2⟩ := h
    obtain ⟨b, hb⟩ := slice_ok hw hx0 h1
    obtain ⟨bs, hbs⟩ := slices_ok hw hx0 kss (m + 1) rest h2
    refine ⟨b :: bs, fun d id hα hl => ?_⟩
    have h0 := hα 0 b rfl
    obtain ⟨a1, a2, a3⟩ := hb d id m h0.1 h0.2 (by rw [hl])
    obtain ⟨b0, b1, b2, b3, b4, b5⟩ := hbs d (id + 1) (fun i p hp => by
      have := hα (i + 1) p hp
      rwa [show id + (i + 1) = id + 1 + i by omega] at this) hl
    refine ⟨by simp [b0], by simp only [slVars, List.map_cons, a1, b1], fun i r hr => ?_, fun hp hh c hc => ?_, by simp [lRegs, b4], fun i hi => ?_⟩
    · cases i with
      | zero =>
        simp only [lRegs, getH, Option.some.injEq] at hr
        subst hr
        exact ⟨rfl, a2, rfl⟩
      | succ i =>
        have := b2 i r hr
        rwa [show id + 1 + i = id + (i + 1) by omega] at this
    · simp only [slVars, List.mem_cons] at hc
      rcases hc with rfl | hc
      · exact ⟨hh 0 (by simp), Int.le_refl _, a3⟩
      · exact b3 hp (fun i hi => by
          have := hh (i + 1) (by simpa using hi)
          rwa [show id + (i + 1) = id + 1 + i by omega] at this) c hc
    · cases i with
      | zero => rfl
      | succ i => exact b5 i (by simpa using hi)

theorem varCells_at {n N : Nat} {xs : List Int} (hd : d.ρ.i = xs) (ks : List Kd) (hl : n + ks.length ≤ xs.length) : (varCells n ks).map (Cell.den d) = kdVals xs n ks := by
  have := varCells_den (d := d) (n := 0) (N := xs.length) (xs := xs) (fun k _ => by rw [hd, Nat.zero_add]) ks n hl
  rwa [Nat.zero_add] at this

theorem get_app {α : Type} {l r : List α} {i : Nat} {x : α} (h : r[i]? = some x) : (l ++ r)[l.length + i]? = some x := by
  rw [List.getElem?_append_right (by omega), Nat.add_sub_cancel_left]; exact h
theorem get_app0 {α : Type} {l r : List α} {i : Nat} {x : α} (h : l[i]? = some x) : (l ++ r)[i]? = some x := by
  rw [List.getElem?_append_left (List.getElem?_eq_some_iff.1 h).1]; exact h

theorem init_ok {xs : List Int} {ls : List (List Int)} (hw : X.w0 = w) (hx0 : ∀ b, ¬ X.own0 b) : ∀ (ps : List PSh) (id j m : Nat) (args : List Value), j + (ps.flatMap PSh.ks).length ≤ xs.length → ArgsAre w xs ls j m ps args →
    ∃ bs : List ((Nat × Nat) × Option Nat), ∀ d : Dn, d.ρ.i = xs → d.ρ.l = ls → (∀ i p, bs[i]? = some p → d.α (id + i) = p.1 ∧ d.κ (id + i) = p.2) → InitOk X d w id j m ps args
  | [], id, j, m, args, _, h => by
    simp only [ArgsAre] at h
    subst h
    exact ⟨[], fun d _ _ _ => ⟨rfl, fun t => (by simp only [parSVs, getT_nil]; rfl), fun hp _ t => (by simp only [parSVs, getT_nil]; intro v hv; cases hv), fun i r hr => (by simp [parRegs, getH_nil] at hr), fun i hi => (by simp [parRegs] at hi)⟩⟩
  | .val b ks :: ps, id, j, m, args, hl, h => by
    obtain ⟨rest, rfl, h1, h2⟩ := h
    simp only [List.flatMap_cons, List.length_append, PSh.ks] at hl
    obtain ⟨bs, hbs⟩ := init_ok hw hx0 ps id (j + ks.length) m rest (by omega) h2
    refine ⟨bs, fun d hd hdl hα => ?_⟩
    have I := hbs d hd hdl hα
    have hden := varCells_at (N := 0) hd ks (n := j) (by omega)
    have hpl := varCells_plain ks j
    have cons : ∀ sv : SV, parSVs j id m (.val b ks :: ps) = sv :: parSVs (j + ks.length) id m ps → sv.is d (compVal b (kdVals xs j ks)) → (∀ hp, sv.ok d hp) → InitOk X d w id j m (.val b ks :: ps) (compVal b (kdVals xs j ks) :: rest) :=
      fun sv e h3 h4 => InitOk.cons (P := []) (k := 0) rfl e rfl I h3 (fun hp _ => h4 hp) (fun i r hr => by rw [getH_nil] at hr; cases hr) (fun i hi => by omega)
    cases b with
    | true => exact cons (.agg (varCells j ks)) rfl (by simp only [SV.is, compVal, hden]) (fun hp c hc => Cell.plain_ok (hpl c hc))
    | false =>
      have hk := h1 rfl
      match ks, hk, hden, hpl, cons with
      | [k], _, hden, hpl, cons =>
        obtain ⟨c, hc⟩ : ∃ c, varCells j [k] = [c] := by cases k <;> exact ⟨_, rfl⟩
        refine cons (.one c) (by simp only [parSVs, hc]) ?_ (fun hp => ?_)
        · rw [hc] at hden
          rw [← hden]
          rfl
        · rw [hc] at hpl
          exact Cell.plain_ok (hpl c List.mem_cons_self)
  | .ptr ks :: ps, id, j, m, args, hl, h => by
    obtain ⟨b, o, rest, rfl, h1, h2, h3⟩ := h
    simp only [List.flatMap_cons, List.length_append, PSh.ks] at hl
    obtain ⟨bs, hbs⟩ := init_ok hw hx0 ps (id + 1) (j + ks.length) m rest (by omega) h3
    refine ⟨((b, o), none) :: bs, fun d hd hdl hα => ?_⟩
    have I := hbs d hd hdl fun i p hp => by
      have := hα (i + 1) p hp
      rwa [show id + (i + 1) = id + 1 + i by omega] at this
    have h0 : d.α id = (b, o) := (hα 0 _ rfl).1
    have hden := varCells_at (N := 0) hd ks (n := j) (by omega)
    refine InitOk.cons (P := [some ⟨varCells j ks, false, 0, none⟩]) (k := 1) (sv := .one (.ptr id 0)) rfl rfl rfl I ?_ (fun hp hh => hh 0 (by omega)) (fun i r hr => ?_) (fun i hi => ?_)
    · show Value.pointer _ = Value.pointer _
      rw [h0, Nat.add_zero]
    · cases i with
      | zero =>
        simp only [getH, Option.some.injEq] at hr
        subst hr
        refine ⟨rfl, RegIs.of_zero ?_ rfl, fun hp _ c hc => Cell.plain_ok (varCells_plain ks j c hc)⟩
        unfold RegIs0
        rw [if_neg (by simp), Nat.add_zero, h0, hw]
        refine ⟨notMine hw hx0 h1, fun i c hi => h2 i _ ?_⟩
        rw [← hden, List.getElem?_map, hi]; rfl
      | succ i => simp only [getH, getH_nil] at hr; cases hr
    · cases i with
      | zero => rfl
      | succ i => omega
  | .slc ks :: ps, id, j, m, args, hl, h => by
    obtain ⟨b, o, rest, rfl, h1, h2, h3⟩ := h
    simp only [List.flatMap_cons, List.length_append, PSh.ks] at hl
    obtain ⟨bs, hbs⟩ := init_ok hw hx0 ps (id + 1) (j + ks.length) m rest (by omega) h3
    refine ⟨((b, o), none) :: bs, fun d hd hdl hα => ?_⟩
    have I := hbs d hd hdl fun i p hp => by
      have := hα (i + 1) p hp
      rwa [show id + (i + 1) = id + 1 + i by omega] at this
    have h0 : d.α id = (b, o) := (hα 0 _ rfl).1
    have hden := varCells_at (N := 0) hd ks (n := j) (by omega)
    refine InitOk.cons (P := [some ⟨varCells j ks, false, 0, none⟩]) (k := 1) (sv := .one (.slc id 0 ks.length ks.length)) rfl rfl rfl I ?_ (fun hp hh => hh 0 (by omega)) (fun i r hr => ?_) (fun i hi => ?_)
    · show Value.slice _ _ _ = Value.slice _ _ _
      rw [h0, Nat.add_zero]
    · cases i with
      | zero =>
        simp only [getH, Option.some.injEq] at hr
        subst hr
        refine ⟨rfl, RegIs.of_zero ?_ rfl, fun hp _ c hc => Cell.plain_ok (varCells_plain ks j c hc)⟩
        unfold RegIs0
        rw [if_neg (by simp), Nat.add_zero, h0, hw]
        refine ⟨notMine hw hx0 h1, fun i c hi => h2 i _ ?_⟩
        rw [← hden, List.getElem?_map, hi]; rfl
      | succ i => simp only [getH, getH_nil] at hr; cases hr
    · cases i with
      | zero => rfl
      | succ i => omega
  | .fnc g :: ps, id, j, m, args, hl, h => by
    obtain ⟨rest, rfl, h2⟩ := h
    simp only [List.flatMap_cons, List.length_append, PSh.ks, List.length_nil, Nat.zero_add] at hl
    obtain ⟨bs, hbs⟩ := init_ok hw hx0 ps id j m rest hl h2
    exact ⟨bs, fun d hd hdl hα => InitOk.cons (P := []) (k := 0) (sv := .one (.fn g)) rfl rfl rfl (hbs d hd hdl hα) rfl (fun hp _ => trivial) (fun i r hr => by rw [getH_nil] at hr; cases hr) (fun i hi => by omega)⟩
  | .str :: ps, id, j, m, args, hl, h => by
    obtain ⟨rest, rfl, h1, h2⟩ := h
    simp only [List.flatMap_cons, List.length_append, PSh.ks, List.length_nil, Nat.zero_add] at hl
    obtain ⟨bs, hbs⟩ := init_ok hw hx0 ps id j (m + 1) rest hl h2
    exact ⟨bs, fun d hd hdl hα => InitOk.cons (P := []) (k := 0) (sv := .one (.str (.var m))) rfl rfl rfl (hbs d hd hdl hα) (by simp only [SV.is, Cell.den, L.den, hdl, byteV]) (fun hp _ => trivial) (fun i r hr => by rw [getH_nil] at hr; cases hr) (fun i hi => by omega)⟩
  | .lst ks :: ps, id, j, m, args, hl, h => by
    obtain ⟨v, rest, rfl, h1, h2⟩ := h
    simp only [List.flatMap_cons, List.length_append, PSh.ks, List.length_nil, Nat.zero_add] at hl
    obtain ⟨b, hb⟩ := slice_ok hw hx0 h1
    obtain ⟨bs, hbs⟩ := init_ok hw hx0 ps (id + 1) j (m + 1) rest hl h2
    refine ⟨b :: bs, fun d hd hdl hα => ?_⟩
    have I := hbs d hd hdl fun i p hp => by
      have := hα (i + 1) p hp
      rwa [show id + (i + 1) = id + 1 + i by omega] at this
    have h0 := hα 0 b rfl
    obtain ⟨a1, a2, a3⟩ := hb d id m h0.1 h0.2 (by rw [hdl])
    refine InitOk.cons (P := [some ⟨[], false, 0, some (ks, .var m)⟩]) (k := 1) (sv := .one (.sl id ks.length (.lit 0) (nelE (.var m) ks.length))) rfl rfl rfl I a1.symm
      (fun hp hh => ⟨hh 0 (by omega), Int.le_refl _, a3⟩) (fun i r hr => ?_) (fun i hi => ?_)
    · cases i with
      | zero =>
        simp only [getH, Option.some.injEq] at hr
        subst hr
        exact ⟨rfl, a2, fun hp _ c hc => by cases hc⟩
      | succ i => simp only [getH, getH_nil] at hr; cases hr
    · cases i with
      | zero => rfl
      | succ i => omega
  | .lsts kss :: ps, id, j, m, args, hl, h => by
    obtain ⟨vs, rest, rfl, h1, h2⟩ := h
    simp only [List.flatMap_cons, List.length_append, PSh.ks, List.length_nil, Nat.zero_add] at hl
    obtain ⟨b, hb⟩ := slices_ok hw hx0 kss m vs h1
    obtain ⟨bs, hbs⟩ := init_ok hw hx0 ps (id + kss.length) j (m + kss.length) rest hl h2
    refine ⟨b ++ bs, fun d hd hdl hα => ?_⟩
    obtain ⟨b0, b1, b2, b3, b4, b5⟩ := hb d id (fun i p hp => hα i p (get_app0 hp)) hdl
    have I := hbs d hd hdl fun i p hp => by
      have := hα _ p (get_app (l := b) hp)
      rwa [b0, ← Nat.add_assoc] at this
    refine InitOk.cons (P := lRegs m kss) (k := kss.length) (sv := .agg (slVars id m kss)) b4 rfl rfl I ?_ (fun hp hh => b3 hp hh) (fun i r hr => ?_) b5
    · simp only [SV.is, b1]
    · obtain ⟨q1, q2, q3⟩ := b2 i r hr
      exact ⟨q1, q2, fun hp _ c hc => by rw [q3] at hc; cases hc⟩
  | .mix ks kss :: ps, id, j, m, args, hl, h => by
    obtain ⟨vs, rest, rfl, h1, h2⟩ := h
    simp only [List.flatMap_cons, List.length_append, PSh.ks] at hl
    obtain ⟨b, hb⟩ := slices_ok hw hx0 kss m vs h1
    obtain ⟨bs, hbs⟩ := init_ok hw hx0 ps (id + kss.length) (j + ks.length) (m + kss.length) rest (by omega) h2
    refine ⟨b ++ bs, fun d hd hdl hα => ?_⟩
    obtain ⟨b0, b1, b2, b3, b4, b5⟩ := hb d id (fun i p hp => hα i p (get_app0 hp)) hdl
    have I := hbs d hd hdl fun i p hp => by
      have := hα _ p (get_app (l := b) hp)
      rwa [b0, ← Nat.add_assoc] at this
    have hden := varCells_at (N := 0) hd ks (n := j) (by omega)
    refine InitOk.cons (P := lRegs m kss) (k := kss.length) (sv := .agg (varCells j ks ++ slVars id m kss)) b4 rfl rfl I ?_ (fun hp hh c hc => ?_) (fun i r hr => ?_) b5
    · simp only [SV.is, List.map_append, b1, hden]
    · rcases List.mem_append.1 hc with hc | hc
      · exact Cell.plain_ok (varCells_plain ks j c hc)
      · exact b3 hp hh c hc
    · obtain ⟨q1, q2, q3⟩ := b2 i r hr
      exact ⟨q1, q2, fun hp _ c hc => by rw [q3] at hc; cases hc⟩
  | .plsts kss :: ps, id, j, m, args, hl, h => by
    obtain ⟨bb, o, vs, rest, rfl, h1, h2, h3, h4⟩ := h
    simp only [List.flatMap_cons, List.length_append, PSh.ks, List.length_nil, Nat.zero_add] at hl
    obtain ⟨b, hb⟩ := slices_ok hw hx0 kss m vs h3
    obtain ⟨bs, hbs⟩ := init_ok hw hx0 ps (id + 1 + kss.length) j (m + kss.length) rest hl h4
    refine ⟨((bb, o), none) :: (b ++ bs), fun d hd hdl hα => ?_⟩
    have hα' : ∀ i p, (b ++ bs)[i]? = some p → d.α (id + 1 + i) = p.1 ∧ d.κ (id + 1 + i) = p.2 := fun i p hp => by
      have := hα (i + 1) p hp
      rwa [show id + (i + 1) = id + 1 + i by omega] at this
    obtain ⟨b0, b1, b2, b3, b4, b5⟩ := hb d (id + 1) (fun i p hp => hα' i p (get_app0 hp)) hdl
    have I := hbs d hd hdl fun i p hp => by
      have := hα' _ p (get_app (l := b) hp)
      rwa [b0, ← Nat.add_assoc] at this
    have h0 : d.α id = (bb, o) := (hα 0 _ rfl).1
    rw [show id + 1 + kss.length = id + (1 + kss.length) by omega] at I
    have shift : ∀ hp, There hp id (1 + kss.length) → There hp (id + 1) kss.length := fun hp hh i hi => by
      have := hh (1 + i) (by omega)
      rwa [← Nat.add_assoc] at this
    refine InitOk.cons (P := some ⟨slVars (id + 1) m kss, false, 0, none⟩ :: lRegs m kss) (k := 1 + kss.length) (sv := .one (.ptr id 0)) (by simp [b4]; omega)
      (by rw [← Nat.add_assoc]; rfl) (by rw [← Nat.add_assoc]; rfl) I ?_ (fun hp hh => hh 0 (by omega)) (fun i r hr => ?_) (fun i hi => ?_)
    · show Value.pointer _ = Value.pointer _
      rw [h0, Nat.add_zero]
    · cases i with
      | zero =>
        simp only [getH, Option.some.injEq] at hr
        subst hr
        refine ⟨rfl, RegIs.of_zero ?_ rfl, fun hp hh c hc => b3 hp (shift hp hh) c hc⟩
        unfold RegIs0
        rw [if_neg (by simp), Nat.add_zero, h0, hw]
        refine ⟨notMine hw hx0 h1, fun i c hi => h2 i _ ?_⟩
        rw [← b1, List.getElem?_map, hi]; rfl
      | succ i =>
        obtain ⟨q1, q2, q3⟩ := b2 i r hr
        rw [show id + 1 + i = id + (i + 1) by omega] at q2
        exact ⟨q1, q2, fun hp _ c hc => by rw [q3] at hc; cases hc⟩
    · cases i with
      | zero => rfl
      | succ i => exact b5 i (by omega)

theorem fn_sigs {sigs : List (Nat × Sig)} {g : Nat} {ks : List Kd} (h : Bds.fn.go g (sigs.map fun p => (p.1, resKds p.2)) = ks) (hn : ks ≠ []) : ∃ s, sigOf sigs g = some s ∧ ks = resKds s := by
  induction sigs with
  | nil => exact absurd h.symm hn
  | cons p r ih =>
    simp only [List.map_cons, Bds.fn.go] at h
    simp only [sigOf]
    cases hg : Nat.beq p.1 g <;> simp only [hg, cond_false, cond_true] at h ⊢
    · exact ih h
    · exact ⟨p.2, rfl, h.symm⟩

theorem kds_ivs : ∀ (ks : List Kd) (j : Nat), kds ks j = ivs (ks.map Kd.iv) j
  | [], _ => rfl
  | _ :: _, 0 => rfl
  | _ :: r, j + 1 => kds_ivs r j

theorem getT_append_undef : ∀ (l : List SV) (n t : Nat), getT (l ++ List.replicate n .undef) t = getT l t
  | [], n, t => by
    rw [List.nil_append, getT_nil]
    induction n generalizing t with
    | zero => exact getT_nil t
    | succ n ih =>
      cases t with
      | zero => rfl
      | succ t => exact ih t
  | _ :: _, _, 0 => rfl
  | _ :: r, n, t + 1 => getT_append_undef r n t

/-- A piece 'A; B' ahead of a rest. -/
theorem exec_seq {F : Fn} {A B Rest : Code} {f : Nat} (hm : F.C.P.follows .mixedOrders = true) (hC : CTs F.C Φ Pr)
    (hΦ : ∀ g s, sigOf F.C.sigs g = some s → ∀ xs ls, allHas ((resKds s).map Kd.iv) (norm (resKds s).length (Φ g xs ls).1))
    {K : Ex → Bds → St → Env → Prop} {Q : Exit → Act → World → Prop} (hF : Fin X Φ K (Exit.then (Rest.wp F.C.P Q) Q))
    {R : Bds} {S : St} {d : Dn} {a : Act} {w : World} (hd : d.Φ = Φ) (hR : RV d.Φ R d.ρ) (h : Sat X d S a w) (ht : (exec F (f + 1) (.seq A B) R S).holds d.Φ Pr d.ρ K) : (Code.seq A (.seq B Rest)).wp F.C.P Q a w := by
  subst hd
  have ht : ((exec F f A R S).seq fun x R S => match x with
    | .normal => exec F f B R S
    | x => .leaf x R S).holds d.Φ Pr d.ρ K := ht
  refine wp_seq (exec_sound hm hC hΦ f A _ _ ?_ R S d a w rfl hR h (seq_holds _ _ ht)).wp
  intro e R' S' d' a' w' hd' hR' h' ht'
  cases e with
  | normal => exact wp_seq (exec_sound hm hC hΦ f B K _ hF R' S' d' a' w' hd' hR' h' (by rw [hd']; exact ht')).wp
  | exit id => exact hF (.exit id) R' S' d' a' w' hd' hR' h' ht'
  | goto l => exact hF (.goto l) R' S' d' a' w' hd' hR' h' ht'
  | ret => exact hF .ret R' S' d' a' w' hd' hR' h' ht'
  | pan t e => exact hF (.pan t e) R' S' d' a' w' hd' hR' h' ht'

/-- A PIECE OF CODE at a function's start. -/
theorem exec_at {F : Fn} {ivs : List Iv} {lvs : List (Iv × Int)} {fuel nt : Nat} {c c0 : Code} {ps : List PSh} (hm : F.C.P.follows .mixedOrders = true) (hC : CTs F.C Φ Pr)
    (hΦ : ∀ g s, sigOf F.C.sigs g = some s → ∀ xs ls, allHas ((resKds s).map Kd.iv) (norm (resKds s).length (Φ g xs ls).1))
    {xs : List Int} {ls : List (List Int)} {args : List Value} (hx : allHas (parIvs ps) xs) (hi : allHas ivs xs) (hxl : allL lvs ls) (ha : ArgsAre w xs ls 0 0 ps args)
    {K : Ex → Bds → St → Env → Prop} {Q Q0 : Exit → Act → World → Prop}
    (hgo : Fin ⟨F.C.P, w, none⟩ Φ (fun x R S ρ => K x R S ρ ∧ ∃ ys zs, ρ = (⟨xs, ls⟩ : Env).push2 ys zs) Q → ∀ R S (d : Dn) a w', d.Φ = Φ → RV d.Φ R d.ρ → Sat ⟨F.C.P, w, none⟩ d S a w' →
      (exec F fuel c R S).holds d.Φ Pr d.ρ (fun x R S ρ => K x R S ρ ∧ ∃ ys zs, ρ = (⟨xs, ls⟩ : Env).push2 ys zs) → c0.wp F.C.P Q0 a w')
    (h : (exec F fuel c ⟨ivs, lvs, F.C.sigs.map fun p => (p.1, resKds p.2), []⟩
      ⟨parSVs 0 0 0 ps ++ List.replicate (nt - (parSVs 0 0 0 ps).length) .undef, parRegs 0 0 0 ps⟩).holds Φ Pr ⟨xs, ls⟩ K)
    (hK : ∀ (x : Ex) R S (d : Dn) a w', d.Φ = Φ → (∃ ys zs, d.ρ = (⟨xs, ls⟩ : Env).push2 ys zs) → RV d.Φ R d.ρ → SatX ⟨F.C.P, w, none⟩ x d S a w' → K x R S d.ρ → Q (x.out d) a w') :
    c0.wp F.C.P Q0 { tmps := args.toArray ++ Array.replicate (nt - args.toArray.size) undef, defers := [] } w := by
  obtain ⟨bs, hbs⟩ := init_ok (X := ⟨F.C.P, w, none⟩) rfl (noPin _ _) ps 0 0 0 args (by
    have := allHas_length hx
    unfold parIvs at this
    rw [← this]
    simp [List.length_flatMap]) ha
  let d : Dn := ⟨Φ, ⟨xs, ls⟩, fun i => (bs.getD i ((0, 0), none)).1, fun i => (bs.getD i ((0, 0), none)).2⟩
  have I := hbs d rfl rfl fun i p hp => by
    show (bs.getD (0 + i) ((0, 0), none)).1 = p.1 ∧ (bs.getD (0 + i) ((0, 0), none)).2 = p.2
    rw [Nat.zero_add, List.getD_eq_getElem?_getD, hp]
    exact ⟨rfl, rfl⟩
  let S0 : St := ⟨parSVs 0 0 0 ps ++ List.replicate (nt - (parSVs 0 0 0 ps).length) .undef, parRegs 0 0 0 ps⟩
  have hS : Sat ⟨F.C.P, w, none⟩ d S0 { tmps := args.toArray ++ Array.replicate (nt - args.toArray.size) undef, defers := [] } w := by
    refine ⟨rfl, ⟨?_, fun t => ?_, fun t => ?_⟩, ⟨Bl.refl _, fun i r hr => ?_, fun i j ri rj hi hj oi oj hij => ?_, fun i r hr c hc => (I.reg i r hr).2.2 _ (fun i hi => by rw [Nat.zero_add]; exact I.all i hi) c hc, fun _ h => (by cases h)⟩⟩
    · simp [S0, I.len]
    · have e : (args.toArray ++ Array.replicate (nt - args.toArray.size) undef).getD t undef = args.getD t undef := by
        simp only [Array.getD_eq_getD_getElem?, List.getD_eq_getElem?_getD, Array.getElem?_append, List.size_toArray, Array.getElem?_replicate, List.getElem?_toArray]
        split
        · rfl
        · rename_i hn
          rw [List.getElem?_eq_none (by omega)]
          split <;> rfl
      show (getT (parSVs 0 0 0 ps ++ _) t).is d _
      rw [getT_append_undef]
      have := I.is t
      rw [← e] at this
      exact this
    · show (getT (parSVs 0 0 0 ps ++ _) t).ok d _
      rw [getT_append_undef]
      exact I.ok _ (fun i hi => by rw [Nat.zero_add]; exact I.all i hi) t
    · have := (I.reg i r hr).2.1
      rwa [Nat.zero_add] at this
    · have := (I.reg i ri hi).1
      rw [this] at oi; cases oi
  have hRV : RV d.Φ ⟨ivs, lvs, F.C.sigs.map fun p => (p.1, resKds p.2), []⟩ d.ρ :=
    ⟨(allHas_length hi).symm, (allL_length hxl).symm, fun n iv hn => allHas_get hi n iv hn, fun n p hn => allL_get hxl n p hn, fun k j iv hk xs ls => by
      have hne : Bds.fn.go k (F.C.sigs.map fun p => (p.1, resKds p.2)) ≠ [] := fun e => by
        unfold Bds.fn at hk
        simp only [e] at hk
        cases j <;> cases hk
      obtain ⟨s', h1, h2⟩ := fn_sigs rfl hne
      unfold Bds.fn at hk
      simp only [h2] at hk
      rw [kds_ivs] at hk
      have := allHas_get (hΦ k s' h1 xs ls) j iv hk
      rwa [norm_getD _ _ _ (by simpa using ivs_lt _ _ _ hk)] at this, fun q hq => by cases hq⟩
  refine hgo ?_ _ S0 d _ w rfl hRV hS (holds_ext _ _ h)
  intro x R S d' a' w' hd' hR' h' ⟨ht, ys, zs, hz⟩
  exact hK x R S d' a' w' hd' ⟨ys, zs, hz⟩ hR' h' ht

/-- A FUNCTION'S RUN, from what its tree asks: at its end the state is as a leaf says. -/
theorem exec_callsX {F : Fn} {ivs : List Iv} {lvs : List (Iv × Int)} {fuel g : Nat} {fn : Func} {c : Code} {ps : List PSh} (hm : F.C.P.follows .mixedOrders = true) (hC : CTs F.C Φ Pr)
    (hΦ : ∀ g s, sigOf F.C.sigs g = some s → ∀ xs ls, allHas ((resKds s).map Kd.iv) (norm (resKds s).length (Φ g xs ls).1))
    (hf : F.C.P.funcs[g]? = some fn) (hc : fn.body = some c) {xs : List Int} {ls : List (List Int)} {args : List Value} (hx : allHas (parIvs ps) xs) (hi : allHas ivs xs) (hxl : allL lvs ls) (ha : ArgsAre w xs ls 0 0 ps args)
    {K : Ex → Bds → St → Env → Prop} {Q : Ending → World → Prop}
    (h : (exec F fuel c ⟨ivs, lvs, F.C.sigs.map fun p => (p.1, resKds p.2), []⟩
      ⟨parSVs 0 0 0 ps ++ List.replicate (fn.ntmps - (parSVs 0 0 0 ps).length) .undef, parRegs 0 0 0 ps⟩).holds Φ Pr ⟨xs, ls⟩ K)
    (hK : ∀ (x : Ex) R S (d : Dn) a w', d.Φ = Φ → (∃ zs, d.ρ.l = ls ++ zs) → RV d.Φ R d.ρ → SatX ⟨F.C.P, w, none⟩ x d S a w' → K x R S d.ρ → bodyPost F.C.P fn Q (x.out d) a w') :
    Calls F.C.P g args.toArray w Q :=
  calls_of_wp hf hc (exec_at hm hC hΦ hx hi hxl ha (c0 := c) (fun hF R S d a w' hd hR hS ht => (exec_sound hm hC hΦ fuel c _ _ hF R S d a w' hd hR hS ht).wp) h fun x R S d a w' hd ⟨_, zs, hz⟩ hR hS hk => hK x R S d a w' hd ⟨zs, by rw [hz]; rfl⟩ hR hS hk)

theorem exec_calls {F : Fn} {ivs : List Iv} {lvs : List (Iv × Int)} {fuel g : Nat} {fn : Func} {c : Code} {ps : List PSh} (hm : F.C.P.follows .mixedOrders = true) (hC : CTs F.C Φ Pr)
    (hΦ : ∀ g s, sigOf F.C.sigs g = some s → ∀ xs ls, allHas ((resKds s).map Kd.iv) (norm (resKds s).length (Φ g xs ls).1))
    (hf : F.C.P.funcs[g]? = some fn) (hc : fn.body = some c) {xs : List Int} {ls : List (List Int)} {args : List Value} (hx : allHas (parIvs ps) xs) (hi : allHas ivs xs) (hxl : allL lvs ls) (ha : ArgsAre w xs ls 0 0 ps args)
    {K : Ex → Bds → St → Env → Prop} {Q : Ending → World → Prop}
    (h : (exec F fuel c ⟨ivs, lvs, F.C.sigs.map fun p => (p.1, resKds p.2), []⟩
      ⟨parSVs 0 0 0 ps ++ List.replicate (fn.ntmps - (parSVs 0 0 0 ps).length) .undef, parRegs 0 0 0 ps⟩).holds Φ Pr ⟨xs, ls⟩ K)
    (hnp : ∀ t e R S ρ, K (.pan t e) R S ρ → False) (hK : ∀ (x : Ex) R S (d : Dn) a w', d.Φ = Φ → (∃ zs, d.ρ.l = ls ++ zs) → RV d.Φ R d.ρ → Sat ⟨F.C.P, w, none⟩ d S a w' → K x R S d.ρ → (x = .normal ∨ x = .ret) ∧ ∃ v, (results fn a.tmps).run F.C.P w' = .ok v w' ∧ Q (.returned v) w') :
    Calls F.C.P g args.toArray w Q := by
  refine exec_callsX hm hC hΦ hf hc hx hi hxl ha h fun x R S d a w' hd hz hR hS ht => ?_
  have key : Sat ⟨F.C.P, w, none⟩ d S a w' → (∀ t e, x ≠ .pan t e) → bodyPost F.C.P fn Q (x.out d) a w' := fun hS _ => by
    obtain ⟨hx, hr⟩ := hK x R S d a w' hd hz hR hS ht
    rcases hx with rfl | rfl
    · exact ⟨hS.df, hr⟩
    · exact ⟨hS.df, hr⟩
  cases x with
  | pan t e => exact (hnp t e R S d.ρ ht).elim
  | normal => exact key hS (fun _ _ h => by cases h)
  | ret => exact key hS (fun _ _ h => by cases h)
  | exit id => exact key hS (fun _ _ h => by cases h)
  | goto l => exact key hS (fun _ _ h => by cases h)

/-- WHAT A FUNCTION RETURNS, from what is asked of its numbers. -/
theorem vc_soundI {F : Fn} {ivs : List Iv} {lvs : List (Iv × Int)} {fuel g : Nat} {fn : Func} {s : Sig} (hm : F.C.P.follows .mixedOrders = true) (hC : CTs F.C Φ Pr)
    (hΦ : ∀ g s, sigOf F.C.sigs g = some s → ∀ xs ls, allHas ((resKds s).map Kd.iv) (norm (resKds s).length (Φ g xs ls).1))
    (hf : F.C.P.funcs[g]? = some fn) {xs : List Int} {ls : List (List Int)} {args : List Value} (hx : allHas (parIvs s.params) xs) (hi : allHas ivs xs) (hxl : allL lvs ls) (ha : ArgsAre w xs ls 0 0 s.params args) {post : List Int → List (List Int) → Prop}
    (h : (vcOfI F ivs lvs fuel fn s).holds Φ Pr post ⟨xs, ls⟩) :
    Calls F.C.P g args.toArray w fun e w' => ∃ ys : List Int, post ys [] ∧ allHas ((resKds s).map Kd.iv) ys ∧ e = .returned (resV s ys) ∧ Below w.heap.size w w' := by
  unfold vcOfI at h
  split at h
  · rename_i c hc
    refine exec_calls hm hC hΦ hf hc hx hi hxl ha (vc_holds _ _ h) (fun _ _ _ _ _ h => h) fun x R S d' a' w' hd' _ hR' h' ht => ?_
    have key : ∀ x : Ex, x = .normal ∨ x = .ret → (finVC F.C.P fn s x R S).holds Φ Pr post d'.ρ → (x = .normal ∨ x = .ret) ∧ ∃ v, (results fn a'.tmps).run F.C.P w' = .ok v w' ∧
        ∃ ys : List Int, post ys [] ∧ allHas ((resKds s).map Kd.iv) ys ∧ Ending.returned v = .returned (resV s ys) ∧ Below w.heap.size w w' := by
      intro x hx ht
      refine ⟨hx, ?_⟩
      have e : finVC F.C.P fn s x R S = match resVars F.C.P S fn.results.toList with
        | some vs => match resAS R s.res vs with
          | some as => .fin as
          | none => .fail 2001
        | none => .fail 2002 := by rcases hx with rfl | rfl <;> rfl
      rw [e] at ht
      split at ht
      · rename_i vs hvs
        split at ht
        · rename_i as has
          obtain ⟨vals, k1, k2⟩ := results_run h' hvs
          obtain ⟨j1, j2, j3⟩ := resAS_spec hR' has k2
          have j4 := j3 []
          subst hd'
          refine ⟨_, k1, as.denE d'.Φ d'.ρ, j1 ▸ ht, j2, ?_, h'.hp.bl.below (noPin _ _)⟩
          rw [j4]
          rfl
        · exact ht.elim
      · exact ht.elim
    cases x with
    | normal => exact key .normal (.inl rfl) ht
    | ret => exact key .ret (.inr rfl) ht
    | exit id => exact ht.elim
    | goto l => exact ht.elim
    | pan t e => exact ht.elim
  · exact h.elim

theorem vc_sound {F : Fn} {fuel g : Nat} {fn : Func} {s : Sig} (hm : F.C.P.follows .mixedOrders = true) (hC : CTs F.C Φ Pr)
    (hΦ : ∀ g s, sigOf F.C.sigs g = some s → ∀ xs ls, allHas ((resKds s).map Kd.iv) (norm (resKds s).length (Φ g xs ls).1))
    (hf : F.C.P.funcs[g]? = some fn) {xs : List Int} {ls : List (List Int)} {args : List Value} (hx : allHas (parIvs s.params) xs) (hxl : allL (parLvs s.params) ls) (ha : ArgsAre w xs ls 0 0 s.params args) {post : List Int → List (List Int) → Prop}
    (h : (vcOf F fuel fn s).holds Φ Pr post ⟨xs, ls⟩) :
    Calls F.C.P g args.toArray w fun e w' => ∃ ys : List Int, post ys [] ∧ allHas ((resKds s).map Kd.iv) ys ∧ e = .returned (resV s ys) ∧ Below w.heap.size w w' :=
  vc_soundI hm hC hΦ hf hx hx hxl ha h

end
end Go.Proofs.YtelfpnkhdaaeoaaDoor.Sx
