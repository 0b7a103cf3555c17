/-
  The symbolic executor: whole functions. What is asked of a function's numbers gives what it is known to do.
-/
import Derived.Test.YtaknnjlkpepgaaaSxP
namespace Go.Proofs.Ytaknnjlkpepgaaa.Sx
open Go Go.RowKit

def VC.holds (Φ : Fns) (Pr : Pres) (post : List Int → Prop) : VC → Env → Prop
  | .fail _, _ => False
  | .fin as, ρ => post (as.denE Φ ρ)
  | .ite b t e, ρ => (b.den Φ ρ = true → t.holds Φ Pr post ρ) ∧ (b.den Φ ρ = false → e.holds Φ Pr post ρ)
  | .need os t, ρ => OsHold Φ Pr ρ os ∧ t.holds Φ Pr post ρ
  | .bind e t, ρ => t.holds Φ Pr post (ρ.pushI [e.den Φ ρ])
  | .call g as n t, ρ => t.holds Φ Pr post (ρ.pushI (norm n (Φ g (as.denE Φ ρ) (as.denL Φ ρ)).1))
  | .again k n0 rs es, ρ => allHas rs (es.map (E.den Φ ρ)) ∧ Pr.inv k (ρ.i.take n0) (es.map (E.den Φ ρ)) ∧
      Pr.mu k (ρ.i.take n0) (es.map (E.den Φ ρ)) < Pr.mu k (ρ.i.take n0) ((ρ.i.drop n0).take rs.length)
  | .loop k es rs t, ρ => allHas rs (es.map (E.den Φ ρ)) ∧ Pr.inv k ρ.i (es.map (E.den Φ ρ)) ∧
      ∀ ys, allHas rs ys → Pr.inv k ρ.i ys → t.holds Φ Pr post (ρ.pushI ys)

section
variable {C : Cfg} {R : Bds} {X : Ctx} {d : Dn} {w : World} {S : St} {a : Act} {Pr : Pres} {Φ : Fns}

theorem vc_holds {fin : Ex → Bds → St → VC} {post : List Int → Prop} : ∀ (t : T) (ρ : Env), (t.vc fin).holds Φ Pr post ρ → t.holds Φ Pr ρ fun x R S ρ => (fin x R S).holds Φ Pr post ρ
  | .fail _, _, h => h
  | .leaf _ _ _, _, h => h
  | .ite _ t e, ρ, h => ⟨fun hb => vc_holds t ρ (h.1 hb), fun hb => vc_holds e ρ (h.2 hb)⟩
  | .need _ t, ρ, h => ⟨h.1, vc_holds t ρ h.2⟩
  | .bind _ t, _, h => vc_holds t _ h
  | .call _ _ _ t, _, h => vc_holds t _ h
  | .again _ _ _ _, _, h => h
  | .loop _ _ _ t, _, h => ⟨h.1, h.2.1, fun ys h1 h2 => vc_holds t _ (h.2.2 ys h1 h2)⟩

/-! ### What is returned -/
def AllIs (d : Dn) : List SV → List Value → Prop
  | [], [] => True
  | v :: vs, x :: xs => v.is d x ∧ AllIs d vs xs
  | _, _ => False

theorem resAS_spec (hR : RV d.Φ R d.ρ) : ∀ {res : List (Bool × List Kd)} {vs : List SV} {as : AS} {vals : List Value}, resAS R res vs = some as → AllIs d vs vals →
    as.denL d.Φ d.ρ = [] ∧ allHas ((res.flatMap (·.2)).map Kd.iv) (as.denE d.Φ d.ρ) ∧ ∀ pre : List Int, vals = resVals (pre ++ as.denE d.Φ d.ρ) pre.length res
  | [], [], as, [], h, _ => by
    simp only [resAS, Option.some.injEq] at h; subst h
    exact ⟨rfl, trivial, fun _ => rfl⟩
  | [], [], _, _ :: _, _, hv => hv.elim
  | [], _ :: _, _, _, h, _ => by cases h
  | _ :: _, [], _, _, h, _ => by simp [resAS] at h
  | (b, ks) :: res, v :: vs, as, [], h, hv => hv.elim
  | (b, ks) :: res, v :: vs, out, x :: vals, h, hv => by
    have fin : ∀ (cs : List Cell) (as : AS), resAS R res vs = some as → cellsAS R ks cs as = some out → x = compVal b (cs.map (Cell.den d)) →
        out.denL d.Φ d.ρ = [] ∧ allHas ((((b, ks) :: res).flatMap (·.2)).map Kd.iv) (out.denE d.Φ d.ρ) ∧ ∀ pre : List Int, x :: vals = resVals (pre ++ out.denE d.Φ d.ρ) pre.length ((b, ks) :: res) := by
      intro cs as h1 h2 h3
      obtain ⟨xs, i1, i2, i3, i4, i5⟩ := cellsAS_spec hR h2
      obtain ⟨j1, j2, j3⟩ := resAS_spec hR h1 hv.2
      refine ⟨i3.trans j1, by rw [i2, List.flatMap_cons, List.map_append]; exact allHas_append i5 j2, fun pre => ?_⟩
      have e := j3 (pre ++ xs)
      simp only [resVals]
      rw [i2, kdVals_append ks pre.length xs i1 rfl, ← i4, ← h3, e, List.length_append, i1, List.append_assoc]
    cases b with
    | true =>
      cases v with
      | agg cs =>
        simp only [resAS] at h
        split at h
        · rename_i as h1
          exact fin cs as h1 h hv.1
        · cases h
      | _ => cases h
    | false =>
      cases v with
      | one c =>
        simp only [resAS] at h
        split at h
        · rename_i as h1
          exact fin [c] as h1 h hv.1
        · cases h
      | _ => cases h

def rvRun (tmps : Array Value) : ResultVar → Sem Value
  | .tmp t => pure (tmps.getD t undef)
  | .cell q t => do loadVar t (← asAddr (tmps.getD q undef))

theorem results_eq (fn : Func) (tmps : Array Value) : results fn tmps = (do
    let vs ← fn.results.mapM (rvRun tmps)
    pure (if h : vs.size = 1 then vs[0] else .tuple vs)) := by
  unfold results
  congr 2

theorem resVar_run (h : Sat X d S a w) {rv : ResultVar} {sv : SV} (hr : resVar X.P S rv = some sv) :
    ∃ x, (rvRun a.tmps rv).run X.P w = .ok x w ∧ sv.is d x := by
  cases rv with
  | tmp t =>
    simp only [resVar, Option.some.injEq] at hr
    subst hr
    exact ⟨_, rfl, h.tm.is t⟩
  | cell q t =>
    simp only [resVar] at hr
    split at hr
    · rename_i id off hq
      split at hr
      · rename_i r hid
        obtain ⟨y, hy, hy2⟩ := loadVar_run (h.hp.reg _ _ hid) h.hp.bl hr
        have := h.tm.is q
        rw [hq] at this
        simp only [SV.is, Cell.den] at this
        refine ⟨y, ?_, hy2⟩
        simp only [rvRun, Sem.run_bind, this, asAddr, Sem.run_pure, Result.andThen_ok, hy]
      · cases hr
    · cases hr

theorem resVars_run (h : Sat X d S a w) : ∀ {rs : List ResultVar} {vs : List SV}, resVars X.P S rs = some vs →
    ∃ xs, (rs.mapM (rvRun a.tmps)).run X.P w = .ok xs w ∧ AllIs d vs xs
  | [], vs, hr => by
    simp only [resVars, Option.some.injEq] at hr
    subst hr
    exact ⟨[], by rw [List.mapM_nil, Sem.run_pure], trivial⟩
  | r :: rs, vs, hr => by
    simp only [resVars] at hr
    split at hr
    · rename_i x xs h1 h2
      cases hr
      obtain ⟨y, hy1, hy2⟩ := resVar_run h h1
      obtain ⟨ys, hs1, hs2⟩ := resVars_run h h2
      refine ⟨y :: ys, ?_, hy2, hs2⟩
      simp only [List.mapM_cons, Sem.run_bind, hy1, Result.andThen_ok, hs1, Sem.run_pure]
    · cases hr

theorem results_run (h : Sat X d S a w) {fn : Func} {vs : List SV} (hr : resVars X.P S fn.results.toList = some vs) :
    ∃ xs, (results fn a.tmps).run X.P w = .ok (oneOr xs) w ∧ AllIs d vs xs := by
  obtain ⟨xs, h1, h2⟩ := resVars_run h hr
  refine ⟨xs, ?_, h2⟩
  rw [results_eq, Sem.run_bind, Array.mapM_eq_mapM_toList, map_eq_pure_bind, Sem.run_bind, h1]
  simp only [Result.andThen_ok, Sem.run_pure]
  congr 1
  match xs with
  | [] => rfl
  | [v] => rfl
  | _ :: _ :: _ => rfl

/-! ### What it is called with -/
structure InitOk (X : Ctx) (d : Dn) (w : World) (id j : Nat) (ps : List PSh) (args : List Value) : Prop where
  len : args.length = (parSVs j id ps).length
  is : ∀ t, (getT (parSVs j id ps) t).is d (args.getD t undef)
  ok : ∀ hp, (∀ i, i < (parRegs j ps).length → (getH hp (id + i)).isSome = true) → ∀ t, (getT (parSVs j id ps) t).ok d hp
  reg : ∀ i r, getH (parRegs j ps) i = some r → r.own = false ∧ RegIs X d (id + i) r w ∧ ∀ c ∈ r.cs, c.plain = true
  all : ∀ i, i < (parRegs j ps).length → (getH (parRegs j ps) i).isSome = true

theorem init_ok {xs : List Int} (hw : X.w0 = w) : ∀ (ps : List PSh) (id j : Nat) (args : List Value), j + (ps.flatMap PSh.ks).length ≤ xs.length → ArgsAre w xs j ps args →
    ∃ bs : List (Nat × Nat), ∀ d : Dn, d.ρ.i = xs → (∀ i p, bs[i]? = some p → d.α (id + i) = p) → InitOk X d w id j ps args
  | [], id, j, args, _, h => by
    simp only [ArgsAre] at h
    subst h
    exact ⟨[], fun d _ _ => ⟨rfl, fun t => (by simp only [parSVs, getT_nil]; rfl), fun hp _ t => (by simp only [parSVs, getT_nil]; intro v hv; cases hv), fun i r hr => (by simp [parRegs, getH_nil] at hr), fun i hi => (by simp [parRegs] at hi)⟩⟩
  | .val b ks :: ps, id, j, args, hl, h => by
    obtain ⟨rest, rfl, h1, h2⟩ := h
    simp only [List.flatMap_cons, List.length_append, PSh.ks] at hl
    obtain ⟨bs, hbs⟩ := init_ok hw ps id (j + ks.length) rest (by omega) h2
    refine ⟨bs, fun d hd hα => ?_⟩
    have I := hbs d hd hα
    have hden : (varCells j ks).map (Cell.den d) = kdVals xs j ks := by
      have := varCells_den (d := d) (n := 0) (N := xs.length) (xs := xs) (fun k _ => by rw [hd, Nat.zero_add]) ks j (by omega)
      rwa [Nat.zero_add] at this
    have hpl := varCells_plain ks j
    have cons : ∀ sv : SV, parSVs j id (.val b ks :: ps) = sv :: parSVs (j + ks.length) id ps → sv.is d (compVal b (kdVals xs j ks)) → (∀ hp, sv.ok d hp) → InitOk X d w id j (.val b ks :: ps) (compVal b (kdVals xs j ks) :: rest) := by
      intro sv e h3 h4
      refine ⟨by rw [e]; simp [I.len], fun t => ?_, fun hp hh t => ?_, I.reg, I.all⟩
      · rw [e]
        cases t with
        | zero => exact h3
        | succ t => exact I.is t
      · rw [e]
        cases t with
        | zero => exact h4 hp
        | succ t => exact I.ok hp hh t
    cases b with
    | true => exact cons (.agg (varCells j ks)) rfl (by simp only [SV.is, compVal, hden]) (fun hp c hc => Cell.plain_ok (hpl c hc))
    | false =>
      have hk := h1 rfl
      match ks, hk, hden, hpl, cons with
      | [k], _, hden, hpl, cons =>
        obtain ⟨c, hc⟩ : ∃ c, varCells j [k] = [c] := by cases k <;> exact ⟨_, rfl⟩
        refine cons (.one c) (by simp only [parSVs, hc]) ?_ (fun hp => ?_)
        · rw [hc] at hden
          rw [← hden]
          rfl
        · rw [hc] at hpl
          exact Cell.plain_ok (hpl c List.mem_cons_self)
  | .ptr ks :: ps, id, j, args, hl, h => by
    obtain ⟨b, o, rest, rfl, h1, h2, h3⟩ := h
    simp only [List.flatMap_cons, List.length_append, PSh.ks] at hl
    obtain ⟨bs, hbs⟩ := init_ok hw ps (id + 1) (j + ks.length) rest (by omega) h3
    refine ⟨(b, o) :: bs, fun d hd hα => ?_⟩
    have I := hbs d hd fun i p hp => by
      have := hα (i + 1) p hp
      rwa [show id + (i + 1) = id + 1 + i by omega] at this
    have h0 : d.α id = (b, o) := hα 0 _ rfl
    have hden : (varCells j ks).map (Cell.den d) = kdVals xs j ks := by
      have := varCells_den (d := d) (n := 0) (N := xs.length) (xs := xs) (fun k _ => by rw [hd, Nat.zero_add]) ks j (by omega)
      rwa [Nat.zero_add] at this
    refine ⟨by simp [parSVs, I.len], fun t => ?_, fun hp hh t => ?_, fun i r hr => ?_, fun i hi => ?_⟩
    · cases t with
      | zero => show Value.pointer _ = Value.pointer _; rw [h0, Nat.add_zero]
      | succ t => exact I.is t
    · cases t with
      | zero => exact hh 0 (by simp [parRegs])
      | succ t => exact I.ok hp (fun i hi => by
          have := hh (i + 1) (by simpa [parRegs] using hi)
          rwa [show id + (i + 1) = id + 1 + i by omega] at this) t
    · cases i with
      | zero =>
        simp only [parRegs, getH, Option.some.injEq] at hr
        subst hr
        refine ⟨rfl, ?_, varCells_plain ks j⟩
        unfold RegIs
        rw [if_neg (by simp), Nat.add_zero, h0, hw]
        refine ⟨h1, fun i c hi => h2 i _ ?_⟩
        rw [← hden, List.getElem?_map, hi]; rfl
      | succ i =>
        have := I.reg i r hr
        rwa [show id + 1 + i = id + (i + 1) by omega] at this
    · cases i with
      | zero => rfl
      | succ i => exact I.all i (by simpa [parRegs] using hi)
  | .slc ks :: ps, id, j, args, hl, h => by
    obtain ⟨b, o, rest, rfl, h1, h2, h3⟩ := h
    simp only [List.flatMap_cons, List.length_append, PSh.ks] at hl
    obtain ⟨bs, hbs⟩ := init_ok hw ps (id + 1) (j + ks.length) rest (by omega) h3
    refine ⟨(b, o) :: bs, fun d hd hα => ?_⟩
    have I := hbs d hd fun i p hp => by
      have := hα (i + 1) p hp
      rwa [show id + (i + 1) = id + 1 + i by omega] at this
    have h0 : d.α id = (b, o) := hα 0 _ rfl
    have hden : (varCells j ks).map (Cell.den d) = kdVals xs j ks := by
      have := varCells_den (d := d) (n := 0) (N := xs.length) (xs := xs) (fun k _ => by rw [hd, Nat.zero_add]) ks j (by omega)
      rwa [Nat.zero_add] at this
    refine ⟨by simp [parSVs, I.len], fun t => ?_, fun hp hh t => ?_, fun i r hr => ?_, fun i hi => ?_⟩
    · cases t with
      | zero => show Value.slice _ _ _ = Value.slice _ _ _; rw [h0, Nat.add_zero]
      | succ t => exact I.is t
    · cases t with
      | zero => exact hh 0 (by simp [parRegs])
      | succ t => exact I.ok hp (fun i hi => by
          have := hh (i + 1) (by simpa [parRegs] using hi)
          rwa [show id + (i + 1) = id + 1 + i by omega] at this) t
    · cases i with
      | zero =>
        simp only [parRegs, getH, Option.some.injEq] at hr
        subst hr
        refine ⟨rfl, ?_, varCells_plain ks j⟩
        unfold RegIs
        rw [if_neg (by simp), Nat.add_zero, h0, hw]
        refine ⟨h1, fun i c hi => h2 i _ ?_⟩
        rw [← hden, List.getElem?_map, hi]; rfl
      | succ i =>
        have := I.reg i r hr
        rwa [show id + 1 + i = id + (i + 1) by omega] at this
    · cases i with
      | zero => rfl
      | succ i => exact I.all i (by simpa [parRegs] using hi)

theorem fn_sigs {sigs : List (Nat × Sig)} {g : Nat} {ks : List Kd} (h : Bds.fn.go g (sigs.map fun p => (p.1, resKds p.2)) = ks) (hn : ks ≠ []) : ∃ s, sigOf sigs g = some s ∧ ks = resKds s := by
  induction sigs with
  | nil => exact absurd h.symm hn
  | cons p r ih =>
    simp only [List.map_cons, Bds.fn.go] at h
    simp only [sigOf]
    cases hg : Nat.beq p.1 g <;> simp only [hg, cond_false, cond_true] at h ⊢
    · exact ih h
    · exact ⟨p.2, rfl, h.symm⟩

theorem kds_ivs : ∀ (ks : List Kd) (j : Nat), kds ks j = ivs (ks.map Kd.iv) j
  | [], _ => rfl
  | _ :: _, 0 => rfl
  | _ :: r, j + 1 => kds_ivs r j

theorem getT_append_undef : ∀ (l : List SV) (n t : Nat), getT (l ++ List.replicate n .undef) t = getT l t
  | [], n, t => by
    rw [List.nil_append, getT_nil]
    induction n generalizing t with
    | zero => exact getT_nil t
    | succ n ih =>
      cases t with
      | zero => rfl
      | succ t => exact ih t
  | _ :: _, _, 0 => rfl
  | _ :: r, n, t + 1 => getT_append_undef r n t

/-- WHAT A FUNCTION RETURNS, from what is asked of its numbers. -/
theorem vc_soundI {F : Fn} {ivs : List Iv} {fuel g : Nat} {fn : Func} {s : Sig} (hm : F.C.P.follows .mixedOrders = true) (hC : CTs F.C Φ Pr)
    (hΦ : ∀ g s, sigOf F.C.sigs g = some s → ∀ xs ls, allHas ((resKds s).map Kd.iv) (norm (resKds s).length (Φ g xs ls).1))
    (hf : F.C.P.funcs[g]? = some fn) {xs : List Int} {args : List Value} (hx : allHas (parIvs s.params) xs) (hi : allHas ivs xs) (ha : ArgsAre w xs 0 s.params args) {post : List Int → Prop}
    (h : (vcOfI F ivs fuel fn s).holds Φ Pr post ⟨xs, []⟩) :
    Calls F.C.P g args.toArray w fun e w' => ∃ ys : List Int, post ys ∧ allHas ((resKds s).map Kd.iv) ys ∧ e = .returned (resV s ys) ∧ Below w.heap.size w w' := by
  unfold vcOfI at h
  split at h
  · rename_i c hc
    simp only at h
    obtain ⟨bs, hbs⟩ := init_ok (X := ⟨F.C.P, w⟩) rfl s.params 0 0 args (by
      have := allHas_length hx
      unfold parIvs at this
      rw [← this]
      simp [List.length_flatMap]) ha
    let d : Dn := ⟨Φ, ⟨xs, []⟩, fun i => bs.getD i (0, 0)⟩
    have I := hbs d rfl fun i p hp => by
      show bs.getD (0 + i) (0, 0) = p
      rw [Nat.zero_add, List.getD_eq_getElem?_getD, hp]; rfl
    refine calls_of_wp hf hc ?_
    let S0 : St := ⟨parSVs 0 0 s.params ++ List.replicate (fn.ntmps - (parSVs 0 0 s.params).length) .undef, parRegs 0 s.params⟩
    have hS : Sat ⟨F.C.P, w⟩ d S0 { tmps := args.toArray ++ Array.replicate (fn.ntmps - args.toArray.size) undef, defers := [] } w := by
      refine ⟨rfl, ⟨?_, fun t => ?_, fun t => ?_⟩, ⟨Below.refl _ _, fun i r hr => ?_, fun i j ri rj hi hj oi oj hij => ?_, fun i r hr c hc => Cell.plain_ok ((I.reg i r hr).2.2 c hc)⟩⟩
      · simp [S0, I.len]
      · have e : (args.toArray ++ Array.replicate (fn.ntmps - args.toArray.size) undef).getD t undef = args.getD t undef := by
          simp only [Array.getD_eq_getD_getElem?, List.getD_eq_getElem?_getD, Array.getElem?_append, List.size_toArray, Array.getElem?_replicate, List.getElem?_toArray]
          split
          · rfl
          · rename_i hn
            rw [List.getElem?_eq_none (by omega)]
            split <;> rfl
        show (getT (parSVs 0 0 s.params ++ _) t).is d _
        rw [getT_append_undef]
        have := I.is t
        rw [← e] at this
        exact this
      · show (getT (parSVs 0 0 s.params ++ _) t).ok d _
        rw [getT_append_undef]
        exact I.ok _ (fun i hi => by rw [Nat.zero_add]; exact I.all i hi) t
      · have := (I.reg i r hr).2.1
        rwa [Nat.zero_add] at this
      · have := (I.reg i ri hi).1
        rw [this] at oi; cases oi
    have hRV : RV d.Φ ⟨ivs, [], F.C.sigs.map fun p => (p.1, resKds p.2), []⟩ d.ρ :=
      ⟨(allHas_length hi).symm, rfl, fun n iv hn => allHas_get hi n iv hn, fun n p hn => (by cases n <;> cases hn), fun k j iv hk xs ls => by
        have hne : Bds.fn.go k (F.C.sigs.map fun p => (p.1, resKds p.2)) ≠ [] := fun e => by
          unfold Bds.fn at hk
          simp only [e] at hk
          cases j <;> cases hk
        obtain ⟨s', h1, h2⟩ := fn_sigs rfl hne
        unfold Bds.fn at hk
        simp only [h2] at hk
        rw [kds_ivs] at hk
        have := allHas_get (hΦ k s' h1 xs ls) j iv hk
        rwa [norm_getD _ _ _ (by simpa using ivs_lt _ _ _ hk)] at this, fun q hq => by cases hq⟩
    refine (exec_sound (X := ⟨F.C.P, w⟩) hm hC hΦ fuel c _ _ ?_ _ S0 d _ w rfl hRV hS (vc_holds _ _ h)).wp
    intro x R S d' a' w' hd' hR' h' ht
    have key : ∀ x : Ex, x = .normal ∨ x = .ret → (finVC F.C.P fn s x R S).holds Φ Pr post d'.ρ → a'.defers = [] ∧ ∃ v, (results fn a'.tmps).run F.C.P w' = .ok v w' ∧
        ∃ ys : List Int, post ys ∧ allHas ((resKds s).map Kd.iv) ys ∧ Ending.returned v = .returned (resV s ys) ∧ Below w.heap.size w w' := by
      intro x hx ht
      refine ⟨h'.df, ?_⟩
      have e : finVC F.C.P fn s x R S = match resVars F.C.P S fn.results.toList with
        | some vs => match resAS R s.res vs with
          | some as => .fin as
          | none => .fail 2001
        | none => .fail 2002 := by rcases hx with rfl | rfl <;> rfl
      rw [e] at ht
      split at ht
      · rename_i vs hvs
        split at ht
        · rename_i as has
          obtain ⟨vals, k1, k2⟩ := results_run h' hvs
          obtain ⟨j1, j2, j3⟩ := resAS_spec hR' has k2
          have j4 := j3 []
          subst hd'
          refine ⟨_, k1, as.denE d'.Φ d'.ρ, ht, j2, ?_, h'.hp.bl⟩
          rw [j4]
          rfl
        · exact ht.elim
      · exact ht.elim
    cases x with
    | normal => exact key .normal (.inl rfl) ht
    | ret => exact key .ret (.inr rfl) ht
    | exit id => exact ht.elim
    | goto l => exact ht.elim
  · exact h.elim

theorem vc_sound {F : Fn} {fuel g : Nat} {fn : Func} {s : Sig} (hm : F.C.P.follows .mixedOrders = true) (hC : CTs F.C Φ Pr)
    (hΦ : ∀ g s, sigOf F.C.sigs g = some s → ∀ xs ls, allHas ((resKds s).map Kd.iv) (norm (resKds s).length (Φ g xs ls).1))
    (hf : F.C.P.funcs[g]? = some fn) {xs : List Int} {args : List Value} (hx : allHas (parIvs s.params) xs) (ha : ArgsAre w xs 0 s.params args) {post : List Int → Prop}
    (h : (vcOf F fuel fn s).holds Φ Pr post ⟨xs, []⟩) :
    Calls F.C.P g args.toArray w fun e w' => ∃ ys : List Int, post ys ∧ allHas ((resKds s).map Kd.iv) ys ∧ e = .returned (resV s ys) ∧ Below w.heap.size w w' :=
  vc_soundI hm hC hΦ hf hx hx ha h

end
end Go.Proofs.Ytaknnjlkpepgaaa.Sx
