/-
  The symbolic executor: regions.
-/
import Derived.Test.YtelfpnkhdaaeoaaDoorSxM
namespace Go.Proofs.YtelfpnkhdaaeoaaDoor.Sx
open Go Go.RowKit

section
variable {C : Cfg} {R : Bds} {X : Ctx} {d : Dn} {w : World} {S : St} {a : Act} {Pr : Pres} {Φ : Fns} {ρ : Env} {ops : Array Oper}
  {Q : Exit → Act → World → Prop} {K : Ex → Bds → St → Env → Prop}

/-- The operations one after the other, with what they ask. -/
def RunsO (Φ : Fns) (ρ : Env) (C : Cfg) (R : Bds) (ops : Array Oper) : List Item → St → St → List Fp → List O → Prop
  | [], S, Sf, fs, os => S = Sf ∧ fs = [] ∧ os = []
  | it :: l, S, Sf, fs, os => ∃ r f fs' os', effD Φ ρ C R ops it S = some (r, f) ∧ fs = f :: fs' ∧ os = r.os ++ os' ∧ ((panEs r.os).isEmpty || isPanOp C it.o.op) = true ∧ RunsO Φ ρ C R ops l (r.put it.o.dst S) Sf fs' os'

theorem RunsO.runs : ∀ {l : List Item} {S Sf : St} {fs : List Fp} {os : List O}, RunsO Φ ρ C R ops l S Sf fs os → OsHold Φ Pr ρ os → ∃ oss : List (List O), oss.flatten = os ∧ Runs Φ ρ Pr C R ops l S Sf fs oss
  | [], _, _, _, _, ⟨h1, h2, h3⟩, _ => ⟨[], by rw [h3]; rfl, h1, h2, rfl⟩
  | it :: l, _, _, _, _, ⟨r, f, fs', os', h1, h2, h3, hd, h4⟩, ho => by
    subst h2 h3
    obtain ⟨oss, e1, e2⟩ := RunsO.runs h4 fun o h => ho o (List.mem_append_right _ h)
    exact ⟨r.os :: oss, by rw [List.flatten_cons, e1], r, f, fs', oss, h1, fun o h => ho o (List.mem_append_left _ h), rfl, rfl, hd, e2⟩

/-- The calls of a region are those of functions that are known. -/
def Known (C : Cfg) (cs : List CallR) : Prop := ∀ c ∈ cs, ∃ s, sigOf C.sigs c.g = some s ∧ c.ks = resKds s

theorem callOf_known (o : Op) : Known C (callOf C R S o) := fun c hc => by
  unfold callOf at hc
  split at hc
  · rename_i g s as h
    simp only [List.mem_singleton] at hc
    subst hc
    obtain ⟨_, _, _, _, _, _, _, hs, _, _⟩ := callOp_some h
    exact ⟨s, hs, rfl⟩
  · cases hc

theorem Known.append {a b : List CallR} (h : Known C a) (k : Known C b) : Known C (a ++ b) := fun c hc => (List.mem_append.1 hc).elim (h c) (k c)

theorem runT_sound {fin : Bds → List Fp → List O → List CallR → St → T} :
    ∀ (l : List Oper) (i new : Nat) (Rp : Bds) (fps : List Fp) (os : List O) (cs : List CallR) (S : St), RV Φ Rp ρ → Known C cs →
      (runT C R ops fin l i new Rp fps os cs S).holds Φ Pr ρ K →
      ∃ Sf fs' os' cs' Rp', RunsO Φ ρ C R ops (items C l i new) S Sf fs' os' ∧ RV Φ Rp' ρ ∧ Known C cs' ∧ (fin Rp' (fs'.reverse ++ fps) (os ++ os') cs' Sf).holds Φ Pr ρ K
  | [], i, new, Rp, fps, os, cs, S, hR, hk, ht => ⟨S, [], [], cs, Rp, ⟨rfl, rfl, rfl⟩, hR, hk, by simpa [runT] using ht⟩
  | o :: rest, i, new, Rp, fps, os, cs, S, hR, hk, ht => by
    have ih := runT_sound (fin := fin) rest (i + 1) (new + newsOf C o.op)
    -- once the operation's outcome is known
    have next : ∀ (Rp : Bds) (r : Res) (f : Fp) (cs : List CallR), RV Φ Rp ρ → Known C cs → effD Φ ρ C R ops ⟨i, o, new⟩ S = some (r, f) → ((panEs r.os).isEmpty || isPanOp C o.op) = true →
        (runT C R ops fin rest (i + 1) (new + newsOf C o.op) Rp (f :: fps) (os ++ r.os) cs (r.put o.dst S)).holds Φ Pr ρ K →
        ∃ Sf fs' os' cs' Rp', RunsO Φ ρ C R ops (items C (o :: rest) i new) S Sf fs' os' ∧ RV Φ Rp' ρ ∧ Known C cs' ∧ (fin Rp' (fs'.reverse ++ fps) (os ++ os') cs' Sf).holds Φ Pr ρ K := by
      intro Rp r f cs hR hk he hdyn ht
      obtain ⟨Sf, fs', os', cs', Rp', h1, h2, h3, h4⟩ := ih Rp (f :: fps) (os ++ r.os) cs (r.put o.dst S) hR hk ht
      refine ⟨Sf, f :: fs', r.os ++ os', cs', Rp', ⟨r, f, fs', os', he, rfl, rfl, hdyn, h1⟩, h2, h3, ?_⟩
      simpa using h4
    simp only [runT] at ht
    have go : ∀ (dec : Bool) (Rp : Bds), RV Φ Rp ρ → decOf Φ ρ S o.op = dec → (runOne Φ ρ C R ops ⟨i, o, new⟩ S = effD Φ ρ C R ops ⟨i, o, new⟩ S) →
        T.holds Φ Pr (match opStep C R o.op dec S new with
          | some r => bif (panEs r.os).isEmpty || isPanOp C o.op then runT C R ops fin rest (i + 1) (new + newsOf C o.op) Rp (mkFp ops i o S r :: fps) (os ++ r.os) (cs ++ callOf C R S o.op) (r.put o.dst S) else .fail 12
          | none => .fail 11) ρ K →
        ∃ Sf fs' os' cs' Rp', RunsO Φ ρ C R ops (items C (o :: rest) i new) S Sf fs' os' ∧ RV Φ Rp' ρ ∧ Known C cs' ∧ (fin Rp' (fs'.reverse ++ fps) (os ++ os') cs' Sf).holds Φ Pr ρ K := by
      intro dec Rp hR hd he ht
      cases hs : opStep C R o.op dec S new with
      | none => rw [hs] at ht; exact ht.elim
      | some r =>
        rw [hs] at ht
        simp only at ht
        cases hdyn : ((panEs r.os).isEmpty || isPanOp C o.op) <;> simp only [hdyn, cond_false, cond_true] at ht
        · exact ht.elim
        refine next Rp r (mkFp ops i o S r) _ hR (hk.append (callOf_known o.op)) ?_ hdyn ht
        rw [← he]
        simp only [runOne, hd, hs]
    have run : ∀ (Rp : Bds), RV Φ Rp ρ → (runOne Φ ρ C R ops ⟨i, o, new⟩ S = effD Φ ρ C R ops ⟨i, o, new⟩ S) →
        T.holds Φ Pr (match pickOf S o.op with
          | some b => askT Rp b (fun Rp => match opStep C R o.op true S new with
              | some r => bif (panEs r.os).isEmpty || isPanOp C o.op then runT C R ops fin rest (i + 1) (new + newsOf C o.op) Rp (mkFp ops i o S r :: fps) (os ++ r.os) (cs ++ callOf C R S o.op) (r.put o.dst S) else .fail 12
              | none => .fail 11) (fun Rp => match opStep C R o.op false S new with
              | some r => bif (panEs r.os).isEmpty || isPanOp C o.op then runT C R ops fin rest (i + 1) (new + newsOf C o.op) Rp (mkFp ops i o S r :: fps) (os ++ r.os) (cs ++ callOf C R S o.op) (r.put o.dst S) else .fail 12
              | none => .fail 11)
          | none => match opStep C R o.op true S new with
              | some r => bif (panEs r.os).isEmpty || isPanOp C o.op then runT C R ops fin rest (i + 1) (new + newsOf C o.op) Rp (mkFp ops i o S r :: fps) (os ++ r.os) (cs ++ callOf C R S o.op) (r.put o.dst S) else .fail 12
              | none => .fail 11) ρ K →
        ∃ Sf fs' os' cs' Rp', RunsO Φ ρ C R ops (items C (o :: rest) i new) S Sf fs' os' ∧ RV Φ Rp' ρ ∧ Known C cs' ∧ (fin Rp' (fs'.reverse ++ fps) (os ++ os') cs' Sf).holds Φ Pr ρ K := by
      intro Rp hR he ht
      cases hp : pickOf S o.op with
      | none => rw [hp] at ht; exact go true Rp hR (by simp only [decOf, hp]) he ht
      | some b =>
        rw [hp] at ht
        rcases askT_holds (d := ⟨Φ, ρ, fun _ => (0, 0), fun _ => none⟩) hR ht with ⟨hb, R', hR', _, ht⟩ | ⟨hb, R', hR', _, ht⟩
        · exact go true R' hR' (by simp only [decOf, hp]; exact hb) he ht
        · exact go false R' hR' (by simp only [decOf, hp]; exact hb) he ht
    have skip : ∀ (Rp : Bds), RV Φ Rp ρ → effD Φ ρ C R ops ⟨i, o, new⟩ S = some (skipOne ops ⟨i, o, new⟩) →
        (runT C R ops fin rest (i + 1) (new + newsOf C o.op) Rp (skipFp ops i o :: fps) os cs (S.put o.dst .undef)).holds Φ Pr ρ K →
        ∃ Sf fs' os' cs' Rp', RunsO Φ ρ C R ops (items C (o :: rest) i new) S Sf fs' os' ∧ RV Φ Rp' ρ ∧ Known C cs' ∧ (fin Rp' (fs'.reverse ++ fps) (os ++ os') cs' Sf).holds Φ Pr ρ K := by
      intro Rp hR he ht
      refine next Rp ⟨.undef, [], []⟩ (skipFp ops i o) cs hR hk he rfl ?_
      have e : (⟨.undef, [], []⟩ : Res).put o.dst S = S.put o.dst .undef := by cases hd : o.dst <;> rfl
      rw [e]
      simpa using ht
    cases hg : guardOf ops S o with
    | run =>
      rw [hg] at ht
      exact run Rp hR (by unfold effD; simp only [hg]) ht
    | skip =>
      rw [hg] at ht
      exact skip Rp hR (by unfold effD; simp only [hg]) ht
    | ask b =>
      rw [hg] at ht
      rcases askT_holds (d := ⟨Φ, ρ, fun _ => (0, 0), fun _ => none⟩) hR ht with ⟨hb, R', hR', _, ht⟩ | ⟨hb, R', hR', _, ht⟩
      · exact run R' hR' (by unfold effD; simp only [hg]; rw [if_pos hb]) ht
      · have hb' : ¬ b.den Φ ρ = true := by
          have : b.den Φ ρ = false := hb
          rw [this]; simp
        exact skip R' hR' (by unfold effD; simp only [hg]; rw [if_neg hb']) ht
    | bad => rw [hg] at ht; exact ht.elim

/-! ### What calls have returned, by variables -/
theorem Cell.same_rep {g n m : Nat} {as : AS} (hv : ∀ j, j < m → d.ρ.i.getD (n + j) 0 = (d.Φ g (as.denE d.Φ d.ρ) (as.denL d.Φ d.ρ)).1.getD j 0) (c : Cell) : SameC d c (c.rep g as n m) := by
  cases c with
  | int k e => exact ⟨by simp only [Cell.rep, Cell.den, E.den_rep hv], fun _ _ => trivial⟩
  | bool b => exact ⟨by simp only [Cell.rep, Cell.den, B.den_rep hv], fun _ _ => trivial⟩
  | ptrx i o q s e => exact ⟨by simp only [Cell.rep, Cell.den, E.den_rep hv], fun _ h => by simpa only [Cell.rep, Cell.ok, E.den_rep hv] using h⟩
  | str l => exact ⟨by simp only [Cell.rep, Cell.den, L.den_rep hv], fun _ _ => trivial⟩
  | ptr _ _ => exact SameC.refl _ _
  | nilp => exact SameC.refl _ _
  | nilf => exact SameC.refl _ _
  | nils => exact SameC.refl _ _
  | slc _ _ _ _ => exact SameC.refl _ _
  | fn _ => exact SameC.refl _ _
  | sl i s o l => exact ⟨by simp only [Cell.rep, Cell.den, E.den_rep hv], fun _ h => by simpa only [Cell.rep, Cell.ok, E.den_rep hv] using h⟩
  | lp i s e f => exact ⟨by simp only [Cell.rep, Cell.den, E.den_rep hv], fun _ h => by simpa only [Cell.rep, Cell.ok, E.den_rep hv] using h⟩
  | ifc t k e => exact ⟨by simp only [Cell.rep, Cell.den, E.den_rep hv], fun _ _ => trivial⟩
  | clo g ps => exact ⟨rfl, fun hp h => h⟩

theorem cells_same_rep {g n m : Nat} {as : AS} (hv : ∀ j, j < m → d.ρ.i.getD (n + j) 0 = (d.Φ g (as.denE d.Φ d.ρ) (as.denL d.Φ d.ρ)).1.getD j 0) : ∀ (cs : List Cell),
    SameCs d cs (cs.map (·.rep g as n m))
  | [] => trivial
  | c :: r => ⟨Cell.same_rep hv c, cells_same_rep hv r⟩

theorem getH_map (f : Reg → Reg) : ∀ (l : List (Option Reg)) (t : Nat), getH (l.map fun r => r.map f) t = (getH l t).map f
  | [], t => by rw [List.map_nil, getH_nil]; rfl
  | _ :: _, 0 => rfl
  | _ :: r, t + 1 => getH_map f r t

theorem SV.is_rep {g n m : Nat} {as : AS} (hv : ∀ j, j < m → d.ρ.i.getD (n + j) 0 = (d.Φ g (as.denE d.Φ d.ρ) (as.denL d.Φ d.ρ)).1.getD j 0) {v : SV} {x : Value} (h : v.is d x) : (v.rep g as n m).is d x := by
  cases v with
  | one c => simp only [SV.rep, SV.is] at *; rw [h, (Cell.same_rep hv c).1]
  | agg cs => simp only [SV.rep, SV.is] at *; rw [h, (cells_same_rep hv cs).map]
  | tup vs =>
    simp only [SV.rep, SV.is] at *
    rw [h, List.map_map]
    congr 2
    refine List.map_congr_left fun p _ => ?_
    simp only [Function.comp]
    rw [compV_compVal]
    obtain ⟨b, cs⟩ := p
    rw [compV_compVal]
    simp only
    rw [(cells_same_rep hv cs).map]
  | any => trivial
theorem SV.ok_rep {g n m : Nat} {as : AS} {hp : List (Option Reg)} (hv : ∀ j, j < m → d.ρ.i.getD (n + j) 0 = (d.Φ g (as.denE d.Φ d.ρ) (as.denL d.Φ d.ρ)).1.getD j 0) {v : SV} (h : v.ok d hp) : (v.rep g as n m).ok d hp := by
  cases v with
  | one c => exact (Cell.same_rep hv c).2 hp h
  | agg cs => exact (cells_same_rep hv cs).ok h
  | tup vs =>
    intro p hp c hc
    simp only [List.mem_map] at hp
    obtain ⟨q, hq, rfl⟩ := hp
    exact (cells_same_rep hv q.2).ok (h q hq) c hc
  | any => trivial

theorem Sat.rep {g n m : Nat} {as : AS} (h : Sat X d S a w) (hv : ∀ j, j < m → d.ρ.i.getD (n + j) 0 = (d.Φ g (as.denE d.Φ d.ρ) (as.denL d.Φ d.ρ)).1.getD j 0) :
    Sat X d (S.rep g as n m) a w ∧ SameH S.heap (S.rep g as n m).heap := by
  have hsame : SameH S.heap (S.rep g as n m).heap := ⟨by simp [St.rep], fun k => by
    simp only [St.rep]; rw [getH_map]; cases getH S.heap k <;> rfl⟩
  have hT : ∀ t, getT (S.rep g as n m).tmps t = (getT S.tmps t).rep g as n m := fun t => getT_map _ rfl _ _
  have get : ∀ k q, getH (S.rep g as n m).heap k = some q → ∃ q', getH S.heap k = some q' ∧ q' = { q' with cs := q'.cs } ∧ q = { q' with cs := q'.cs.map (·.rep g as n m), tl := tlRep g as n m q'.tl } := fun k q hq => by
    simp only [St.rep] at hq
    rw [getH_map, Option.map_eq_some_iff] at hq
    obtain ⟨q', h1, h2⟩ := hq
    exact ⟨q', h1, rfl, h2.symm⟩
  refine ⟨⟨h.df, ⟨?_, fun t => ?_, fun t => ?_⟩, ⟨h.hp.bl, fun k q hq => ?_, fun i j ri rj hi hj oi oj hij => ?_, fun k q hq c hc => ?_, h.hp.pin.agree (Agree.refl _ _) hsame.has⟩⟩, hsame⟩
  · simp only [St.rep, List.length_map]; exact h.tm.len
  · rw [hT]; exact SV.is_rep hv (h.tm.is t)
  · rw [hT]; exact SV.ok_rep hv (SV.ok_mono hsame.has (h.tm.ok t))
  · obtain ⟨q', h1, _, rfl⟩ := get k q hq
    refine (h.hp.reg k q' h1).move rfl rfl rfl rfl (cells_same_rep hv q'.cs).map ?_ fun _ => rfl
    cases htl : q'.tl with
    | none => trivial
    | some p => exact ⟨rfl, L.den_rep hv _⟩
  · obtain ⟨qi, h1, _, rfl⟩ := get i ri hi
    obtain ⟨qj, h2, _, rfl⟩ := get j rj hj
    exact h.hp.sep i j qi qj h1 h2 oi oj hij
  · obtain ⟨q', h1, _, rfl⟩ := get k q hq
    exact (cells_same_rep hv q'.cs).ok (fun c hc => Cell.ok_mono hsame.has (h.hp.ids k q' h1 c hc)) c hc

theorem callsT_sound {fin : Bds → List E → St → T} (hΦ : ∀ g s, sigOf C.sigs g = some s → ∀ xs ls, allHas ((resKds s).map Kd.iv) (norm (resKds s).length (Φ g xs ls).1)) :
    ∀ (f : Nat) (cs : List CallR) (ps : List E) (R : Bds) (S : St) (d : Dn), d.Φ = Φ → Known C cs → RV d.Φ R d.ρ → Sat X d S a w → (callsT fin f cs ps R S).holds d.Φ Pr d.ρ K →
      ∃ (R' : Bds) (S' : St) (ps' : List E) (d' : Dn), d'.Φ = d.Φ ∧ RV d'.Φ R' d'.ρ ∧ Sat X d' S' a w ∧ SameH S.heap S'.heap ∧ ps'.map (E.den d'.Φ d'.ρ) = ps.map (E.den d.Φ d.ρ) ∧ (fin R' ps' S').holds d'.Φ Pr d'.ρ K
  | 0, _, _, _, _, _, _, _, _, _, ht => ht.elim
  | f + 1, [], ps, R, S, d, _, _, hR, h, ht => ⟨R, S, ps, d, rfl, hR, h, SameH.refl _, rfl, ht⟩
  | f + 1, c :: r, ps, R, S, d, hd, hk, hR, h, ht => by
    simp only [callsT] at ht
    cases c1 : (c.as.sc R.i.length R.l.length && (scAll R S && ps.all (·.sc R.i.length R.l.length))) <;> simp only [c1, cond_false, cond_true] at ht
    · exact ht.elim
    · simp only [Bool.and_eq_true, scAll] at c1
      obtain ⟨c11, ⟨c12, c13⟩, cps⟩ := c1
      have c1 : c.as.sc R.i.length R.l.length = true ∧ (S.sc R.i.length R.l.length = true ∧ R.p.all (fun q => q.1.sc R.i.length R.l.length) = true) := ⟨c11, c12, c13⟩
      simp only [T.holds] at ht
      obtain ⟨s, hs, hks⟩ := hk c List.mem_cons_self
      have hn : R.i.length ≤ d.ρ.i.length := by rw [hR.li]; exact Nat.le_refl _
      let ys := norm c.ks.length (d.Φ c.g (c.as.denE d.Φ d.ρ) (c.as.denL d.Φ d.ρ)).1
      have hR' : RV d.Φ (R.push (c.ks.map Kd.iv)) (d.ρ.pushI ys) := hR.push (by subst hd; rw [hks]; show allHas _ (norm c.ks.length _); rw [hks]; exact hΦ c.g s hs _ _) c1.2.2
      have h1 := h.push hn c1.2.1 ys
      have hv : ∀ j, j < c.ks.length → (d.push ys).ρ.i.getD (R.i.length + j) 0 = ((d.push ys).Φ c.g (c.as.denE (d.push ys).Φ (d.push ys).ρ) (c.as.denL (d.push ys).Φ (d.push ys).ρ)).1.getD j 0 := fun j hj => by
        have e1 : c.as.denE (d.push ys).Φ (d.push ys).ρ = c.as.denE d.Φ d.ρ := AS.denE_push hn _ c1.1
        have e2 : c.as.denL (d.push ys).Φ (d.push ys).ρ = c.as.denL d.Φ d.ρ := AS.denL_push hn _ c1.1
        rw [e1, e2]
        show _ = (d.Φ c.g (c.as.denE d.Φ d.ρ) (c.as.denL d.Φ d.ρ)).1.getD j 0
        rw [← norm_getD c.ks.length _ j hj]
        have := getD_append_right (xs := d.ρ.i) (ys := ys) (n := j)
        rw [hR.li] at this
        exact this
      obtain ⟨h2, h3⟩ := h1.rep hv
      have hk' : Known C (r.map (CallR.rep c.g c.as R.i.length c.ks.length)) := fun q hq => by
        obtain ⟨q', hq', rfl⟩ := List.mem_map.1 hq
        exact hk q' (List.mem_cons_of_mem _ hq')
      obtain ⟨R', S', ps', d', e1, e2, e3, e4, ep, e5⟩ := callsT_sound hΦ f _ _ _ _ (d.push ys) hd hk' hR' h2 ht
      refine ⟨R', S', ps', d', e1, e2, e3, h3.trans e4, ep.trans ?_, e5⟩
      rw [List.map_map]
      refine List.map_congr_left fun e he => ?_
      show (E.rep c.g c.as R.i.length c.ks.length e).den (d.push ys).Φ (d.push ys).ρ = e.den d.Φ d.ρ
      rw [E.den_rep hv e]
      exact E.den_push hn e (List.all_eq_true.1 cps e he)

theorem callsT_env {fin : Bds → List E → St → T} (hΦ : ∀ g s, sigOf C.sigs g = some s → ∀ xs ls, allHas ((resKds s).map Kd.iv) (norm (resKds s).length (Φ g xs ls).1)) :
    ∀ (f : Nat) (cs : List CallR) (ps : List E) (R : Bds) (S : St) (d : Dn), d.Φ = Φ → Known C cs → RV d.Φ R d.ρ → (callsT fin f cs ps R S).holds d.Φ Pr d.ρ K →
      ∃ (R' : Bds) (S' : St) (ps' : List E) (d' : Dn), d'.Φ = d.Φ ∧ RV d'.Φ R' d'.ρ ∧ ps'.map (E.den d'.Φ d'.ρ) = ps.map (E.den d.Φ d.ρ) ∧ (fin R' ps' S').holds d'.Φ Pr d'.ρ K
  | 0, _, _, _, _, _, _, _, _, ht => ht.elim
  | f + 1, [], ps, R, S, d, _, _, hR, ht => ⟨R, S, ps, d, rfl, hR, rfl, ht⟩
  | f + 1, c :: r, ps, R, S, d, hd, hk, hR, ht => by
    simp only [callsT] at ht
    cases c1 : (c.as.sc R.i.length R.l.length && (scAll R S && ps.all (·.sc R.i.length R.l.length))) <;> simp only [c1, cond_false, cond_true] at ht
    · exact ht.elim
    · simp only [Bool.and_eq_true, scAll] at c1
      obtain ⟨c11, ⟨c12, c13⟩, cps⟩ := c1
      have c1 : c.as.sc R.i.length R.l.length = true ∧ (S.sc R.i.length R.l.length = true ∧ R.p.all (fun q => q.1.sc R.i.length R.l.length) = true) := ⟨c11, c12, c13⟩
      simp only [T.holds] at ht
      obtain ⟨s, hs, hks⟩ := hk c List.mem_cons_self
      have hn : R.i.length ≤ d.ρ.i.length := by rw [hR.li]; exact Nat.le_refl _
      let ys := norm c.ks.length (d.Φ c.g (c.as.denE d.Φ d.ρ) (c.as.denL d.Φ d.ρ)).1
      have hR' : RV d.Φ (R.push (c.ks.map Kd.iv)) (d.ρ.pushI ys) := hR.push (by subst hd; rw [hks]; show allHas _ (norm c.ks.length _); rw [hks]; exact hΦ c.g s hs _ _) c1.2.2
      have hv : ∀ j, j < c.ks.length → (d.push ys).ρ.i.getD (R.i.length + j) 0 = ((d.push ys).Φ c.g (c.as.denE (d.push ys).Φ (d.push ys).ρ) (c.as.denL (d.push ys).Φ (d.push ys).ρ)).1.getD j 0 := fun j hj => by
        have e1 : c.as.denE (d.push ys).Φ (d.push ys).ρ = c.as.denE d.Φ d.ρ := AS.denE_push hn _ c1.1
        have e2 : c.as.denL (d.push ys).Φ (d.push ys).ρ = c.as.denL d.Φ d.ρ := AS.denL_push hn _ c1.1
        rw [e1, e2]
        show _ = (d.Φ c.g (c.as.denE d.Φ d.ρ) (c.as.denL d.Φ d.ρ)).1.getD j 0
        rw [← norm_getD c.ks.length _ j hj]
        have := getD_append_right (xs := d.ρ.i) (ys := ys) (n := j)
        rw [hR.li] at this
        exact this
      have hk' : Known C (r.map (CallR.rep c.g c.as R.i.length c.ks.length)) := fun q hq => by
        obtain ⟨q', hq', rfl⟩ := List.mem_map.1 hq
        exact hk q' (List.mem_cons_of_mem _ hq')
      obtain ⟨R', S', ps', d', e1, e2, ep, e5⟩ := callsT_env hΦ f _ _ _ _ (d.push ys) hd hk' hR' ht
      refine ⟨R', S', ps', d', e1, e2, ep.trans ?_, e5⟩
      rw [List.map_map]
      refine List.map_congr_left fun e he => ?_
      show (E.rep c.g c.as R.i.length c.ks.length e).den (d.push ys).Φ (d.push ys).ρ = e.den d.Φ d.ρ
      rw [E.den_rep hv e]
      exact E.den_push hn e (List.all_eq_true.1 cps e he)

/-- The codes: all are 0, or the first one that is not ends it. -/
theorem panT_holds {pty : TypeId} {k : Bds → T} {d : Dn} : ∀ (ps : List E) (R : Bds) (S : St), RV d.Φ R d.ρ → (panT pty k ps R S).holds d.Φ Pr d.ρ K →
    ((∀ e ∈ ps, e.den d.Φ d.ρ = 0) ∧ ∃ R', RV d.Φ R' d.ρ ∧ (k R').holds d.Φ Pr d.ρ K) ∨
    (∃ p1 e p2 R', ps = p1 ++ e :: p2 ∧ (∀ e' ∈ p1, e'.den d.Φ d.ρ = 0) ∧ e.den d.Φ d.ρ ≠ 0 ∧ RV d.Φ R' d.ρ ∧ K (.pan pty e) R' S d.ρ)
  | [], R, S, hR, ht => .inl ⟨fun e he => (by cases he), R, hR, ht⟩
  | e :: r, R, S, hR, ht => by
    simp only [panT] at ht
    rcases askT_holds hR ht with ⟨hb, R', hR', _, ht⟩ | ⟨hb, R', hR', _, ht⟩
    · have hb : e.den d.Φ d.ρ = 0 := of_decide_eq_true hb
      rcases panT_holds r R' S hR' ht with ⟨h1, h2⟩ | ⟨p1, e', p2, R2, h1, h2, h3⟩
      · refine .inl ⟨fun x hx => ?_, h2⟩
        cases hx with
        | head => exact hb
        | tail _ hx => exact h1 x hx
      · refine .inr ⟨e :: p1, e', p2, R2, by rw [h1]; rfl, fun x hx => ?_, h3⟩
        cases hx with
        | head => exact hb
        | tail _ hx => exact h2 x hx
    · have hb : ¬ e.den d.Φ d.ρ = 0 := of_decide_eq_false hb
      exact .inr ⟨[], e, r, R', rfl, fun x hx => (by cases hx), hb, hR', ht⟩

end
end Go.Proofs.YtelfpnkhdaaeoaaDoor.Sx
