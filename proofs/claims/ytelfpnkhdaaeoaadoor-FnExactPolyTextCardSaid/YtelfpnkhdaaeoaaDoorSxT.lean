/-
  The symbolic executor: functions that return a copy of their argument.
-/
import Derived.Test.YtelfpnkhdaaeoaaDoorSxR
namespace Go.Proofs.YtelfpnkhdaaeoaaDoor.Sx
open Go Go.RowKit

/-- All leaves of a tree with nothing to ask. -/
def T.allLeaf (chk : Ex → St → Bool) : T → Bool
  | .leaf x _ S => chk x S
  | .ite _ t e => t.allLeaf chk && e.allLeaf chk
  | .bind _ t => t.allLeaf chk
  | _ => false
theorem T.allLeaf_holds {Φ : Fns} {Pr : Pres} {chk : Ex → St → Bool} : ∀ (t : T) (ρ : Env), t.allLeaf chk = true → t.holds Φ Pr ρ fun x _ S _ => chk x S = true
  | .leaf _ _ _, _, h => h
  | .ite _ t e, ρ, h => by
    simp only [T.allLeaf, Bool.and_eq_true] at h
    exact ⟨fun _ => T.allLeaf_holds t ρ h.1, fun _ => T.allLeaf_holds e ρ h.2⟩
  | .bind _ t, _, h => T.allLeaf_holds t _ h
  | .fail _, _, h => by cases h
  | .need _ _, _, h => by cases h
  | .call _ _ _ _, _, h => by cases h
  | .calll _ _ _ _ _, _, h => by cases h
  | .again _ _ _ _ _ _, _, h => by cases h
  | .loop _ _ _ _ _ _, _, h => by cases h

/-- Slices that are whole new blocks, which hold the lists from number m on; their blocks are not among those. -/
def cpCs (S : St) (m : Nat) : List Nat → List (List EK) → List TypeId → List Cell → Bool
  | _, [], [], [] => true
  | seen, ks :: kss, ty :: tys, c :: cs => (match c with
    | .sl id s off len => (match getH S.heap id with
      | some r => r.own && (Nat.beq r.ty ty && (match r.tl with
        | some (ks', l) => decide (ks' = ks) && (l.eqb (.var m) && (Nat.beq s ks.length && (off.eqb (.lit 0) && len.eqb (nelE (.var m) ks.length))))
        | none => false)) && !memN id seen
      | none => false) && cpCs S (m + 1) (id :: seen) kss tys cs
    | _ => false)
  | _, _, _, _ => false

def cpChk (P : Program) (fn : Func) (p : PSh) (tys : List TypeId) (x : Ex) (S : St) : Bool := (match x with
  | .normal | .ret => true
  | _ => false) && match resVars P S fn.results.toList with
    | some [v] => match p, v with
      | .lst ks, .one c => cpCs S 0 [] [ks] tys [c]
      | .lsts kss, .agg cs => cpCs S 0 [] kss tys cs
      | _, _ => false
    | _ => false

theorem cpCs_spec {X : Ctx} {d : Dn} {S : St} {a : Act} {w w' : World} (h : Sat X d S a w') (hx0 : ∀ b, ¬ X.own0 b) (hw : w.heap.size ≤ X.w0.heap.size) : ∀ (kss : List (List EK)) (tys : List TypeId) (cs : List Cell) (m : Nat) (seen : List Nat), cpCs S m seen kss tys cs = true →
    ∃ ids : List Nat, FreshAll w.heap.size w' kss tys ((List.range kss.length).map fun i => d.ρ.l.getD (m + i) []) (cs.map (Cell.den d)) (ids.map fun i => (d.α i).1) ∧ (∀ i ∈ ids, i ∉ seen ∧ ∃ r, getH S.heap i = some r ∧ r.own = true)
  | [], [], [], m, seen, _ => ⟨[], trivial, fun i hi => by cases hi⟩
  | ks :: kss, ty :: tys, c :: cs, m, seen, hc => by
    simp only [cpCs] at hc
    split at hc
    · rename_i id s off len
      simp only [Bool.and_eq_true] at hc
      obtain ⟨h1, h2⟩ := hc
      split at h1
      · rename_i r hr
        simp only [Bool.and_eq_true] at h1
        obtain ⟨⟨ho, hty, h3⟩, hs⟩ := h1
        split at h3
        · rename_i ks' l htl
          simp only [Bool.and_eq_true, decide_eq_true_eq] at h3
          obtain ⟨e1, e2, e3, e4, e5⟩ := h3
          have e2 := L.eqb_eq _ _ e2
          have e3 := Nat.eq_of_beq_eq_true e3
          have e4 := E.eqb_eq _ _ e4
          have e5 := E.eqb_eq _ _ e5
          have hty := Nat.eq_of_beq_eq_true hty
          subst e1 e2 e3 e4 e5 hty
          obtain ⟨ids, i1, i2⟩ := cpCs_spec h hx0 hw kss tys cs (m + 1) (id :: seen) h2
          have hreg := h.hp.reg _ _ hr
          have hat := hreg.at ho
          unfold RegIs at hreg
          rw [htl] at hreg
          obtain ⟨_, q1, q2, q3⟩ := hreg
          rw [if_pos ho] at q3
          obtain ⟨q3, q4, q5⟩ := q3
          have hnat : (nelE (.var m) ks'.length).den d.Φ d.ρ = (((d.ρ.l.getD m []).length / ks'.length : Nat) : Int) := nelE_nat (.var m) ks'.length
          refine ⟨id :: ids, ?_, fun i hi => ?_⟩
          · rw [List.length_cons, List.range_succ_eq_map]
            simp only [List.map_cons, List.map_map]
            obtain ⟨rest, e, q5, q6, q7⟩ := q5
            refine ⟨⟨hat.1.elim (Nat.le_trans hw) fun h => (hx0 _ h).elim, q1, rest, e, ?_, q5, q7⟩, fun b hb => ?_, ?_⟩
            · simp only [Cell.den, hnat, Int.toNat_natCast, q3, q6, E.den]
              simp
            · obtain ⟨j, hj, rfl⟩ := List.mem_map.1 hb
              obtain ⟨k1, r', k2, k3⟩ := i2 j hj
              exact h.hp.sep j id r' r k2 hr k3 ho (fun e => k1 (by rw [e]; exact List.mem_cons_self))
            · have : (fun i => d.ρ.l.getD (m + i) []) ∘ Nat.succ = fun i => d.ρ.l.getD (m + 1 + i) [] := by
                funext i
                simp only [Function.comp]
                rw [show m + i.succ = m + 1 + i by omega]
              rw [this]; exact i1
          · cases hi with
            | head => exact ⟨fun hm => (by rw [memN_iff.2 hm] at hs; cases hs), r, hr, ho⟩
            | tail _ hi =>
              obtain ⟨k1, k2⟩ := i2 i hi
              exact ⟨fun hm => k1 (List.mem_cons_of_mem _ hm), k2⟩
        · cases h3
      · cases h1
    · cases hc
  | [], _ :: _, _, _, _, h => by simp [cpCs] at h
  | [], [], _ :: _, _, _, h => by simp [cpCs] at h
  | _ :: _, [], _, _, _, h => by simp [cpCs] at h
  | _ :: _, _ :: _, [], _, _, h => by simp [cpCs] at h


theorem allL_len1 {p : PSh} {ls : List (List Int)} (h : allL (cpLvs p) ls) : ls.length = p.lss.length := by
  rw [← allL_length h]
  simp [cpLvs]

/-- WHAT A COPYING FUNCTION DOES, from its tree. -/
theorem cp_exec {F : Fn} {fuel g : Nat} {fn : Func} {c : Code} {p : PSh} {tys : List TypeId} (hm : F.C.P.follows .mixedOrders = true) (hs : F.C.sigs = []) (hk : CpAll F.C.P F.C.cps)
    (hf : F.C.P.funcs[g]? = some fn) (hc : fn.body = some c) (hp : p.ks = [])
    (h : (exec F fuel c ⟨[], cpLvs p, [], []⟩ ⟨parSVs 0 0 0 [p] ++ List.replicate (fn.ntmps - (parSVs 0 0 0 [p]).length) .undef, parRegs 0 0 0 [p]⟩).allLeaf (cpChk F.C.P fn p tys) = true) (hl0 : F.C.lfs = [] := by rfl) (hw0 : F.C.wfs = [] := by rfl) (hs0 : F.C.sfs = [] := by rfl) : CTC F.C.P g p tys := by
  intro w xs ls a hl ha
  have hC : CTs F.C (fun _ _ _ => ([], [])) ⟨fun _ _ _ => True, fun _ _ _ => False, fun _ _ _ => 0⟩ := ⟨fun g s h => (by rw [hs] at h; cases h), fun _ _ _ _ _ _ => trivial, hk.of, fun g s h => (by rw [hl0] at h; cases h), fun _ _ _ _ _ _ => trivial, fun g s h => (by rw [hw0] at h; cases h), fun g s h => (by rw [hs0] at h; cases h)⟩
  have hpi : parIvs [p] = [] := by simp [parIvs, hp]
  have ha' : ArgsAre w [] ls 0 0 [p] [a] := by
    cases p with
    | lst ks => exact ha
    | lsts kss => exact ha
    | plsts kss => exact ha
    | mix ks kss =>
      have hp : ks = [] := hp
      subst hp
      exact ha
    | fnc g => exact ha
    | str => exact ha
    | val b ks =>
      have hp : ks = [] := hp
      subst hp
      exact ha
    | ptr ks =>
      have hp : ks = [] := hp
      subst hp
      exact ha
    | slc ks =>
      have hp : ks = [] := hp
      subst hp
      exact ha
  have h2 := T.allLeaf_holds (Φ := fun _ _ _ => ([], [])) (Pr := ⟨fun _ _ _ => True, fun _ _ _ => False, fun _ _ _ => 0⟩) _ (⟨[], ls⟩ : Env) h
  refine exec_calls (ivs := []) (fuel := fuel) hm hC (fun g s h => by rw [hs] at h; cases h) hf hc (xs := []) (by rw [hpi]; trivial) trivial hl ha' (by rw [hs]; exact h2) (fun t e R S ρ h => by simp [cpChk] at h) fun x R S d a' w' _ ⟨zz, hdl⟩ _ h' hx => ?_
  simp only [cpChk, Bool.and_eq_true] at hx
  obtain ⟨hx, hch⟩ := hx
  refine ⟨by cases x <;> simp at hx ⊢, ?_⟩
  split at hch
  · rename_i v hv
    obtain ⟨xs', k1, k2⟩ := results_run h' hv
    obtain ⟨y, rfl, k3⟩ : ∃ y, xs' = [y] ∧ v.is d y := by
      match xs', k2 with
      | [y], k2 => exact ⟨y, rfl, k2.1⟩
      | [], k2 => exact k2.elim
      | _ :: _ :: _, k2 => exact k2.2.elim
    refine ⟨y, k1, ?_⟩
    have ll := allL_len1 hl
    have hls : ∀ n, ls.length = n → (List.range n).map (fun i => d.ρ.l.getD (0 + i) []) = ls := fun n hn => by
      subst hn
      rw [hdl]
      refine List.ext_getElem (by simp) fun i h1 h2 => ?_
      simp only [List.getElem_map, List.getElem_range, Nat.zero_add]
      rw [getL_append_left h2, List.getD_eq_getElem?_getD, List.getElem?_eq_getElem h2]; rfl
    split at hch
    · rename_i ks c'
      obtain ⟨ids, i1, _⟩ := cpCs_spec (w := w) h' (noPin _ _) (Nat.le_refl _) _ _ _ _ _ hch
      rw [show [ks].length = 1 from rfl, hls 1 ll] at i1
      simp only [SV.is] at k3
      exact ⟨y, _, _, rfl, (h'.hp.bl.below (noPin _ _)), i1, by show [_] = [_]; rw [k3]⟩
    · rename_i kss cs
      obtain ⟨ids, i1, _⟩ := cpCs_spec (w := w) h' (noPin _ _) (Nat.le_refl _) _ _ _ _ _ hch
      rw [hls kss.length ll] at i1
      simp only [SV.is] at k3
      exact ⟨y, _, _, rfl, (h'.hp.bl.below (noPin _ _)), i1, k3⟩
    · cases hch
  · cases hch

/-! ### The same, where there is something to ask -/
theorem cpFin_spec {X : Ctx} {d : Dn} {R : Bds} {Pr : Pres} {S : St} {a : Act} {w w' : World} (hR : RV d.Φ R d.ρ) (h : Sat X d S a w') (hx0 : ∀ b, ¬ X.own0 b) (hw : w.heap.size ≤ X.w0.heap.size) : ∀ (kss : List (List EK)) (tys : List TypeId) (cs : List Cell) (seen : List Nat) (os : List O) (as : AS), cpFin R S seen kss tys cs = some (os, as) →
    OsHold d.Φ Pr d.ρ os →
    ∃ ids : List Nat, FreshAll w.heap.size w' kss tys (as.denL d.Φ d.ρ) (cs.map (Cell.den d)) (ids.map fun i => (d.α i).1) ∧ (∀ i ∈ ids, i ∉ seen ∧ ∃ r, getH S.heap i = some r ∧ r.own = true)
  | [], [], [], seen, os, as, hc, _ => by
    simp only [cpFin, Option.some.injEq, Prod.mk.injEq] at hc
    rw [← hc.2]
    exact ⟨[], trivial, fun i hi => by cases hi⟩
  | ks :: kss, ty :: tys, .sl id s off len :: cs, seen, os, as, hc, hos => by
    simp only [cpFin] at hc
    split at hc
    · rename_i r hr
      split at hc
      · rename_i ks' l htl
        cases c : (r.own && (Nat.beq r.ty ty && (decide (ks' = ks) && (Nat.beq s ks.length && (off.eqb (.lit 0) && !memN id seen))))) <;> simp only [c, cond_false, cond_true] at hc
        · cases hc
        · simp only [Option.map_eq_some_iff, Prod.mk.injEq] at hc
          obtain ⟨⟨os1, as1⟩, h2, rfl, rfl⟩ := hc
          simp only [Bool.and_eq_true, decide_eq_true_eq] at c
          obtain ⟨ho, hty, e1, e3, e4, hs⟩ := c
          have e3 := Nat.eq_of_beq_eq_true e3
          have e4 := E.eqb_eq _ _ e4
          have hty := Nat.eq_of_beq_eq_true hty
          subst e1 e3 e4 hty
          have e5 := must_hold (fun q hq => hos q (List.mem_append_left _ hq))
          rw [mkEq_den hR] at e5
          have e5 := of_decide_eq_true e5
          rw [nelE_nat] at e5
          obtain ⟨ids, i1, i2⟩ := cpFin_spec hR h hx0 hw kss tys cs (id :: seen) os1 as1 h2 (fun q hq => hos q (List.mem_append_right _ hq))
          have hreg := h.hp.reg _ _ hr
          have hat := hreg.at ho
          unfold RegIs at hreg
          rw [htl] at hreg
          obtain ⟨_, q1, q2, q3⟩ := hreg
          rw [if_pos ho] at q3
          obtain ⟨q3, q4, rest, e, q5, q6, q7⟩ := q3
          refine ⟨id :: ids, ?_, fun i hi => ?_⟩
          · simp only [List.map_cons, AS.denL]
            refine ⟨⟨hat.1.elim (Nat.le_trans hw) fun h => (hx0 _ h).elim, q1, rest, e, ?_, q5, q7⟩, fun b hb => ?_, i1⟩
            · simp only [Cell.den, e5, Int.toNat_natCast, q3, q6, E.den]
              simp
            · obtain ⟨j, hj, rfl⟩ := List.mem_map.1 hb
              obtain ⟨k1, r', k2, k3⟩ := i2 j hj
              exact h.hp.sep j id r' r k2 hr k3 ho (fun e => k1 (by rw [e]; exact List.mem_cons_self))
          · cases hi with
            | head => exact ⟨fun hm => (by rw [memN_iff.2 hm] at hs; cases hs), r, hr, ho⟩
            | tail _ hi =>
              obtain ⟨k1, k2⟩ := i2 i hi
              exact ⟨fun hm => k1 (List.mem_cons_of_mem _ hm), k2⟩
      · cases hc
    · cases hc
  | [], [], _ :: _, _, _, _, h, _ => by simp [cpFin] at h
  | [], _ :: _, _, _, _, _, h, _ => by simp [cpFin] at h
  | _ :: _, [], _, _, _, _, h, _ => by simp [cpFin] at h
  | _ :: _, _ :: _, [], _, _, _, h, _ => by simp [cpFin] at h
  | _ :: _, _ :: _, .int _ _ :: _, _, _, _, h, _ => by simp [cpFin] at h
  | _ :: _, _ :: _, .bool _ :: _, _, _, _, h, _ => by simp [cpFin] at h
  | _ :: _, _ :: _, .ptr _ _ :: _, _, _, _, h, _ => by simp [cpFin] at h
  | _ :: _, _ :: _, .ptrx _ _ _ _ _ :: _, _, _, _, h, _ => by simp [cpFin] at h
  | _ :: _, _ :: _, .nilp :: _, _, _, _, h, _ => by simp [cpFin] at h
  | _ :: _, _ :: _, .nilf :: _, _, _, _, h, _ => by simp [cpFin] at h
  | _ :: _, _ :: _, .nils :: _, _, _, _, h, _ => by simp [cpFin] at h
  | _ :: _, _ :: _, .fn _ :: _, _, _, _, h, _ => by simp [cpFin] at h
  | _ :: _, _ :: _, .str _ :: _, _, _, _, h, _ => by simp [cpFin] at h
  | _ :: _, _ :: _, .slc _ _ _ _ :: _, _, _, _, h, _ => by simp [cpFin] at h
  | _ :: _, _ :: _, .lp _ _ _ _ :: _, _, _, _, h, _ => by simp [cpFin] at h

theorem slices_kinds {w : World} {ls : List (List Int)} : ∀ {kss : List (List EK)} {vs : List Value} {m : Nat}, SlicesAre w ls m kss vs → ∀ i ks, kss[i]? = some ks → Kinds ks (ls.getD (m + i) [])
  | [], _, _, _, i, ks, hi => by simp at hi
  | k :: r, vs, m, h, 0, ks, hi => by
    obtain ⟨v, rest, _, hs, _⟩ := h
    simp only [List.getElem?_cons_zero, Option.some.injEq] at hi
    subst hi
    obtain ⟨_, _, _, _, _, hk, _⟩ := hs
    exact hk
  | k :: r, vs, m, h, i + 1, ks, hi => by
    obtain ⟨v, rest, _, _, hr⟩ := h
    have := slices_kinds hr i ks (by simpa using hi)
    rwa [show m + 1 + i = m + (i + 1) by omega] at this
theorem args_kinds {w : World} {xs : List Int} {ls : List (List Int)} {p : PSh} {a : Value} (h : ArgsAre w xs ls 0 0 [p] [a]) : ∀ i ks, p.lss[i]? = some ks → Kinds ks (ls.getD i []) := fun i ks hi => by
  cases p with
  | lst k =>
    obtain ⟨v, rest, _, hs, _⟩ := h
    obtain ⟨_, _, _, _, _, hk, _⟩ := hs
    simp only [PSh.lss] at hi
    cases i with
    | zero => simp only [List.getElem?_cons_zero, Option.some.injEq] at hi; subst hi; exact hk
    | succ i => simp at hi
  | lsts kss =>
    obtain ⟨vs, rest, _, hs, _⟩ := h
    have := slices_kinds hs i ks hi
    rwa [Nat.zero_add] at this
  | mix k kss =>
    obtain ⟨vs, rest, _, hs, _⟩ := h
    have := slices_kinds hs i ks hi
    rwa [Nat.zero_add] at this
  | plsts kss =>
    obtain ⟨b, o, vs, rest, _, _, _, hs, _⟩ := h
    have := slices_kinds hs i ks hi
    rwa [Nat.zero_add] at this
  | fnc g => simp [PSh.lss] at hi
  | str =>
    obtain ⟨rest, _, hb, _⟩ := h
    simp only [PSh.lss] at hi
    cases i with
    | zero =>
      simp only [List.getElem?_cons_zero, Option.some.injEq] at hi
      subst hi
      exact kinds_one fun x hx => hb x hx
    | succ i => simp at hi
  | val b k => simp [PSh.lss] at hi
  | ptr k => simp [PSh.lss] at hi
  | slc k => simp [PSh.lss] at hi
/-- WHAT A COPYING FUNCTION DOES, from what is asked of its lists. -/
theorem Tab.ctc {T : Tab} {F : Fn} {fuel g : Nat} {fn : Func} {p : PSh} {tys : List TypeId} {v : VC} {pre : Nat → List Int → List (List Int) → Prop} (hv : vcCp F fuel fn p tys = v) (hm : F.C.P.follows .mixedOrders = true)
    (hs : SubSig T F.C.sigs) (ht : TotG pre F.C.sigs) (hC : CtAll F.C.P T.fns (presQ pre) F.C.pfs F.C.pty F.C.cls F.C.sigs) (hk : CpAll F.C.P F.C.cps) (hf : F.C.P.funcs[g]? = some fn) (hp : p.ks = [])
    (inv : Nat → Env → Env → Prop) (mu : Nat → Env → Env → Nat)
    (h : ∀ ls, allL (cpLvs p) ls → (∀ i ks, p.lss[i]? = some ks → Kinds ks (ls.getD i [])) → v.plain T (presG pre inv mu) (fun _ l => l = ls) ⟨[], ls⟩)
    (hlf : LfAll F.C.P T.fns (presQ pre) F.C.lfs := by trivial) (hwf : WfAll F.C.P T.fns (presQ pre) F.C.wfs := by trivial) (hsf : SfAll F.C.P T.fns (presQ pre) F.C.sfs := by trivial) : CTC F.C.P g p tys := by
  intro w xs ls a hl ha
  subst hv
  have hC' : CTs F.C T.fns (presG pre inv mu) := ⟨hC.presG.of, fun g s h1 h2 xs ls => ht.of g s h1 h2 xs ls, hk.of, fun g s h => (hlf.presG.of g s h).1, fun g s h => (hlf.presG.of g s h).2, hwf.presG.of, hsf.presG.of⟩
  have hpi : parIvs [p] = [] := by simp [parIvs, hp]
  have ha' : ArgsAre w [] ls 0 0 [p] [a] := by
    cases p with
    | lst ks => exact ha
    | lsts kss => exact ha
    | plsts kss => exact ha
    | mix ks kss =>
      have hp : ks = [] := hp
      subst hp
      exact ha
    | fnc g => exact ha
    | str => exact ha
    | val b ks =>
      have hp : ks = [] := hp
      subst hp
      exact ha
    | ptr ks =>
      have hp : ks = [] := hp
      subst hp
      exact ha
    | slc ks =>
      have hp : ks = [] := hp
      subst hp
      exact ha
  have h2 := plain_holds _ _ (h ls hl (args_kinds ha'))
  unfold vcCp at h2
  split at h2
  · rename_i c hc
    refine exec_calls (ivs := []) (fuel := fuel) hm hC' (T.bounded hs.of) hf hc (xs := []) (by rw [hpi]; trivial) trivial hl ha' (vc_holds _ _ h2) (fun _ _ _ _ _ h => h) fun x R S d a' w' hd' _ hR' h' hx => ?_
    have key : x = .normal ∨ x = .ret → (x = .normal ∨ x = .ret) ∧ ∃ v, (results fn a'.tmps).run F.C.P w' = .ok v w' ∧ ∃ v' vs bs, Ending.returned v = Ending.returned v' ∧ Below w.heap.size w w' ∧ FreshAll w.heap.size w' p.lss tys ls vs bs ∧ cpShape p v' vs := by
      intro hx'
      refine ⟨hx', ?_⟩
      have e : finCp F.C.P fn p tys x R S = match resVars F.C.P S fn.results.toList with
        | some [v] => match cpCells1 p v with
          | some cs => match cpFin R S [] p.lss tys cs with
            | some (os, as) => .need os (.fin as)
            | none => .fail 2101
          | none => .fail 2103
        | _ => .fail 2102 := by rcases hx' with rfl | rfl <;> rfl
      rw [e] at hx
      split at hx
      · rename_i v hv
        split at hx
        · rename_i cs hcs
          split at hx
          · rename_i os as hfin
            obtain ⟨hos, hls⟩ := hx
            simp only [VC.holds] at hls
            rw [← hd'] at hos hls
            obtain ⟨xs', k1, k2⟩ := results_run h' hv
            obtain ⟨y, rfl, k3⟩ : ∃ y, xs' = [y] ∧ v.is d y := by
              match xs', k2 with
              | [y], k2 => exact ⟨y, rfl, k2.1⟩
              | [], k2 => exact k2.elim
              | _ :: _ :: _, k2 => exact k2.2.elim
            have hcell : ∀ c ∈ cs, True := fun _ _ => trivial
            refine ⟨y, k1, ?_⟩
            unfold cpCells1 at hcs
            split at hcs
            · rename_i ks c'
              cases hcs
              obtain ⟨ids, i1, _⟩ := cpFin_spec (w := w) hR' h' (noPin _ _) (Nat.le_refl _) _ _ _ _ _ _ hfin hos
              rw [hls] at i1
              simp only [SV.is] at k3
              exact ⟨y, _, _, rfl, (h'.hp.bl.below (noPin _ _)), i1, by show [_] = [_]; rw [k3]⟩
            · rename_i kss cs'
              cases hcs
              obtain ⟨ids, i1, _⟩ := cpFin_spec (w := w) hR' h' (noPin _ _) (Nat.le_refl _) _ _ _ _ _ _ hfin hos
              rw [hls] at i1
              simp only [SV.is] at k3
              exact ⟨y, _, _, rfl, (h'.hp.bl.below (noPin _ _)), i1, k3⟩
            · cases hcs
          · exact hx.elim
        · exact hx.elim
      · exact hx.elim
    cases x with
    | normal => exact key (.inl rfl)
    | ret => exact key (.inr rfl)
    | exit id => exact hx.elim
    | goto l => exact hx.elim
    | pan t e => exact hx.elim
  · exact h2.elim

end Go.Proofs.YtelfpnkhdaaeoaaDoor.Sx
