/-
  The symbolic executor: functions that write into a slice.
-/
import Derived.Test.YtelfpnkhdaaeoaaDoorSxW
namespace Go.Proofs.YtelfpnkhdaaeoaaDoor.Sx
open Go Go.RowKit

section
variable {C : Cfg} {R : Bds} {X : Ctx} {d : Dn} {w : World} {S : St} {a : Act} {Pr : Pres} {Φ : Fns}

/-- A run from a state. -/
theorem exec_from {F : Fn} {ivs : List Iv} {lvs : List (Iv × Int)} {fuel g : Nat} {fn : Func} {c : Code} (hm : F.C.P.follows .mixedOrders = true) (hC : CTs F.C Φ Pr)
    (hΦ : ∀ g s, sigOf F.C.sigs g = some s → ∀ xs ls, allHas ((resKds s).map Kd.iv) (norm (resKds s).length (Φ g xs ls).1))
    (hf : F.C.P.funcs[g]? = some fn) (hc : fn.body = some c) {args : List Value} {d : Dn} (hd : d.Φ = Φ) (hi : allHas ivs d.ρ.i) (hxl : allL lvs d.ρ.l) {S0 : St}
    (hS : Sat X d S0 { tmps := args.toArray ++ Array.replicate (fn.ntmps - args.toArray.size) undef, defers := [] } w)
    {K : Ex → Bds → St → Env → Prop} {Q : Ending → World → Prop}
    (h : (exec F fuel c ⟨ivs, lvs, F.C.sigs.map fun p => (p.1, resKds p.2), []⟩ S0).holds Φ Pr d.ρ K)
    (hnp : ∀ t e R S ρ, K (.pan t e) R S ρ → False) (hK : ∀ (x : Ex) R S (d' : Dn) a w', d'.Φ = Φ → (∃ zs, d'.ρ.l = d.ρ.l ++ zs) → RV d'.Φ R d'.ρ → Sat X d' S a w' → K x R S d'.ρ → (x = .normal ∨ x = .ret) ∧ ∃ v, (results fn a.tmps).run F.C.P w' = .ok v w' ∧ Q (.returned v) w') :
    Calls F.C.P g args.toArray w Q := by
  subst hd
  refine calls_of_wp hf hc ?_
  have hRV : RV d.Φ ⟨ivs, lvs, F.C.sigs.map fun p => (p.1, resKds p.2), []⟩ d.ρ :=
    ⟨(allHas_length hi).symm, (allL_length hxl).symm, fun n iv hn => allHas_get hi n iv hn, fun n p hn => allL_get hxl n p hn, fun k j iv hk xs ls => by
      have hne : Bds.fn.go k (F.C.sigs.map fun p => (p.1, resKds p.2)) ≠ [] := fun e => by
        unfold Bds.fn at hk
        simp only [e] at hk
        cases j <;> cases hk
      obtain ⟨s', h1, h2⟩ := fn_sigs rfl hne
      unfold Bds.fn at hk
      simp only [h2] at hk
      rw [kds_ivs] at hk
      have := allHas_get (hΦ k s' h1 xs ls) j iv hk
      rwa [norm_getD _ _ _ (by simpa using ivs_lt _ _ _ hk)] at this, fun q hq => by cases hq⟩
  refine (exec_sound (X := X) hm hC hΦ fuel c _ _ ?_ _ S0 d _ w rfl hRV hS (holds_ext _ _ h)).wp
  intro x R S d' a' w' hd' hR' hS' ⟨ht, ys, zs, hz⟩
  have key : Sat X d' S a' w' → bodyPost F.C.P fn Q (x.out d') a' w' := fun h' => by
    obtain ⟨hx, hr⟩ := hK x R S d' a' w' hd' ⟨zs, by rw [hz]; rfl⟩ hR' h' ht
    rcases hx with rfl | rfl
    · exact ⟨h'.df, hr⟩
    · exact ⟨h'.df, hr⟩
  cases x with
  | pan t e => exact (hnp t e R S d'.ρ ht).elim
  | normal => exact key hS'
  | ret => exact key hS'
  | exit id => exact key hS'
  | goto l => exact key hS'

theorem WSig.sv_is (s : WSig) {c : Cell} {v : Value} (h : c.den d = v) : (s.sv c).is d (s.arg v) := by
  unfold WSig.sv WSig.arg
  cases s.agg
  · exact h.symm
  · simp [SV.is, h]
theorem WSig.sv_ok (s : WSig) {c : Cell} {hp : List (Option Reg)} (h : c.ok d hp) : (s.sv c).ok d hp := by
  unfold WSig.sv
  cases s.agg
  · exact h
  · intro c' hc
    rw [List.mem_singleton.1 hc]
    exact h
/-- Numbers as arguments. -/
theorem vals_is {xs : List Int} (hρ : d.ρ.i = xs) {id m : Nat} : ∀ (ns : List Kd) (j : Nat) (args : List Value), j + ns.length ≤ xs.length → ArgsAre w xs [] j 0 (ns.map fun k => PSh.val false [k]) args →
    args.length = ns.length ∧ (parSVs j id m (ns.map fun k => PSh.val false [k])).length = ns.length ∧ ∀ t, (getT (parSVs j id m (ns.map fun k => PSh.val false [k])) t).is d (args.getD t undef) ∧ ∀ hp, (getT (parSVs j id m (ns.map fun k => PSh.val false [k])) t).ok d hp
  | [], j, args, _, h => by
    have h : args = [] := h
    subst h
    refine ⟨rfl, rfl, fun t => ?_⟩
    simp only [List.map_nil, parSVs, getT_nil]
    exact ⟨undef_is d, fun hp => undef_ok d hp⟩
  | k :: ns, j, args, hl, h => by
    obtain ⟨rest, rfl, _, h2⟩ := h
    simp only [List.length_cons] at hl
    obtain ⟨i1, i2, i3⟩ := vals_is (id := id) (m := m) hρ ns (j + 1) rest (by omega) h2
    have hv : (varCells (0 + j) [k]).map (Cell.den d) = kdVals xs j [k] := varCells_den (n := 0) (N := xs.length) (fun q hq => by rw [hρ, Nat.zero_add]) [k] j (by simp; omega)
    rw [Nat.zero_add] at hv
    have hone : ∃ c, varCells j [k] = [c] := by cases k <;> exact ⟨_, rfl⟩
    obtain ⟨c, hc⟩ := hone
    have e : parSVs j id m ((k :: ns).map fun k => PSh.val false [k]) = .one c :: parSVs (j + 1) id m (ns.map fun k => PSh.val false [k]) := by
      simp only [List.map_cons, parSVs, hc, List.length_singleton]
    have hk : kdVals xs j [k] = [c.den d] := by rw [← hv, hc]; rfl
    refine ⟨by simp [i1], by rw [e]; simp [i2], fun t => ?_⟩
    rw [e]
    cases t with
    | zero =>
      refine ⟨?_, fun hp => ?_⟩
      · show (SV.one c).is d (compVal false (kdVals xs j [k]))
        rw [hk]; rfl
      · exact Cell.plain_ok (varCells_plain [k] j c (by rw [hc]; exact List.mem_singleton.2 rfl))
    | succ t => exact i3 t
theorem wparams_ivs (s : WSig) : (parIvs s.params).length = s.nums.length := by
  simp only [WSig.params, parIvs]
  generalize s.nums = ns
  induction ns with
  | nil => rfl
  | cons k r ih => simp only [List.map_cons, List.flatMap_cons, List.length_append, ih, List.length_cons]; simp only [PSh.ks, List.map_cons, List.map_nil, List.length_cons, List.length_nil]; omega
theorem tmps_getD {args : List Value} {n t : Nat} : (args.toArray ++ Array.replicate (n - args.toArray.size) undef).getD t undef = args.getD t undef := by
  simp only [Array.getD_eq_getD_getElem?, List.getD_eq_getElem?_getD, Array.getElem?_append, List.size_toArray, Array.getElem?_replicate, List.getElem?_toArray]
  split
  · rfl
  · rename_i hn
    rw [List.getElem?_eq_none (by omega)]
    split <;> rfl
end

/-- WHAT A FUNCTION THAT WRITES INTO A SLICE DOES, from two plain sentences: of a slice, and of a nil slice. -/
theorem Tab.ctw {T : Tab} {F : Fn} {ivs : List Iv} {fuel g : Nat} {fn : Func} {s : WSig} {vo vn : VC} {pre : Nat → List Int → List (List Int) → Prop} (hvo : vcWf F ivs fuel fn s true = vo) (hvn : vcWf F ivs fuel fn s false = vn) (hm : F.C.P.follows .mixedOrders = true)
    (hs : SubSig T F.C.sigs) (ht : TotG pre F.C.sigs) (hC : CtAll F.C.P T.fns (presQ pre) F.C.pfs F.C.pty F.C.cls F.C.sigs) (hk : CpAll F.C.P F.C.cps) (hf : F.C.P.funcs[g]? = some fn)
    (inv : Nat → Env → Env → Prop) (mu : Nat → Env → Env → Nat) (hi : ∀ xs ls, allHas (parIvs s.params) xs → pre g xs ls → allHas ivs xs)
    (ho : ∀ xs l, allHas ivs xs → allL [s.lv] [l] → pre g xs [l] → vo.plain T (presG pre inv mu) (fun ys zs => T.fns g xs [l] = (ys, zs)) ⟨xs, [l]⟩)
    (hn : ∀ xs, allHas ivs xs → pre g xs [[]] → vn.plain T (presG pre inv mu) (fun ys zs => T.fns g xs [[]] = (ys, zs)) ⟨xs, []⟩)
    (hlf : LfAll F.C.P T.fns (presQ pre) F.C.lfs := by trivial) (hwf : WfAll F.C.P T.fns (presQ pre) F.C.wfs := by trivial) (hsf : SfAll F.C.P T.fns (presQ pre) F.C.sfs := by trivial) (hvia : s.via = none := by rfl) : CTW F.C.P T.fns (presQ pre) g s := by
  unfold CTW
  rw [hvia]
  intro w xs l v args hx hl ha hp
  have hC' : CTs F.C T.fns (presG pre inv mu) := ⟨hC.presG.of, fun g s h1 h2 xs ls => ht.of g s h1 h2 xs ls, hk.of, fun g s h => (hlf.presG.of g s h).1, fun g s h => (hlf.presG.of g s h).2, hwf.presG.of, hsf.presG.of⟩
  have hI := hi xs [l] hx hp
  have hxl : 0 + s.nums.length ≤ xs.length := by
    have := allHas_length hx
    rw [wparams_ivs] at this
    omega
  refine ⟨fun hv hl0 => ?_, fun b rest c hv hK hb hcap => ?_⟩
  · subst hv hl0
    have h2 := plain_holds _ _ (hn xs hI hp)
    rw [← hvn] at h2
    unfold vcWf at h2
    split at h2
    · rename_i cd hcd
      simp only [wfRegs, cond_false] at h2
      let d : Dn := ⟨T.fns, ⟨xs, []⟩, fun _ => (0, 0), fun _ => none⟩
      obtain ⟨i1, i2, i3⟩ := vals_is (d := d) (id := 1) (m := 1) rfl s.nums 0 args hxl ha
      have i2 : (parSVs 0 1 1 s.params).length = s.nums.length := i2
      have hS : Sat ⟨F.C.P, w, none⟩ d ⟨wfSVs s false ++ List.replicate (fn.ntmps - (wfSVs s false).length) .undef, []⟩ { tmps := (s.arg (Value.slice none 0 0) :: args).toArray ++ Array.replicate (fn.ntmps - (s.arg (Value.slice none 0 0) :: args).toArray.size) undef, defers := [] } w := by
        refine ⟨rfl, ⟨?_, fun t => ?_, fun t => ?_⟩, ⟨Bl.refl _, fun i r hr => (by rw [getH_nil] at hr; cases hr), fun i j ri rj hi => (by rw [getH_nil] at hi; cases hi), fun i r hr => (by rw [getH_nil] at hr; cases hr), fun _ h => (by cases h)⟩⟩
        · simp only [wfSVs, List.length_append, List.length_replicate, List.length_cons, i2, Array.size_append, List.size_toArray, Array.size_replicate, i1]
        · rw [tmps_getD, getT_append_undef]
          cases t with
          | zero => exact s.sv_is rfl
          | succ t => exact (i3 t).1
        · rw [getT_append_undef]
          cases t with
          | zero => exact s.sv_ok trivial
          | succ t => exact (i3 t).2 _
      refine exec_from (X := ⟨F.C.P, w, none⟩) (d := d) (lvs := []) (ivs := ivs) (fuel := fuel) hm hC' (T.bounded hs.of) hf hcd rfl hI trivial hS (vc_holds _ _ h2) (fun _ _ _ _ _ h => h) fun x R S d' a' w' hd' _ hR' h' hx' => ?_
      have key : x = .normal ∨ x = .ret → (x = .normal ∨ x = .ret) ∧ ∃ v, (results fn a'.tmps).run F.C.P w' = .ok v w' ∧ (WPost s (T.fns g xs [[]]) (.returned v) ∧ Below w.heap.size w w') := by
        intro hxx
        refine ⟨hxx, ?_⟩
        have e : finWf F.C.P fn s false x R S = match resVars F.C.P S fn.results.toList with
          | some vs => match resAS R s.res vs with
            | some as => .fin (as.cat (.l (.lit []) .nil))
            | none => .fail 2304
          | none => .fail 2305 := by rcases hxx with rfl | rfl <;> rfl
        rw [e] at hx'
        split at hx'
        · rename_i vs hvs
          split at hx'
          · rename_i as has
            obtain ⟨xs', k1, k2⟩ := results_run h' hvs
            obtain ⟨j1, j2, j3⟩ := resAS_spec hR' has k2
            refine ⟨_, k1, ?_, h'.hp.bl.below (noPin _ _)⟩
            simp only [VC.holds, AS.denE_cat, AS.denL_cat, AS.denE, AS.denL, List.append_nil] at hx'
            rw [← hd', j1, List.nil_append] at hx'
            rw [hd'] at hx' j2 j3
            rw [hx']
            exact ⟨congrArg (fun l => Ending.returned (oneOr l)) (j3 []), j2, ⟨⟨fun x hx => (by cases hx), by show (0 : Int) ≤ maxLen * (s.ks.length : Int); exact Int.mul_nonneg (by decide) (Int.natCast_nonneg _)⟩, trivial⟩⟩
          · exact hx'.elim
        · exact hx'.elim
      cases x with
      | normal => exact key (.inl rfl)
      | ret => exact key (.inr rfl)
      | exit id => exact hx'.elim
      | goto l => exact hx'.elim
      | pan t e => exact hx'.elim
    · exact h2.elim
  · subst hv
    have h2 := plain_holds _ _ (ho xs l hI hl hp)
    rw [← hvo] at h2
    unfold vcWf at h2
    split at h2
    · rename_i cd hcd
      simp only [wfRegs, cond_true] at h2
      let d : Dn := ⟨T.fns, ⟨xs, [l]⟩, fun _ => (b, 0), fun _ => some c⟩
      obtain ⟨i1, i2, i3⟩ := vals_is (d := d) (id := 1) (m := 1) rfl s.nums 0 args hxl ha
      have i2 : (parSVs 0 1 1 s.params).length = s.nums.length := i2
      have hcell : (Cell.sl 0 s.ks.length (.lit 0) (nelE (.var 0) s.ks.length)).den d = .slice (some ⟨b, 0, none⟩) (l.length / s.ks.length) c := by
        simp only [Cell.den, nelE_nat, L.den, Int.toNat_natCast, E.den]
        simp [d]
      have hS : Sat ⟨F.C.P, w, some (b, c)⟩ d ⟨wfSVs s true ++ List.replicate (fn.ntmps - (wfSVs s true).length) .undef, [some ⟨[], true, s.ty, some (s.ks, .var 0)⟩]⟩ { tmps := (s.arg (Value.slice (some ⟨b, 0, none⟩) (l.length / s.ks.length) c) :: args).toArray ++ Array.replicate (fn.ntmps - (s.arg (Value.slice (some ⟨b, 0, none⟩) (l.length / s.ks.length) c) :: args).toArray.size) undef, defers := [] } w := by
        have one : ∀ i r, getH [some (⟨[], true, s.ty, some (s.ks, .var 0)⟩ : Reg)] i = some r → i = 0 ∧ r = ⟨[], true, s.ty, some (s.ks, .var 0)⟩ := fun i r hr => by
          cases i with
          | zero => cases hr; exact ⟨rfl, rfl⟩
          | succ i => simp only [getH, getH_nil] at hr; cases hr
        refine ⟨rfl, ⟨?_, fun t => ?_, fun t => ?_⟩, ⟨Bl.refl _, fun i r hr => ?_, fun i j ri rj hi hj _ _ hij => ?_, fun i r hr c hc => ?_, fun p hp => ?_⟩⟩
        · simp only [wfSVs, List.length_append, List.length_replicate, List.length_cons, i2, Array.size_append, List.size_toArray, Array.size_replicate, i1]
        · rw [tmps_getD, getT_append_undef]
          cases t with
          | zero => exact s.sv_is hcell
          | succ t => exact (i3 t).1
        · rw [getT_append_undef]
          cases t with
          | zero =>
            refine s.sv_ok ⟨rfl, Int.le_refl _, ?_⟩
            rw [nelE_nat]; exact Int.natCast_nonneg _
          | succ t => exact (i3 t).2 _
        · obtain ⟨rfl, rfl⟩ := one i r hr
          unfold RegIs
          refine ⟨rfl, hK, fun h => (by cases h), ?_⟩
          rw [if_pos rfl]
          exact ⟨rfl, .inr ⟨(b, c), rfl, rfl⟩, rest, c, hb, rfl, hcap⟩
        · exact absurd ((one i ri hi).1.trans (one j rj hj).1.symm) hij
        · rw [(one i r hr).2] at hc; cases hc
        · cases hp; exact ⟨rfl, rfl, rfl⟩
      refine exec_from (X := ⟨F.C.P, w, some (b, c)⟩) (d := d) (lvs := [s.lv]) (ivs := ivs) (fuel := fuel) hm hC' (T.bounded hs.of) hf hcd rfl hI hl hS (vc_holds _ _ h2) (fun _ _ _ _ _ h => h) fun x R S d' a' w' hd' ⟨zz, hz⟩ hR' h' hx' => ?_
      have key : x = .normal ∨ x = .ret → (x = .normal ∨ x = .ret) ∧ ∃ v, (results fn a'.tmps).run F.C.P w' = .ok v w' ∧ (WPost s (T.fns g xs [l]) (.returned v) ∧ Wrote w w' b ∧
          ∃ l' rest', (T.fns g xs [l]).2 = [l'] ∧ Kinds s.ks l' ∧ l'.length = l.length ∧ w'.heap[b]? = some (.cells (numsV s.ks l' ++ rest').toArray s.ty (0, 0)) ∧ l'.length + rest'.length = c * s.ks.length) := by
        intro hxx
        refine ⟨hxx, ?_⟩
        have e : finWf F.C.P fn s true x R S = match resVars F.C.P S fn.results.toList with
          | some vs => match resAS R s.res vs with
            | some as => (match getH S.heap 0 with
                | some r => match r.tl with
                  | some (ks, l) => bif r.own && (Nat.beq r.ty s.ty && decide (ks = s.ks)) then .need (must (mkEq R (.len l) (.len (.var 0)))) (.fin (as.cat (.l l .nil))) else .fail 2301
                  | none => .fail 2302
                | none => .fail 2303)
            | none => .fail 2304
          | none => .fail 2305 := by rcases hxx with rfl | rfl <;> rfl
        rw [e] at hx'
        split at hx'
        · rename_i vs hvs
          split at hx'
          · rename_i as has
            split at hx'
            · rename_i r hr
              split at hx'
              · rename_i ks l' htl
                cases c1 : (r.own && (Nat.beq r.ty s.ty && decide (ks = s.ks))) <;> simp only [c1, cond_false, cond_true] at hx'
                · exact hx'.elim
                simp only [Bool.and_eq_true, decide_eq_true_eq] at c1
                obtain ⟨c1, c2, c3⟩ := c1
                have c2 := Nat.eq_of_beq_eq_true c2
                subst c3
                obtain ⟨hos, hls⟩ := hx'
                obtain ⟨xs', k1, k2⟩ := results_run h' hvs
                obtain ⟨j1, j2, j3⟩ := resAS_spec hR' has k2
                refine ⟨_, k1, ?_⟩
                simp only [VC.holds, AS.denE_cat, AS.denL_cat, AS.denE, AS.denL, List.append_nil] at hls
                rw [← hd'] at hos hls
                have h5 := must_hold hos
                rw [mkEq_den hR'] at h5
                have h5 := of_decide_eq_true h5
                have e0 : d'.ρ.l.getD 0 [] = l := by rw [hz]; rfl
                simp only [E.den, L.den, e0] at h5
                rw [j1, List.nil_append] at hls
                have hreg := h'.hp.reg _ _ hr
                obtain ⟨_, p2, p3⟩ := h'.hp.pin _ rfl
                unfold RegIs at hreg
                rw [htl] at hreg
                obtain ⟨_, q1, _, q2⟩ := hreg
                rw [if_pos c1] at q2
                obtain ⟨_, _, rest', cc, q4, q5, q6⟩ := q2
                rw [p3] at q5
                cases q5
                rw [p2, c2] at q4
                have hlen : (l'.den d'.Φ d'.ρ).length = l.length := by omega
                have hls' : T.fns g xs [l] = (as.denE d'.Φ d'.ρ, [l'.den d'.Φ d'.ρ]) := by rw [← hd']; exact hls
                rw [hls']
                refine ⟨⟨congrArg (fun l => Ending.returned (oneOr l)) (j3 []), j2, ⟨⟨fun x hx => kinds_has q1 x hx, by rw [hlen]; exact hl.1.2⟩, trivial⟩⟩, ⟨h'.hp.bl.os, h'.hp.bl.tape, h'.hp.bl.output, h'.hp.bl.size, fun k hk hkb => h'.hp.bl.block k fun hmn => ?_⟩, _, rest', rfl, q1, hlen, q4, q6⟩
                rcases hmn with hmn | ⟨p, hp1, hp2⟩
                · exact absurd hmn (Nat.not_le.2 hk)
                · cases hp1; exact hkb hp2.symm
              · exact hx'.elim
            · exact hx'.elim
          · exact hx'.elim
        · exact hx'.elim
      cases x with
      | normal => exact key (.inl rfl)
      | ret => exact key (.inr rfl)
      | exit id => exact hx'.elim
      | goto l => exact hx'.elim
      | pan t e => exact hx'.elim
    · exact h2.elim

end Go.Proofs.YtelfpnkhdaaeoaaDoor.Sx
