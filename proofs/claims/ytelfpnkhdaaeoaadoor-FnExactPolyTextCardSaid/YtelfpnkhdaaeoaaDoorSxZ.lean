/-
  The symbolic executor: functions that may panic, from a plain sentence; a piece of code ahead of a part that is walked by hand.
-/
import Derived.Test.YtelfpnkhdaaeoaaDoorSxY
namespace Go.Proofs.YtelfpnkhdaaeoaaDoor.Sx
open Go Go.RowKit

section
variable {C : Cfg} {R : Bds} {X : Ctx} {d : Dn} {w : World} {S : St} {a : Act} {Pr : Pres} {Φ : Fns}

theorem zerosAS_den (Φ : Fns) (ρ : Env) : ∀ n, (zerosAS n).denE Φ ρ = List.replicate n 0 ∧ (zerosAS n).denL Φ ρ = []
  | 0 => ⟨rfl, rfl⟩
  | n + 1 => by
    obtain ⟨h1, h2⟩ := zerosAS_den Φ ρ n
    exact ⟨by simp only [zerosAS, AS.denE, h1, E.den, List.replicate_succ], by simp only [zerosAS, AS.denL, h2]⟩
theorem zeros_has : ∀ ks : List Kd, allHas (ks.map Kd.iv) (List.replicate ks.length 0)
  | [] => trivial
  | k :: ks => ⟨kd_zero k, zeros_has ks⟩
theorem pfOk_kds {s : Sig} (h : pfOk s = true) : resKds s = .i .i64 :: s.res.tail.flatMap (·.2) := by
  unfold pfOk at h
  split at h
  · rename_i r hr
    unfold resKds
    rw [hr]; rfl
  · cases h

/-- WHAT A FUNCTION THAT MAY PANIC DOES, from what is asked of its numbers. -/
theorem vcPf_sound {F : Fn} {pty : TypeId} {ivs : List Iv} {lvs : List (Iv × Int)} {fuel g : Nat} {fn : Func} {s : Sig} (hm : F.C.P.follows .mixedOrders = true) (hC : CTs F.C Φ Pr)
    (hΦ : ∀ g s, sigOf F.C.sigs g = some s → ∀ xs ls, allHas ((resKds s).map Kd.iv) (norm (resKds s).length (Φ g xs ls).1))
    (hf : F.C.P.funcs[g]? = some fn) {xs : List Int} {ls : List (List Int)} {args : List Value} (hx : allHas (parIvs s.params) xs) (hi : allHas ivs xs) (hxl : allL lvs ls) (ha : ArgsAre w xs ls 0 0 s.params args) {post : List Int → List (List Int) → Prop}
    (h : (vcPf F pty ivs lvs fuel fn s).holds Φ Pr post ⟨xs, ls⟩) :
    Calls F.C.P g args.toArray w fun e w' => ∃ ys : List Int, post ys [] ∧ allHas ((resKds s).map Kd.iv) ys ∧ PPost pty s ys e ∧ Below w.heap.size w w' := by
  unfold vcPf at h
  split at h
  · rename_i c hc
    cases hok : pfOk s <;> simp only [hok, cond_false, cond_true] at h
    · exact h.elim
    refine exec_callsX hm hC hΦ hf hc hx hi hxl ha (vc_holds _ _ h) fun x R S d' a' w' hd' _ hR' hS ht => ?_
    have key : ∀ x : Ex, x = .normal ∨ x = .ret → Sat ⟨F.C.P, w, none⟩ d' S a' w' → (finPf F.C.P pty fn s x R S).holds Φ Pr post d'.ρ →
        a'.defers = [] ∧ ∃ v, (results fn a'.tmps).run F.C.P w' = .ok v w' ∧ ∃ ys : List Int, post ys [] ∧ allHas ((resKds s).map Kd.iv) ys ∧ PPost pty s ys (.returned v) ∧ Below w.heap.size w w' := by
      intro x hx h' ht
      refine ⟨h'.df, ?_⟩
      have e : finPf F.C.P pty fn s x R S = match resVars F.C.P S fn.results.toList with
        | some vs => match resAS R s.res.tail vs with
          | some as => .fin (.e (.lit 0) as)
          | none => .fail 2504
        | none => .fail 2505 := by rcases hx with rfl | rfl <;> rfl
      rw [e] at ht
      split at ht
      · rename_i vs hvs
        split at ht
        · rename_i as has
          obtain ⟨vals, k1, k2⟩ := results_run h' hvs
          obtain ⟨j1, j2, j3⟩ := resAS_spec hR' has k2
          have j4 := j3 [0]
          subst hd'
          refine ⟨_, k1, 0 :: as.denE d'.Φ d'.ρ, ?_, ?_, .inl ⟨rfl, ?_⟩, h'.hp.bl.below (noPin _ _)⟩
          · have ht : post (0 :: as.denE d'.Φ d'.ρ) (as.denL d'.Φ d'.ρ) := ht
            rw [j1] at ht; exact ht
          · rw [pfOk_kds hok]; exact ⟨⟨by decide, by decide⟩, j2⟩
          · rw [j4]; rfl
        · exact ht.elim
      · exact ht.elim
    cases x with
    | normal => exact key .normal (.inl rfl) hS ht
    | ret => exact key .ret (.inr rfl) hS ht
    | exit id => exact ht.elim
    | goto l => exact ht.elim
    | pan t e =>
      obtain ⟨hdf, hbl⟩ : a'.defers = [] ∧ Bl ⟨F.C.P, w, none⟩ w' := hS
      have ht2 : (bif Nat.beq t pty then (match e.iv R with
        | some iv => bif iv.sub (kiv .i64) then VC.need (must (mkNot (mkEq R e (.lit 0)))) (.fin (.e e (zerosAS (s.res.tail.flatMap fun p : Bool × List Kd => p.2).length))) else .fail 2501
        | none => .fail 2502) else .fail 2503).holds Φ Pr post d'.ρ := ht
      cases c : Nat.beq t pty
      · rw [c] at ht2; exact ht2.elim
      rw [c, cond_true] at ht2
      clear ht
      have c := Nat.eq_of_beq_eq_true c
      subst c
      split at ht2
      · rename_i iv hiv
        cases c : iv.sub (kiv .i64) <;> simp only [c, cond_false, cond_true] at ht2
        · exact ht2.elim
        subst hd'
        obtain ⟨h1, h2⟩ : OsHold d'.Φ Pr d'.ρ (must (mkNot (mkEq R e (.lit 0)))) ∧ post (e.den d'.Φ d'.ρ :: (zerosAS (s.res.tail.flatMap fun p : Bool × List Kd => p.2).length).denE d'.Φ d'.ρ) ((zerosAS (s.res.tail.flatMap fun p : Bool × List Kd => p.2).length).denL d'.Φ d'.ρ) := ht2
        have h1 := must_hold h1
        rw [mkNot_den, mkEq_den hR'] at h1
        obtain ⟨z1, z2⟩ := zerosAS_den d'.Φ d'.ρ (s.res.tail.flatMap fun p : Bool × List Kd => p.2).length
        rw [z1, z2] at h2
        have hne : e.den d'.Φ d'.ρ ≠ 0 := by
          intro e0
          simp [E.den, e0] at h1
        refine ⟨hdf, _, h2, ?_, .inr ⟨hne, rfl⟩, hbl.below (noPin _ _)⟩
        rw [pfOk_kds hok]
        exact ⟨Iv.sub_has c (E.iv_ok hR' _ hiv), zeros_has _⟩
      · exact ht2.elim
  · exact h.elim

/-- A FUNCTION THAT MAY PANIC DOES WHAT THE TABLE SAYS, from a plain sentence: the first number is the code, or 0. -/
theorem Tab.ctp {T : Tab} {F : Fn} {ivs : List Iv} {lvs : List (Iv × Int)} {fuel g : Nat} {fn : Func} {s : Sig} {v : VC} {pre : Nat → List Int → List (List Int) → Prop} (hv : vcPf F F.C.pty ivs lvs fuel fn s = v) (hm : F.C.P.follows .mixedOrders = true)
    (hs : SubSig T F.C.sigs) (ht : TotG pre F.C.sigs) (hg : T.sig g = some s) (hC : CtAll F.C.P T.fns (presQ pre) F.C.pfs F.C.pty F.C.cls F.C.sigs) (hk : CpAll F.C.P F.C.cps) (hf : F.C.P.funcs[g]? = some fn)
    (inv : Nat → Env → Env → Prop) (mu : Nat → Env → Env → Nat) (hi : ∀ xs ls, allHas (parIvs s.params) xs → allL (parLvs s.params) ls → pre g xs ls → allHas ivs xs ∧ allL lvs ls)
    (h : ∀ xs ls, allHas ivs xs → allL lvs ls → pre g xs ls → v.plain T (presG pre inv mu) (fun ys _ => ys = T.app g xs ls) ⟨xs, ls⟩)
    (hlf : LfAll F.C.P T.fns (presQ pre) F.C.lfs := by trivial) (hwf : WfAll F.C.P T.fns (presQ pre) F.C.wfs := by trivial) (hsf : SfAll F.C.P T.fns (presQ pre) F.C.sfs := by trivial) : CTP F.C.P T.fns (presQ pre) F.C.pty g s := by
  intro w xs ls args hx hl ha hp
  subst hv
  obtain ⟨hI, hL⟩ := hi xs ls hx hl hp
  refine (vcPf_sound (Pr := presG pre inv mu) hm ⟨hC.presG.of, fun g s h1 h2 xs ls => ht.of g s h1 h2 xs ls, hk.of, fun g s h => (hlf.presG.of g s h).1, fun g s h => (hlf.presG.of g s h).2, hwf.presG.of, hsf.presG.of⟩ (T.bounded hs.of) hf hx hI hL ha (plain_holds _ _ (h xs ls hI hL hp))).mono fun e w' ⟨ys, h1, h2, h3, h4⟩ => ⟨?_, h4⟩
  rw [T.fns_app hg]
  subst h1
  rw [clamp_id h2]
  exact h3

/-! ## A piece of code at a function's start -/
/-- Where a piece ends, and what must be known there: S1 where it goes on, S2 at a return. -/
def finC (S1 S2 : St) : Ex → Bds → St → VC
  | .normal, _, S => bif leTs S.tmps S1.tmps && leHs S.heap S1.heap then .fin (.e (.lit 0) .nil) else .fail 2600
  | .ret, _, S => bif leTs S.tmps S2.tmps && leHs S.heap S2.heap then .fin (.e (.lit 1) .nil) else .fail 2601
  | _, _, _ => .fail 2602
/-- What is known behind a piece. -/
structure Behind (X : Ctx) (d : Dn) (S1 : St) (a : Act) (w : World) : Prop where
  df : a.defers = []
  len : a.tmps.size = S1.tmps.length
  is : ∀ t, (getT S1.tmps t).is d (a.tmps.getD t undef)
  bl : Bl X w
  reg : ∀ id r', getH S1.heap id = some r' → RegIs X d id r' w
  sep : ∀ i j ri rj, getH S1.heap i = some ri → getH S1.heap j = some rj → ri.own = true → rj.own = true → i ≠ j → (d.α i).1 ≠ (d.α j).1
theorem Sat.behind {S S1 : St} (h : Sat X d S a w) (h1 : leTs S.tmps S1.tmps = true) (h2 : leHs S.heap S1.heap = true) : Behind X d S1 a w where
  df := h.df
  len := h.tm.len.trans (leTs_is (d := d) h1).1.symm
  is := fun t => (leTs_is h1).2 t _ (h.tm.is t)
  bl := h.hp.bl
  reg := fun id r' hr => by
    obtain ⟨r, k1, k2, k3, k4, k5⟩ := leHs_reg h2 id r' hr
    exact (h.hp.reg id r k1).congr k2 ⟨k3, k4⟩ (by rw [k5])
  sep := fun i j ri rj hi hj oi oj hij => by
    obtain ⟨r, k1, k2, _⟩ := leHs_reg h2 i ri hi
    obtain ⟨r', k1', k2', _⟩ := leHs_reg h2 j rj hj
    exact h.hp.sep i j r r' k1 k1' (k2 ▸ oi) (k2' ▸ oj) hij

/-- THE PIECE, from a plain sentence. -/
theorem Tab.part {T : Tab} {F : Fn} {ivs : List Iv} {lvs : List (Iv × Int)} {fuel nt : Nat} {A B Rest : Code} {ps : List PSh} {S1 S2 : St} {v : VC} {pre : Nat → List Int → List (List Int) → Prop}
    (hv : ((exec F (fuel + 1) (.seq A B) ⟨ivs, lvs, F.C.sigs.map fun p => (p.1, resKds p.2), []⟩ ⟨parSVs 0 0 0 ps ++ List.replicate (nt - (parSVs 0 0 0 ps).length) .undef, parRegs 0 0 0 ps⟩).vc (finC S1 S2)) = v) (hm : F.C.P.follows .mixedOrders = true)
    (hs : SubSig T F.C.sigs) (ht : TotG pre F.C.sigs) (hC : CtAll F.C.P T.fns (presQ pre) F.C.pfs F.C.pty F.C.cls F.C.sigs) (hk : CpAll F.C.P F.C.cps)
    (inv : Nat → Env → Env → Prop) (mu : Nat → Env → Env → Nat) {xs : List Int} {ls : List (List Int)} {args : List Value} (hx : allHas (parIvs ps) xs) (hi : allHas ivs xs) (hxl : allL lvs ls) (ha : ArgsAre w xs ls 0 0 ps args)
    {post : Int → Prop} (h : v.plain T (presG pre inv mu) (fun ys _ => ∀ y, ys = [y] → post y) ⟨xs, ls⟩) {Q : Exit → Act → World → Prop}
    (h0 : ∀ (d : Dn) a w', (∃ ys zs, d.ρ = (⟨xs, ls⟩ : Env).push2 ys zs) → Behind ⟨F.C.P, w, none⟩ d S1 a w' → post 0 → Rest.wp F.C.P Q a w')
    (h1 : ∀ (d : Dn) a w', (∃ ys zs, d.ρ = (⟨xs, ls⟩ : Env).push2 ys zs) → Behind ⟨F.C.P, w, none⟩ d S2 a w' → post 1 → Q .ret a w')
    (hlf : LfAll F.C.P T.fns (presQ pre) F.C.lfs := by trivial) (hwf : WfAll F.C.P T.fns (presQ pre) F.C.wfs := by trivial) (hsf : SfAll F.C.P T.fns (presQ pre) F.C.sfs := by trivial) :
    (Code.seq A (.seq B Rest)).wp F.C.P Q { tmps := args.toArray ++ Array.replicate (nt - args.toArray.size) undef, defers := [] } w := by
  subst hv
  have hCT : CTs F.C T.fns (presG pre inv mu) := ⟨hC.presG.of, fun g s h1 h2 xs ls => ht.of g s h1 h2 xs ls, hk.of, fun g s h => (hlf.presG.of g s h).1, fun g s h => (hlf.presG.of g s h).2, hwf.presG.of, hsf.presG.of⟩
  refine exec_at (Pr := presG pre inv mu) (Φ := T.fns) (Q := Exit.then (Rest.wp F.C.P Q) Q) hm hCT (T.bounded hs.of) hx hi hxl ha
    (fun hF R S d a w' hd hR hS ht => exec_seq hm hCT (T.bounded hs.of) hF hd hR hS ht) (vc_holds _ _ (plain_holds _ _ h)) fun x R S d a w' _ hz _ hS ht => ?_
  cases x with
  | normal =>
    have ht : (finC S1 S2 .normal R S).holds T.fns (presG pre inv mu) (fun ys _ => ∀ y, ys = [y] → post y) d.ρ := ht
    simp only [finC] at ht
    cases c : (leTs S.tmps S1.tmps && leHs S.heap S1.heap) <;> simp only [c, cond_false, cond_true] at ht
    · exact ht.elim
    · simp only [Bool.and_eq_true] at c
      exact h0 d a w' hz (Sat.behind hS c.1 c.2) (ht 0 rfl)
  | ret =>
    have ht : (finC S1 S2 .ret R S).holds T.fns (presG pre inv mu) (fun ys _ => ∀ y, ys = [y] → post y) d.ρ := ht
    simp only [finC] at ht
    cases c : (leTs S.tmps S2.tmps && leHs S.heap S2.heap) <;> simp only [c, cond_false, cond_true] at ht
    · exact ht.elim
    · simp only [Bool.and_eq_true] at c
      exact h1 d a w' hz (Sat.behind hS c.1 c.2) (ht 1 rfl)
  | exit id => exact ht.elim
  | goto l => exact ht.elim
  | pan t e => exact ht.elim

end
end Go.Proofs.YtelfpnkhdaaeoaaDoor.Sx
