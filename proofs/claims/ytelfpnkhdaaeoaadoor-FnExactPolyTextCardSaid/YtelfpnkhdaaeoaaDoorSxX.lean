/-
  The symbolic executor: functions that return texts.
-/
import Derived.Test.YtelfpnkhdaaeoaaDoorSxY
namespace Go.Proofs.YtelfpnkhdaaeoaaDoor.Sx
open Go Go.RowKit

section
variable {C : Cfg} {R : Bds} {X : Ctx} {d : Dn} {w : World} {S : St} {a : Act} {Pr : Pres} {Φ : Fns}

theorem sVals_nums (zs : List (List Int)) (q : List (List Int)) : ∀ (res : List SR) (xs : List Int) (j m : Nat), sVals xs (q ++ zs) j (q.length + m) res = sVals xs zs j m res
  | [], _, _, _ => rfl
  | .n b ks :: r, xs, j, m => by simp only [sVals]; rw [sVals_nums zs q r]
  | .s :: r, xs, j, m => by
    simp only [sVals]
    rw [Nat.add_assoc, sVals_nums zs q r]
    congr 2
    rw [List.getD_eq_getElem?_getD, List.getD_eq_getElem?_getD, List.getElem?_append_right (by omega), Nat.add_sub_cancel_left]
theorem sAS_spec (hR : RV d.Φ R d.ρ) : ∀ {res : List SR} {vs : List SV} {os : List O} {as ls : AS} {vals : List Value}, sAS R res vs = some (os, as, ls) → AllIs d vs vals → OsHold d.Φ Pr d.ρ os →
    as.denL d.Φ d.ρ = [] ∧ ls.denE d.Φ d.ρ = [] ∧ allHas ((ssKds res).map Kd.iv) (as.denE d.Φ d.ρ) ∧ allL (List.replicate (ssCnt res) byteLv) (ls.denL d.Φ d.ρ) ∧ ∀ pre : List Int, vals = sVals (pre ++ as.denE d.Φ d.ρ) (ls.denL d.Φ d.ρ) pre.length 0 res
  | [], [], os, as, ls, [], h, _, _ => by
    simp only [sAS, Option.some.injEq, Prod.mk.injEq] at h
    obtain ⟨rfl, rfl, rfl⟩ := h
    exact ⟨rfl, rfl, trivial, trivial, fun _ => rfl⟩
  | [], [], _, _, _, _ :: _, _, hv, _ => hv.elim
  | [], _ :: _, _, _, _, _, h, _, _ => by simp [sAS] at h
  | _ :: _, [], _, _, _, _, h, _, _ => by simp [sAS] at h
  | _ :: _, _ :: _, _, _, _, [], _, hv, _ => hv.elim
  | .n b ks :: res, v :: vs, os, out, ls, x :: vals, h, hv, ho => by
    have fin : ∀ (c0 : List Cell) (as : AS), sAS R res vs = some (os, as, ls) → cellsAS R ks c0 as = some out → x = compVal b (c0.map (Cell.den d)) →
        out.denL d.Φ d.ρ = [] ∧ ls.denE d.Φ d.ρ = [] ∧ allHas ((ssKds (.n b ks :: res)).map Kd.iv) (out.denE d.Φ d.ρ) ∧ allL (List.replicate (ssCnt (.n b ks :: res)) byteLv) (ls.denL d.Φ d.ρ) ∧
          ∀ pre : List Int, x :: vals = sVals (pre ++ out.denE d.Φ d.ρ) (ls.denL d.Φ d.ρ) pre.length 0 (.n b ks :: res) := by
      intro c0 as h1 h2 h3
      obtain ⟨xs, i1, i2, i3, i4, i5⟩ := cellsAS_spec hR h2
      obtain ⟨j1, j2, j3, j4, j5⟩ := sAS_spec hR h1 hv.2 ho
      refine ⟨i3.trans j1, j2, by rw [i2]; simp only [ssKds, List.map_append]; exact allHas_append i5 j3, j4, fun pre => ?_⟩
      have e := j5 (pre ++ xs)
      simp only [sVals]
      rw [i2, kdVals_append ks pre.length xs i1 rfl, ← i4, ← h3, e, List.length_append, i1, List.append_assoc]
    cases b with
    | true =>
      cases v with
      | agg c0 =>
        simp only [sAS] at h
        split at h
        · rename_i os' as l h1
          simp only [Option.map_eq_some_iff, Prod.mk.injEq] at h
          obtain ⟨as', h2, rfl, rfl, rfl⟩ := h
          exact fin c0 as h1 h2 hv.1
        · cases h
      | _ => simp [sAS] at h
    | false =>
      cases v with
      | one c =>
        simp only [sAS] at h
        split at h
        · rename_i os' as l h1
          simp only [Option.map_eq_some_iff, Prod.mk.injEq] at h
          obtain ⟨as', h2, rfl, rfl, rfl⟩ := h
          exact fin [c] as h1 h2 hv.1
        · cases h
      | _ => simp [sAS] at h
  | .s :: res, v :: vs, os, out, ls, x :: vals, h, hv, ho => by
    cases v with
    | one c =>
      cases c with
      | str l =>
        simp only [sAS] at h
        split at h
        · rename_i os' as ls' p h1 hp
          cases c : p.1.sub ⟨0, 255⟩ <;> simp only [c, cond_false, cond_true] at h
          · cases h
          · simp only [Option.some.injEq, Prod.mk.injEq] at h
            obtain ⟨rfl, rfl, rfl⟩ := h
            obtain ⟨j1, j2, j3, j4, j5⟩ := sAS_spec hR h1 hv.2 (fun o h => ho o (List.mem_append_right _ h))
            have hlo : OsHold d.Φ Pr d.ρ (lenOs R l) := fun o h => ho o (List.mem_append_left _ h)
            obtain ⟨b1, b2⟩ := L.iv_ok hR (ρ := d.ρ) l hp
            have hlen : ((l.den d.Φ d.ρ).length : Int) ≤ maxLen := by
              unfold lenOs at hlo
              cases hk : lenOk R l
              · rw [hk] at hlo
                have := must_hold hlo
                rw [mkLe_den hR] at this
                exact of_decide_eq_true this
              · exact lenOk_len hR hk
            refine ⟨j1, by simp only [AS.denE, j2], j3, ⟨⟨fun y hy => Iv.sub_has c (b1 y hy), hlen⟩, j4⟩, fun pre => ?_⟩
            have hx : x = byteV (l.den d.Φ d.ρ) := hv.1
            simp only [sVals, AS.denL]
            rw [hx, j5 pre]
            have := sVals_nums (ls'.denL d.Φ d.ρ) [l.den d.Φ d.ρ] res (pre ++ as.denE d.Φ d.ρ) pre.length 0
            simp only [List.length_singleton, List.singleton_append, Nat.add_zero] at this
            rw [Nat.zero_add, this]
            rfl
        · cases h
      | _ => simp [sAS] at h
    | _ => simp [sAS] at h
end

/-- WHAT A FUNCTION THAT RETURNS TEXTS DOES, from a plain sentence. -/
theorem Tab.cts {T : Tab} {F : Fn} {ivs : List Iv} {lvs : List (Iv × Int)} {fuel g : Nat} {fn : Func} {s : SSig} {v : VC} {pre : Nat → List Int → List (List Int) → Prop} (hv : vcSf F ivs lvs fuel fn s = v) (hm : F.C.P.follows .mixedOrders = true)
    (hs : SubSig T F.C.sigs) (ht : TotG pre F.C.sigs) (hC : CtAll F.C.P T.fns (presQ pre) F.C.pfs F.C.pty F.C.cls F.C.sigs) (hk : CpAll F.C.P F.C.cps) (hf : F.C.P.funcs[g]? = some fn)
    (inv : Nat → Env → Env → Prop) (mu : Nat → Env → Env → Nat) (hi : ∀ xs ls, allHas (parIvs s.params) xs → allL (parLvs s.params) ls → pre g xs ls → allHas ivs xs ∧ allL lvs ls)
    (h : ∀ xs ls, allHas ivs xs → allL lvs ls → pre g xs ls → v.plain T (presG pre inv mu) (fun ys zs => T.fns g xs ls = (ys, zs)) ⟨xs, ls⟩)
    (hlf : LfAll F.C.P T.fns (presQ pre) F.C.lfs := by trivial) (hwf : WfAll F.C.P T.fns (presQ pre) F.C.wfs := by trivial) (hsf : SfAll F.C.P T.fns (presQ pre) F.C.sfs := by trivial) : CTS F.C.P T.fns (presQ pre) g s := by
  intro w xs ls args hx hl ha hp
  subst hv
  have hC' : CTs F.C T.fns (presG pre inv mu) := ⟨hC.presG.of, fun g s h1 h2 xs ls => ht.of g s h1 h2 xs ls, hk.of, fun g s h => (hlf.presG.of g s h).1, fun g s h => (hlf.presG.of g s h).2, hwf.presG.of, hsf.presG.of⟩
  obtain ⟨hI, hL⟩ := hi xs ls hx hl hp
  have h2 := plain_holds _ _ (h xs ls hI hL hp)
  unfold vcSf at h2
  split at h2
  · rename_i c hc
    refine exec_calls (fuel := fuel) hm hC' (T.bounded hs.of) hf hc hx hI hL ha (vc_holds _ _ h2) (fun _ _ _ _ _ h => h) fun x R S d a' w' hd' _ hR' h' hx' => ?_
    have key : x = .normal ∨ x = .ret → (x = .normal ∨ x = .ret) ∧ ∃ v, (results fn a'.tmps).run F.C.P w' = .ok v w' ∧ (SPost s (T.fns g xs ls) (.returned v) ∧ Below w.heap.size w w') := by
      intro hxx
      refine ⟨hxx, ?_⟩
      have e : finSf F.C.P fn s x R S = match resVars F.C.P S fn.results.toList with
        | some vs => match sAS R s.res vs with
          | some (os, as, ls) => .need os (.fin (as.cat ls))
          | none => .fail 2401
        | none => .fail 2402 := by rcases hxx with rfl | rfl <;> rfl
      rw [e] at hx'
      split at hx'
      · rename_i vs hvs
        split at hx'
        · rename_i os as al hlr
          obtain ⟨xs', k1, k2⟩ := results_run h' hvs
          refine ⟨_, k1, ?_, h'.hp.bl.below (noPin _ _)⟩
          obtain ⟨hos, hls⟩ := hx'
          simp only [VC.holds, AS.denE_cat, AS.denL_cat] at hls
          rw [← hd'] at hos hls
          obtain ⟨j1, j2, j3, j4, j5⟩ := sAS_spec hR' hlr k2 hos
          rw [j1, j2, List.append_nil, List.nil_append] at hls
          rw [hd'] at hls j3 j4 j5
          rw [hls]
          refine ⟨?_, j3, j4⟩
          have := j5 []
          simp only [List.nil_append, List.length_nil] at this
          exact congrArg (fun l => Ending.returned (oneOr l)) this
        · exact hx'.elim
      · exact hx'.elim
    cases x with
    | normal => exact key (.inl rfl)
    | ret => exact key (.inr rfl)
    | exit id => exact hx'.elim
    | goto l => exact hx'.elim
    | pan t e => exact hx'.elim
  · exact h2.elim

end Go.Proofs.YtelfpnkhdaaeoaaDoor.Sx
