/-
  The symbolic executor: functions that return lists.
-/
import Derived.Test.YtelfpnkhdaaeoaaDoorSxT
namespace Go.Proofs.YtelfpnkhdaaeoaaDoor.Sx
open Go Go.RowKit

section
variable {C : Cfg} {R : Bds} {X : Ctx} {d : Dn} {w : World} {S : St} {a : Act} {Pr : Pres} {Φ : Fns}

theorem AS.denE_cat : ∀ (x y : AS) (ρ : Env), (x.cat y).denE Φ ρ = x.denE Φ ρ ++ y.denE Φ ρ
  | .nil, _, _ => rfl
  | .e a x, y, ρ => by simp only [AS.cat, AS.denE, AS.denE_cat x y ρ, List.cons_append]
  | .l a x, y, ρ => by simp only [AS.cat, AS.denE, AS.denE_cat x y ρ]
theorem AS.denL_cat : ∀ (x y : AS) (ρ : Env), (x.cat y).denL Φ ρ = x.denL Φ ρ ++ y.denL Φ ρ
  | .nil, _, _ => rfl
  | .e a x, y, ρ => by simp only [AS.cat, AS.denL, AS.denL_cat x y ρ]
  | .l a x, y, ρ => by simp only [AS.cat, AS.denL, AS.denL_cat x y ρ, List.cons_append]
theorem nilLs_denE : ∀ (n : Nat) (ρ : Env), (nilLs n).denE Φ ρ = []
  | 0, _ => rfl
  | n + 1, ρ => by simp only [nilLs, AS.denE, nilLs_denE n ρ]
theorem nilLs_denL : ∀ (n : Nat) (ρ : Env), (nilLs n).denL Φ ρ = List.replicate n []
  | 0, _ => rfl
  | n + 1, ρ => by simp only [nilLs, AS.denL, nilLs_denL n ρ, L.den, List.replicate_succ]

theorem lrAS_spec (hR : RV d.Φ R d.ρ) : ∀ {res : List LR} {vs : List SV} {as : AS} {cs : List Cell} {vals : List Value}, lrAS R res vs = some (as, cs) → AllIs d vs vals →
    as.denL d.Φ d.ρ = [] ∧ allHas ((lsKds res).map Kd.iv) (as.denE d.Φ d.ρ) ∧ cs.length = (lsKss res).length ∧ ∀ pre : List Int, vals = lVals (pre ++ as.denE d.Φ d.ρ) pre.length (cs.map (Cell.den d)) res
  | [], [], as, cs, [], h, _ => by
    simp only [lrAS, Option.some.injEq, Prod.mk.injEq] at h
    obtain ⟨rfl, rfl⟩ := h
    exact ⟨rfl, trivial, rfl, fun _ => rfl⟩
  | [], [], _, _, _ :: _, _, hv => hv.elim
  | [], _ :: _, _, _, _, h, _ => by simp [lrAS] at h
  | _ :: _, [], _, _, _, h, _ => by simp [lrAS] at h
  | _ :: _, _ :: _, _, _, [], _, hv => hv.elim
  | .n b ks :: res, v :: vs, out, cs, x :: vals, h, hv => by
    have fin : ∀ (c0 : List Cell) (as : AS), lrAS R res vs = some (as, cs) → cellsAS R ks c0 as = some out → x = compVal b (c0.map (Cell.den d)) →
        out.denL d.Φ d.ρ = [] ∧ allHas ((lsKds (.n b ks :: res)).map Kd.iv) (out.denE d.Φ d.ρ) ∧ cs.length = (lsKss (.n b ks :: res)).length ∧ ∀ pre : List Int, x :: vals = lVals (pre ++ out.denE d.Φ d.ρ) pre.length (cs.map (Cell.den d)) (.n b ks :: res) := by
      intro c0 as h1 h2 h3
      obtain ⟨xs, i1, i2, i3, i4, i5⟩ := cellsAS_spec hR h2
      obtain ⟨j1, j2, j3, j4⟩ := lrAS_spec hR h1 hv.2
      refine ⟨i3.trans j1, by rw [i2]; simp only [lsKds, List.map_append]; exact allHas_append i5 j2, j3, fun pre => ?_⟩
      have e := j4 (pre ++ xs)
      simp only [lVals]
      rw [i2, kdVals_append ks pre.length xs i1 rfl, ← i4, ← h3, e, List.length_append, i1, List.append_assoc]
    cases b with
    | true =>
      cases v with
      | agg c0 =>
        simp only [lrAS] at h
        split at h
        · rename_i as l h1
          simp only [Option.map_eq_some_iff, Prod.mk.injEq] at h
          obtain ⟨as', h2, rfl, rfl⟩ := h
          exact fin c0 as h1 h2 hv.1
        · cases h
      | _ => simp [lrAS] at h
    | false =>
      cases v with
      | one c =>
        simp only [lrAS] at h
        split at h
        · rename_i as l h1
          simp only [Option.map_eq_some_iff, Prod.mk.injEq] at h
          obtain ⟨as', h2, rfl, rfl⟩ := h
          exact fin [c] as h1 h2 hv.1
        · cases h
      | _ => simp [lrAS] at h
  | .m ks kss tys :: res, v :: vs, out, cs, x :: vals, h, hv => by
    cases v with
    | agg c0 =>
      simp only [lrAS] at h
      split at h
      · rename_i as l h1
        cases hb : Nat.beq c0.length (ks.length + kss.length) with
        | false => simp [hb] at h
        | true =>
          simp only [hb, cond_true, Option.map_eq_some_iff, Prod.mk.injEq] at h
          obtain ⟨as', h2, rfl, rfl⟩ := h
          have hn := Nat.eq_of_beq_eq_true hb
          obtain ⟨xs, i1, i2, i3, i4, i5⟩ := cellsAS_spec hR h2
          obtain ⟨j1, j2, j3, j4⟩ := lrAS_spec hR h1 hv.2
          refine ⟨i3.trans j1, by rw [i2]; simp only [lsKds, List.map_append]; exact allHas_append i5 j2, by simp only [lsKss, List.length_append, j3, List.length_drop]; omega, fun pre => ?_⟩
          have e := j4 (pre ++ xs)
          have hx : x = compVal true (c0.map (Cell.den d)) := hv.1
          have h5 : c0.map (Cell.den d) = (c0.take ks.length).map (Cell.den d) ++ (c0.drop ks.length).map (Cell.den d) := by
            rw [← List.map_append, List.take_append_drop]
          simp only [lVals, List.map_append]
          rw [i2, kdVals_append ks pre.length xs i1 rfl, ← i4, List.take_left' (by simp; omega), List.drop_left' (by simp; omega), ← h5, ← hx, e, List.length_append, i1, List.append_assoc]
      · cases h
    | _ => simp [lrAS] at h
  | .l b kss tys :: res, v :: vs, out, cs, x :: vals, h, hv => by
    have fin : ∀ (c0 l : List Cell), lrAS R res vs = some (out, l) → c0.length = kss.length → x = compVal b (c0.map (Cell.den d)) → cs = c0 ++ l →
        out.denL d.Φ d.ρ = [] ∧ allHas ((lsKds (.l b kss tys :: res)).map Kd.iv) (out.denE d.Φ d.ρ) ∧ cs.length = (lsKss (.l b kss tys :: res)).length ∧ ∀ pre : List Int, x :: vals = lVals (pre ++ out.denE d.Φ d.ρ) pre.length (cs.map (Cell.den d)) (.l b kss tys :: res) := by
      intro c0 l h1 h2 h3 h4
      subst h4
      obtain ⟨j1, j2, j3, j4⟩ := lrAS_spec hR h1 hv.2
      refine ⟨j1, j2, by simp only [lsKss, List.length_append, j3, h2], fun pre => ?_⟩
      simp only [lVals, List.map_append]
      rw [List.take_left' (by simp [h2]), List.drop_left' (by simp [h2]), ← h3, ← j4 pre]
    cases b with
    | true =>
      cases v with
      | agg c0 =>
        simp only [lrAS] at h
        split at h
        · rename_i as l h1
          cases hl : Nat.beq c0.length kss.length <;> simp only [hl, cond_false, cond_true] at h
          · cases h
          · simp only [Option.some.injEq, Prod.mk.injEq] at h
            obtain ⟨rfl, rfl⟩ := h
            exact fin c0 l h1 (Nat.eq_of_beq_eq_true hl) hv.1 rfl
        · cases h
      | _ => simp [lrAS] at h
    | false =>
      cases v with
      | one c =>
        simp only [lrAS] at h
        split at h
        · rename_i as l h1
          cases hl : Nat.beq 1 kss.length <;> simp only [hl, cond_false, cond_true] at h
          · cases h
          · simp only [Option.some.injEq, Prod.mk.injEq] at h
            obtain ⟨rfl, rfl⟩ := h
            exact fin [c] l h1 (Nat.eq_of_beq_eq_true hl) hv.1 rfl
        · cases h
      | _ => simp [lrAS] at h

theorem isNils_den : ∀ {cs : List Cell}, cs.all Cell.isNils = true → cs.map (Cell.den d) = List.replicate cs.length (.slice none 0 0)
  | [], _ => rfl
  | c :: cs, h => by
    simp only [List.all_cons, Bool.and_eq_true] at h
    have h1 := h.1
    cases c <;> simp only [Cell.isNils, Bool.false_eq_true] at h1
    simp only [List.map_cons, List.length_cons, List.replicate_succ, isNils_den h.2, Cell.den]

theorem fresh_allL {n : Nat} {w : World} : ∀ {kss : List (List EK)} {tys : List TypeId} {ls : List (List Int)} {vs : List Value} {bs : List Nat}, FreshAll n w kss tys ls vs bs → (∀ l ∈ ls, (l.length : Int) ≤ cpMax) →
    allL (kss.map fun ks => (kindsIv ks, cpMax)) ls
  | [], [], [], [], [], _, _ => trivial
  | ks :: kss, _ :: _, l :: ls, _ :: _, _ :: _, h, hl => ⟨⟨fun x hx => kinds_has h.1.2.1 x hx, hl l List.mem_cons_self⟩, fresh_allL h.2.2 fun l h => hl l (List.mem_cons_of_mem _ h)⟩
  | [], _ :: _, _, _, _, h, _ => by simp [FreshAll] at h
  | [], [], _ :: _, _, _, h, _ => by simp [FreshAll] at h
  | [], [], [], _ :: _, _, h, _ => by simp [FreshAll] at h
  | [], [], [], [], _ :: _, h, _ => by simp [FreshAll] at h
  | _ :: _, [], _, _, _, h, _ => by simp [FreshAll] at h
  | _ :: _, _ :: _, [], _, _, h, _ => by simp [FreshAll] at h
  | _ :: _, _ :: _, _ :: _, [], _, h, _ => by simp [FreshAll] at h
  | _ :: _, _ :: _, _ :: _, _ :: _, [], h, _ => by simp [FreshAll] at h

theorem nils_allL : ∀ (kss : List (List EK)), allL (kss.map fun ks => (kindsIv ks, cpMax)) (List.replicate kss.length [])
  | [] => trivial
  | _ :: r => ⟨⟨fun x hx => (by cases hx), by show (0 : Int) ≤ cpMax; decide⟩, nils_allL r⟩
theorem cpOs_len (hR : RV d.Φ R d.ρ) : ∀ {ls : List L}, OsHold d.Φ Pr d.ρ (cpOs R ls) → ∀ l ∈ ls.map (L.den d.Φ d.ρ), (l.length : Int) ≤ cpMax
  | [], _, l, hl => by cases hl
  | x :: ls, h, l, hl => by
    simp only [List.map_cons, List.mem_cons] at hl
    rcases hl with rfl | hl
    · have h1 : OsHold d.Φ Pr d.ρ (must (mkLe R (.len x) (.lit cpMax))) := fun o ho => h o (List.mem_append_left _ ho)
      have h3 := must_hold h1
      rw [mkLe_den hR] at h3
      exact of_decide_eq_true h3
    · exact cpOs_len hR (fun o ho => h o (List.mem_append_right _ ho)) l hl

theorem cpFin_noE {R : Bds} {S : St} {Φ : Fns} {ρ : Env} : ∀ (kss : List (List EK)) (tys : List TypeId) (cs : List Cell) (seen : List Nat) (os : List O) (as : AS), cpFin R S seen kss tys cs = some (os, as) → as.denE Φ ρ = []
  | [], [], [], seen, os, as, hc => by
    simp only [cpFin, Option.some.injEq, Prod.mk.injEq] at hc
    rw [← hc.2]; rfl
  | ks :: kss, ty :: tys, c :: cs, seen, os, as, hc => by
    cases c <;> simp only [cpFin] at hc <;> try (cases hc; done)
    split at hc
    · split at hc
      · rename_i r _ ks' l htl
        revert hc
        generalize (Bool.and _ _) = q
        cases q <;> intro hc <;> simp only [cond_false, cond_true] at hc
        · cases hc
        · simp only [Option.map_eq_some_iff, Prod.mk.injEq] at hc
          obtain ⟨⟨os1, as1⟩, h2, rfl, rfl⟩ := hc
          simp only [AS.denE]
          exact cpFin_noE kss tys cs _ os1 as1 h2
      · cases hc
    · cases hc
  | [], [], _ :: _, _, _, _, h => by simp [cpFin] at h
  | [], _ :: _, _, _, _, _, h => by simp [cpFin] at h
  | _ :: _, [], _, _, _, _, h => by simp [cpFin] at h
  | _ :: _, _ :: _, [], _, _, _, h => by simp [cpFin] at h
end

/-- WHAT A FUNCTION THAT RETURNS LISTS DOES, from a plain sentence. -/
theorem Tab.ctl {T : Tab} {F : Fn} {ivs : List Iv} {lvs : List (Iv × Int)} {fuel g : Nat} {fn : Func} {s : LSig} {v : VC} {pre : Nat → List Int → List (List Int) → Prop} (hv : vcLf F ivs lvs fuel fn s = v) (hm : F.C.P.follows .mixedOrders = true)
    (hs : SubSig T F.C.sigs) (ht : TotG pre F.C.sigs) (hC : CtAll F.C.P T.fns (presQ pre) F.C.pfs F.C.pty F.C.cls F.C.sigs) (hk : CpAll F.C.P F.C.cps) (hf : F.C.P.funcs[g]? = some fn)
    (inv : Nat → Env → Env → Prop) (mu : Nat → Env → Env → Nat) (hi : ∀ xs ls, allHas (parIvs s.params) xs → allL (parLvs s.params) ls → pre g xs ls → allHas ivs xs ∧ allL lvs ls)
    (h : ∀ xs ls, allHas ivs xs → allL lvs ls → pre g xs ls → v.plain T (presG pre inv mu) (fun ys zs => T.fns g xs ls = (ys, zs)) ⟨xs, ls⟩)
    (hlf : LfAll F.C.P T.fns (presQ pre) F.C.lfs := by trivial) (hwf : WfAll F.C.P T.fns (presQ pre) F.C.wfs := by trivial) (hsf : SfAll F.C.P T.fns (presQ pre) F.C.sfs := by trivial) : CTL F.C.P T.fns (presQ pre) g s := by
  intro w xs ls args hx hl ha hp
  subst hv
  have hC' : CTs F.C T.fns (presG pre inv mu) := ⟨hC.presG.of, fun g s h1 h2 xs ls => ht.of g s h1 h2 xs ls, hk.of, fun g s h => (hlf.presG.of g s h).1, fun g s h => (hlf.presG.of g s h).2, hwf.presG.of, hsf.presG.of⟩
  obtain ⟨hI, hL⟩ := hi xs ls hx hl hp
  have h2 := plain_holds _ _ (h xs ls hI hL hp)
  unfold vcLf at h2
  split at h2
  · rename_i c hc
    refine exec_calls (fuel := fuel) hm hC' (T.bounded hs.of) hf hc hx hI hL ha (vc_holds _ _ h2) (fun _ _ _ _ _ h => h) fun x R S d a' w' hd' _ hR' h' hx' => ?_
    have key : x = .normal ∨ x = .ret → (x = .normal ∨ x = .ret) ∧ ∃ v, (results fn a'.tmps).run F.C.P w' = .ok v w' ∧ (LPost s w.heap.size w' (T.fns g xs ls) (.returned v) ∧ Below w.heap.size w w') := by
      intro hxx
      refine ⟨hxx, ?_⟩
      have e : finLf F.C.P fn s x R S = match resVars F.C.P S fn.results.toList with
        | some vs => match lrAS R s.res vs with
          | some (as, cs) => bif cs.all Cell.isNils then bif s.sure then .fail 2204 else .fin (.e (.lit 1) (as.cat (nilLs (lsKss s.res).length)))
              else match cpFin R S [] (lsKss s.res) (lsTys s.res) cs with
                | some (os, al) => .need (os ++ cpOs R al.ls) (.fin (.e (.lit 0) (as.cat al)))
                | none => .fail 2201
          | none => .fail 2202
        | none => .fail 2203 := by rcases hxx with rfl | rfl <;> rfl
      rw [e] at hx'
      split at hx'
      · rename_i vs hvs
        split at hx'
        · rename_i as cs hlr
          obtain ⟨xs', k1, k2⟩ := results_run h' hvs
          refine ⟨_, k1, ?_, h'.hp.bl.below (noPin _ _)⟩
          obtain ⟨j1, j2, j3, j4⟩ := lrAS_spec hR' hlr k2
          cases hn : cs.all Cell.isNils <;> simp only [hn, cond_false, cond_true] at hx'
          · split at hx'
            · rename_i os al hcf
              obtain ⟨hos, hls⟩ := hx'
              simp only [VC.holds, AS.denE, AS.denL, AS.denE_cat, AS.denL_cat] at hls
              rw [← hd'] at hos hls
              obtain ⟨ids, i1, _⟩ := cpFin_spec (w := w) hR' h' (noPin _ _) (Nat.le_refl _) _ _ _ _ _ _ hcf (fun o ho => hos o (List.mem_append_left _ ho))
              have i2 := cpOs_len hR' (fun o ho => hos o (List.mem_append_right _ ho))
              rw [← AS.denL_ls] at i2
              have i3 := cpFin_noE (Φ := d.Φ) (ρ := d.ρ) _ _ _ _ _ _ hcf
              rw [i3, List.append_nil, j1, List.nil_append] at hls
              rw [hd'] at hls j2 j4 i1 i2
              rw [hls]
              exact ⟨_, _, congrArg (fun l => Ending.returned (oneOr l)) (j4 [0]), ⟨⟨show (0 : Int) ≤ 0 by decide, show (0 : Int) ≤ (bif s.sure then 0 else 1) by cases s.sure <;> decide⟩, j2⟩, fresh_allL i1 i2, .inr ⟨by show (0 : Int) ≠ 1; decide, i1⟩⟩
            · exact hx'.elim
          · cases hsu : s.sure <;> simp only [hsu, cond_false, cond_true] at hx'
            rotate_left
            · exact hx'.elim
            simp only [VC.holds, AS.denE, AS.denL, AS.denE_cat, AS.denL_cat, nilLs_denE, nilLs_denL, List.append_nil] at hx'
            rw [← hd', j1, List.nil_append] at hx'
            rw [hd'] at hx' j2 j4
            rw [hx']
            exact ⟨_, [], congrArg (fun l => Ending.returned (oneOr l)) (j4 [1]), ⟨⟨show (0 : Int) ≤ 1 by decide, show (1 : Int) ≤ (bif s.sure then 0 else 1) by rw [hsu]; decide⟩, j2⟩, nils_allL _, .inl ⟨rfl, by rw [isNils_den hn, j3]⟩⟩
        · exact hx'.elim
      · exact hx'.elim
    cases x with
    | normal => exact key (.inl rfl)
    | ret => exact key (.inr rfl)
    | exit id => exact hx'.elim
    | goto l => exact hx'.elim
    | pan t e => exact hx'.elim
  · exact h2.elim

end Go.Proofs.YtelfpnkhdaaeoaaDoor.Sx
