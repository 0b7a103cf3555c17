/-
  The symbolic executor: calls; one operation, whole.
-/
import Derived.Test.YtelfpnkhdaaeoaaDoorSxH
import Derived.Test.YtelfpnkhdaaeoaaDoorSxU
namespace Go.Proofs.YtelfpnkhdaaeoaaDoor.Sx
open Go Go.RowKit

section
variable {C : Cfg} {R : Bds} {X : Ctx} {d : Dn} {w : World} {hp : List (Option Reg)} {v : Operand → Option SV} {e : Operand → Value} {Pr : Pres}
  {rd : Nat → Option Reg} {new : Nat} {r : Res} {o : Oper}

/-! ### Arguments -/
/-- Cells as numbers, ahead of others. -/
theorem cellsAS_spec (hR : RV d.Φ R d.ρ) : ∀ {ks : List Kd} {cs : List Cell} {as out : AS}, cellsAS R ks cs as = some out →
    ∃ xs : List Int, xs.length = ks.length ∧ out.denE d.Φ d.ρ = xs ++ as.denE d.Φ d.ρ ∧ out.denL d.Φ d.ρ = as.denL d.Φ d.ρ ∧
      cs.map (Cell.den d) = List.zipWith kdVal ks xs ∧ allHas (ks.map Kd.iv) xs
  | [], [], as, out, h => by simp only [cellsAS, Option.some.injEq] at h; subst h; exact ⟨[], rfl, rfl, rfl, rfl, trivial⟩
  | [], _ :: _, _, _, h => by cases h
  | _ :: _, [], _, _, h => by cases h
  | k :: ks, c :: cs, as, out, h => by
    simp only [cellsAS] at h
    split at h
    · rename_i x q hx hq
      cases h
      obtain ⟨xs, h1, h2, h3, h4, h5⟩ := cellsAS_spec hR hq
      obtain ⟨k1, k2⟩ := kdE_spec hR hx
      exact ⟨x.den d.Φ d.ρ :: xs, by simp [h1], by simp [AS.denE, h2], by simp [AS.denL, h3], by simp [h4, k1], k2, h5⟩
    · cases h

theorem kdVals_append {xs ys : List Int} : ∀ (ks : List Kd) (j : Nat) (zs : List Int), zs.length = ks.length → xs.length = j → kdVals (xs ++ (zs ++ ys)) j ks = List.zipWith kdVal ks zs
  | [], _, zs, h, _ => by simp [kdVals]
  | k :: ks, j, [], h, _ => by simp at h
  | k :: ks, j, z :: zs, h, hj => by
    simp only [kdVals, List.zipWith_cons_cons]
    congr 1
    · congr 1
      rw [← hj, show xs.length = xs.length + 0 by omega, getD_append_right]; rfl
    · have := kdVals_append (xs := xs ++ [z]) (ys := ys) ks (j + 1) zs (by simpa using h) (by simp [hj])
      simpa using this

theorem valArg {agg : Bool} {ks : List Kd} {sv : SV} {as out : AS} (hR : RV d.Φ R d.ρ) (h : argAS R rd (.val agg ks) sv as = some out) {x : Value} (hx : sv.is d x) :
    ∃ zs : List Int, zs.length = ks.length ∧ out.denE d.Φ d.ρ = zs ++ as.denE d.Φ d.ρ ∧ out.denL d.Φ d.ρ = as.denL d.Φ d.ρ ∧
      x = compVal agg (List.zipWith kdVal ks zs) ∧ (agg = false → ks.length = 1) ∧ allHas (ks.map Kd.iv) zs := by
  cases agg with
  | false => cases sv with
    | one c =>
      obtain ⟨zs, h1, h2, h3, h4, h5⟩ := cellsAS_spec hR (d := d) h
      have hl : ks.length = 1 := by
        have := congrArg List.length h4
        simp at this; omega
      refine ⟨zs, h1, h2, h3, ?_, fun _ => hl, h5⟩
      simp only [SV.is] at hx
      rw [hx, ← h4]; rfl
    | agg cs => cases h
    | tup _ => cases h
    | any => cases h
  | true => cases sv with
    | agg cs =>
      obtain ⟨zs, h1, h2, h3, h4, h5⟩ := cellsAS_spec hR (d := d) h
      refine ⟨zs, h1, h2, h3, ?_, (fun hf => by cases hf), h5⟩
      simp only [SV.is] at hx
      rw [hx, ← h4]; rfl
    | one c => cases h
    | tup _ => cases h
    | any => cases h

theorem allHas_append : ∀ {a b : List Iv} {xs ys : List Int}, allHas a xs → allHas b ys → allHas (a ++ b) (xs ++ ys)
  | [], _, [], _, _, h => h
  | [], _, _ :: _, _, h, _ => h.elim
  | _ :: _, _, [], _, h, _ => h.elim
  | _ :: _, _, _ :: _, _, h, k => ⟨h.1, allHas_append h.2 k⟩
theorem allL_append : ∀ {a b : List (Iv × Int)} {xs ys : List (List Int)}, allL a xs → allL b ys → allL (a ++ b) (xs ++ ys)
  | [], _, [], _, _, h => h
  | [], _, _ :: _, _, h, _ => h.elim
  | _ :: _, _, [], _, h, _ => h.elim
  | _ :: _, _, _ :: _, _, h, k => ⟨h.1, allL_append h.2 k⟩

/-- A slice that is a whole block of numbers. -/
theorem lstAS_spec (hR : RV d.Φ R d.ρ) (hP : HP X d hp w) (hrd : ∀ id r, rd id = some r → getH hp id = some r) {ks : List EK} {c : Cell} {as out : AS} (h : lstAS R rd ks c as = some out) :
    ∃ l : List Int, out.denE d.Φ d.ρ = as.denE d.Φ d.ρ ∧ out.denL d.Φ d.ρ = l :: as.denL d.Φ d.ρ ∧ ((∀ x ∈ l, (kindsIv ks).has x) ∧ (l.length : Int) ≤ maxLen * (ks.length : Int)) ∧ SliceIs w ks l (c.den d) := by
  unfold lstAS at h
  split at h
  · rename_i id s off len
    split at h
    · rename_i r hr
      split at h
      · rename_i ks' l htl
        split at h
        · rename_i p hp'
          cases c : (decide (ks = ks') && (Nat.beq s ks.length && (off.eqb (.lit 0) && (len.eqb (nelE l s) && (p.1.sub (kindsIv ks) && ile p.2 (maxLen * (ks.length : Int))))))) <;> simp only [c, cond_false, cond_true] at h
          · cases h
          · simp only [Bool.and_eq_true, decide_eq_true_eq] at c
            obtain ⟨c1, c2, c3, c4, c5, c6⟩ := c
            have c2 := Nat.eq_of_beq_eq_true c2
            have c3 := E.eqb_eq _ _ c3
            have c4 := E.eqb_eq _ _ c4
            cases h
            subst c1 c2 c3 c4
            have hg := hP.reg _ _ (hrd _ _ hr)
            obtain ⟨b1, b2⟩ := L.iv_ok hR (ρ := d.ρ) l hp'
            refine ⟨l.den d.Φ d.ρ, rfl, rfl, ⟨fun x hx => Iv.sub_has c5 (b1 x hx), Int.le_trans b2 (ile_iff.1 c6)⟩, ?_⟩
            have hn := hg
            unfold RegIs at hn
            rw [htl] at hn
            obtain ⟨_, k1, k2, _⟩ := hn
            have hlen : ((nelE l ks.length).den d.Φ d.ρ).toNat = (l.den d.Φ d.ρ).length / ks.length := by
              unfold nelE
              cases c : Nat.beq ks.length 1 <;> simp only [cond_false, cond_true]
              · simp only [E.den, stripS_len]
                rw [← Int.natCast_ediv, Int.toNat_natCast]
              · have c := Nat.eq_of_beq_eq_true c
                simp only [E.den, stripS_len]
                rw [Int.toNat_natCast, c, Nat.div_one]
            refine ⟨(d.κ id).map fun _ => ((d.α id).1, (d.α id).2), ((nelE l ks.length).den d.Φ d.ρ).toNat, (d.κ id).getD 0, ?_, hlen, k1, fun hn => ?_, fun p hp' i x hx => ?_, hg.cap htl⟩
            · simp only [Cell.den]
              cases d.κ id <;> simp [E.den]
            · rw [Option.map_eq_none_iff] at hn
              have := k2 hn
              simp only at this
              refine ⟨?_, by rw [hn]; rfl⟩
              rw [hlen, this]; simp
            · rw [Option.map_eq_some_iff] at hp'
              obtain ⟨e, _, rfl⟩ := hp'
              exact (hg.num hP.bl htl hx).1
        · cases h
      · cases h
    · cases h
  · cases h
    refine ⟨[], rfl, rfl, ⟨fun x hx => (by cases hx), ?_⟩, none, 0, 0, rfl, ?_, ⟨fun i x hx => (by simp at hx), ?_⟩, fun _ => ⟨rfl, rfl⟩, fun p hp => (by cases hp), by simp⟩
    · exact Int.mul_nonneg (by decide) (Int.natCast_nonneg _)
    · simp
    · simp
  · cases h

theorem lstsAS_spec (hR : RV d.Φ R d.ρ) (hP : HP X d hp w) (hrd : ∀ id r, rd id = some r → getH hp id = some r) : ∀ {kss : List (List EK)} {cs : List Cell} {as out : AS}, lstsAS R rd kss cs as = some out →
    ∃ lls : List (List Int), lls.length = kss.length ∧ out.denE d.Φ d.ρ = as.denE d.Φ d.ρ ∧ out.denL d.Φ d.ρ = lls ++ as.denL d.Φ d.ρ ∧ allL (kss.map fun ks => (kindsIv ks, maxLen * (ks.length : Int))) lls ∧ cs.length = kss.length ∧
      ∀ pre post : List (List Int), SlicesAre w (pre ++ (lls ++ post)) pre.length kss (cs.map (Cell.den d))
  | [], [], as, out, h => by
    simp only [lstsAS, Option.some.injEq] at h; subst h
    exact ⟨[], rfl, rfl, rfl, trivial, rfl, fun _ _ => rfl⟩
  | [], _ :: _, _, _, h => by cases h
  | _ :: _, [], _, _, h => by cases h
  | ks :: kss, c :: cs, as, out, h => by
    simp only [lstsAS] at h
    split at h
    · rename_i as' has
      obtain ⟨lls, i1, i2, i3, i4, i5, i6⟩ := lstsAS_spec hR hP hrd has
      obtain ⟨l, k1, k2, k3, k4⟩ := lstAS_spec hR hP hrd h
      refine ⟨l :: lls, by simp [i1], by rw [k1, i2], by rw [k2, i3]; rfl, ⟨k3, i4⟩, by simp [i5], fun pre post => ?_⟩
      refine ⟨c.den d, cs.map (Cell.den d), rfl, ?_, ?_⟩
      · rw [show pre.length = pre.length + 0 by omega, List.getD_eq_getElem?_getD, List.getElem?_append_right (by omega)]
        simpa using k4
      · have := i6 (pre ++ [l]) post
        simpa using this
    · cases h

theorem slices_append {w : World} : ∀ {kss : List (List EK)} {m : Nat} {ls : List (List Int)} {vs : List Value}, SlicesAre w ls m kss vs → vs.length = kss.length
  | [], _, _, vs, h => by
    have h : vs = [] := h
    rw [h]; rfl
  | _ :: kss, m, ls, vs, h => by
    obtain ⟨v, rest, rfl, _, h2⟩ := h
    simp [slices_append h2]

/-- Where a block that is no list lies. -/
theorem HP.lt0 (hP : HP X d hp w) {id : Nat} {g : Reg} (hg : getH hp id = some g) (ht : g.tl.isNone = true) : (d.α id).1 < w.heap.size := by
  by_cases ho : g.own = true
  · exact hP.lt hg ho
  · have := (hP.reg _ _ hg).zero (by simpa using ht)
    unfold RegIs0 at this
    rw [if_neg ho] at this
    exact Nat.lt_of_lt_of_le (Ctx.Mine.lt this.1) hP.bl.size

theorem add0_den (Φ : Fns) (ρ : Env) (x : E) : (add0 x).den Φ ρ = x.den Φ ρ := by
  unfold add0
  split
  · simp only [E.den, Int.zero_add]
  · rfl

theorem argsAS_spec (hR : RV d.Φ R d.ρ) (hP : HP X d hp w) (hrd : ∀ id r, rd id = some r → getH hp id = some r) :
    ∀ {ps : List PSh} {svs : List SV} {as : AS} {args : List Value}, argsAS R rd ps svs = some as → svs.length = args.length →
    (∀ (k : Nat) (x : SV) (q : Value), svs[k]? = some x → args[k]? = some q → x.is d q) → (∀ x ∈ svs, x.ok d hp) →
    allL (parLvs ps) (as.denL d.Φ d.ρ) ∧ allHas (parIvs ps) (as.denE d.Φ d.ρ) ∧
      ∀ (pre : List Int) (preL : List (List Int)), ArgsAre w (pre ++ as.denE d.Φ d.ρ) (preL ++ as.denL d.Φ d.ρ) pre.length preL.length ps args
  | [], [], as, args, h, hl, _, _ => by
    simp only [argsAS, Option.some.injEq] at h; subst h
    have : args = [] := List.length_eq_zero_iff.1 hl.symm
    subst this
    exact ⟨trivial, trivial, fun _ _ => rfl⟩
  | [], _ :: _, _, _, h, _, _, _ => by cases h
  | _ :: _, [], _, _, h, _, _, _ => by cases h
  | p :: ps, sv :: svs, as, [], h, hl, _, _ => by simp at hl
  | p :: ps, sv :: svs, as, a :: args, h, hl, his, hok => by
    simp only [argsAS] at h
    split at h
    · rename_i as' has
      obtain ⟨i1, i2, i3⟩ := argsAS_spec hR hP hrd has (by simpa using hl) (fun k x q hk hq => his (k + 1) x q (by simpa using hk) (by simpa using hq)) (fun x hx => hok x (List.mem_cons_of_mem _ hx))
      have ha := his 0 sv a rfl rfl
      cases p with
      | val agg ks =>
        obtain ⟨zs, h1, h2, h3, h4, h5, h6⟩ := valArg hR h ha
        refine ⟨by rw [h3]; exact i1, ?_, fun pre preL => ?_⟩
        · rw [h2]; exact allHas_append h6 i2
        · rw [h2, h3]
          refine ⟨args, ?_, h5, ?_⟩
          · rw [kdVals_append ks pre.length zs h1 rfl, h4]
          · have := i3 (pre ++ zs) preL
            rw [List.length_append, h1, List.append_assoc] at this
            exact this
      | ptr ks =>
        unfold argAS at h
        split at h
        all_goals first | (rename_i e _; cases e; done) | (rename_i e; cases e; done) | skip
        all_goals first | (cases h; done) | skip
        · rename_i ks' id off e
          cases e
          split at h
          · rename_i g hg
            cases c : (Nat.ble (off + ks.length) g.cs.length && g.tl.isNone) <;> simp only [c, cond_false, cond_true] at h
            · cases h
            · simp only [Bool.and_eq_true] at c
              obtain ⟨c, ct⟩ := c
              have c := Nat.le_of_ble_eq_true c
              obtain ⟨zs, h1, h2, h3, h4, h5⟩ := cellsAS_spec hR (d := d) h
              have hg := hrd _ _ hg
              refine ⟨by rw [h3]; exact i1, ?_, fun pre preL => ?_⟩
              · rw [h2]; exact allHas_append h5 i2
              · rw [h2, h3]
                simp only [SV.is, Cell.den] at ha
                refine ⟨(d.α id).1, (d.α id).2 + off, args, by rw [ha], hP.lt0 hg ct, fun i x hx => ?_, ?_⟩
                · rw [kdVals_append ks pre.length zs h1 rfl, ← h4, List.getElem?_map, Option.map_eq_some_iff] at hx
                  obtain ⟨c', hc', rfl⟩ := hx
                  have := drop_take_get hc'
                  have := (hP.reg _ _ hg).cell hP.bl this.1
                  rw [Nat.add_assoc]; exact this
                · have := i3 (pre ++ zs) preL
                  rw [List.length_append, h1, List.append_assoc] at this
                  exact this
          · cases h
        · rename_i ks' id s ix f e
          cases e
          split at h
          · rename_i g hg
            split at h
            · rename_i ks1 l htl
              cases c : (Nat.beq s ks1.length && (Nat.ble (f + ks.length) s && (Nat.blt 0 ks.length && decide (known R.p (.lt (add0 ix) (nelE l s)) = some true)))) <;> simp only [c, cond_false, cond_true] at h
              · cases h
              · simp only [Bool.and_eq_true, decide_eq_true_eq] at c
                obtain ⟨c1, c2, c3, c4⟩ := c
                have c1 := Nat.eq_of_beq_eq_true c1
                have c2 := Nat.le_of_ble_eq_true c2
                have c3 : 0 < ks.length := by simpa [Nat.blt_eq] using c3
                obtain ⟨zs, h1, h2, h3, h4, h5⟩ := cellsAS_spec hR (d := d) h
                have hg := hrd _ _ hg
                obtain ⟨_, b1⟩ : (getH hp id).isSome = true ∧ 0 ≤ ix.den d.Φ d.ρ := hok (.one (.lp id s ix f)) List.mem_cons_self
                obtain ⟨j, hj⟩ := Int.eq_ofNat_of_zero_le b1
                have b2 := known_ok hR _ _ c4
                simp only [B.den, decide_eq_true_eq, add0_den, hj] at b2
                have b3 : j * s + s ≤ (l.den d.Φ d.ρ).length := by
                  have hs : 0 < s := by omega
                  have b4 : (j : Int) < ((l.den d.Φ d.ρ).length / s : Nat) := by
                    unfold nelE at b2
                    cases e1 : Nat.beq s 1 <;> simp only [e1, cond_false, cond_true, E.den, stripS_len] at b2
                    · exact_mod_cast b2
                    · have e1 := Nat.eq_of_beq_eq_true e1
                      subst e1; rw [Nat.div_one]; exact b2
                  have b5 : j + 1 ≤ (l.den d.Φ d.ρ).length / s := by omega
                  have := (Nat.le_div_iff_mul_le hs).1 b5
                  rwa [Nat.add_mul, Nat.one_mul] at this
                have cell : ∀ i k, ((ks1.drop f).take ks.length)[i]? = some k → w.cell? ⟨(d.α id).1, (d.α id).2 + (j * s + f) + i, none⟩ = some (evl k ((l.den d.Φ d.ρ).getD (j * s + f + i) 0)) ∧ (eiv k).has ((l.den d.Φ d.ρ).getD (j * s + f + i) 0) := fun i k hi => by
                  obtain ⟨k1, k2⟩ := drop_take_k hi
                  obtain ⟨n1, n2⟩ := (hP.reg _ _ hg).num hP.bl htl (getD_of_lt (xs := l.den d.Φ d.ρ) (i := j * s + f + i) (by omega))
                  rw [kindAt_mul c1 k1] at n1 n2
                  exact ⟨by rw [Nat.add_assoc]; exact n1, n2⟩
                have hden := lpCells_den (l := l) (s := s) hR hj ((ks1.drop f).take ks.length) f fun i k hi => (cell i k hi).2
                rw [h4] at hden
                obtain ⟨k0, hk0⟩ : ∃ k0, ((ks1.drop f).take ks.length)[0]? = some k0 := ⟨_, List.getElem?_eq_getElem (by rw [List.length_take, List.length_drop]; omega)⟩
                refine ⟨by rw [h3]; exact i1, ?_, fun pre preL => ?_⟩
                · rw [h2]; exact allHas_append h5 i2
                · rw [h2, h3]
                  simp only [SV.is, Cell.den, hj, Int.toNat_natCast] at ha
                  refine ⟨(d.α id).1, (d.α id).2 + (j * s + f), args, by rw [ha], World.block_lt_of_cell? w _ (cell 0 k0 hk0).1, fun i x hx => ?_, ?_⟩
                  · rw [kdVals_append ks pre.length zs h1 rfl, hden] at hx
                    obtain ⟨k, hk, rfl⟩ := lpVals_get _ _ _ _ _ hx
                    exact (cell i k hk).1
                  · have := i3 (pre ++ zs) preL
                    rw [List.length_append, h1, List.append_assoc] at this
                    exact this
            · cases h
          · cases h
      | slc ks =>
        unfold argAS at h
        split at h
        all_goals first | (rename_i e _; cases e; done) | (rename_i e; cases e; done) | skip
        all_goals first | (cases h; done) | skip
        rename_i ks' id off len cap e
        cases e
        split at h
        · rename_i g hg
          cases c : (Nat.ble (off + ks.length) g.cs.length && (Nat.beq len ks.length && (Nat.beq cap ks.length && g.tl.isNone))) <;> simp only [c, cond_false, cond_true] at h
          · cases h
          · simp only [Bool.and_eq_true] at c
            obtain ⟨c, c1, c2, ct⟩ := c
            have c1 := Nat.eq_of_beq_eq_true c1
            have c2 := Nat.eq_of_beq_eq_true c2
            subst c1 c2
            have c := Nat.le_of_ble_eq_true c
            obtain ⟨zs, h1, h2, h3, h4, h5⟩ := cellsAS_spec hR (d := d) h
            have hg := hrd _ _ hg
            refine ⟨by rw [h3]; exact i1, ?_, fun pre preL => ?_⟩
            · rw [h2]; exact allHas_append h5 i2
            · rw [h2, h3]
              simp only [SV.is, Cell.den] at ha
              refine ⟨(d.α id).1, (d.α id).2 + off, args, by rw [ha], hP.lt0 hg ct, fun i x hx => ?_, ?_⟩
              · rw [kdVals_append ks pre.length zs h1 rfl, ← h4, List.getElem?_map, Option.map_eq_some_iff] at hx
                obtain ⟨c', hc', rfl⟩ := hx
                have := drop_take_get hc'
                have := (hP.reg _ _ hg).cell hP.bl this.1
                rw [Nat.add_assoc]; exact this
              · have := i3 (pre ++ zs) preL
                rw [List.length_append, h1, List.append_assoc] at this
                exact this
        · cases h
      | fnc g =>
        unfold argAS at h
        split at h
        all_goals first | (rename_i e _; cases e; done) | (rename_i e; cases e; done) | skip
        all_goals first | (cases h; done) | skip
        rename_i g1 g2 e
        cases e
        cases c : Nat.beq g g2 <;> simp only [c, cond_false, cond_true] at h
        · cases h
        · cases h
          have c := Nat.eq_of_beq_eq_true c
          subst c
          simp only [SV.is, Cell.den] at ha
          exact ⟨i1, i2, fun pre preL => ⟨args, by rw [ha], i3 pre preL⟩⟩
      | str =>
        unfold argAS at h
        split at h
        all_goals first | (rename_i e _; cases e; done) | (rename_i e; cases e; done) | skip
        all_goals first | (cases h; done) | skip
        rename_i l e
        split at h
        · rename_i p hp
          cases c : (p.1.sub ⟨0, 255⟩ && ile p.2 9223372036854775807) <;> simp only [c, cond_false, cond_true] at h
          · cases h
          · cases h
            simp only [Bool.and_eq_true] at c
            simp only [SV.is, Cell.den] at ha
            obtain ⟨b1, b2⟩ := L.iv_ok hR (ρ := d.ρ) l hp
            have k3 : ∀ x ∈ l.den d.Φ d.ρ, 0 ≤ x ∧ x ≤ 255 := fun x hx => Iv.sub_has c.1 (b1 x hx)
            have k4 : ((l.den d.Φ d.ρ).length : Int) ≤ maxLen * (([.u8] : List EK).length : Int) := Int.le_trans b2 (ile_iff.1 c.2)
            have k5 : (∀ x ∈ l.den d.Φ d.ρ, (kindsIv [.u8]).has x) := fun x hx => k3 x hx
            refine ⟨⟨⟨k5, k4⟩, i1⟩, i2, fun pre preL => ⟨args, ?_, ?_, ?_⟩⟩
            · rw [ha, List.getD_eq_getElem?_getD, List.getElem?_append_right (Nat.le_refl _), Nat.sub_self]
              rfl
            · rw [List.getD_eq_getElem?_getD, List.getElem?_append_right (Nat.le_refl _), Nat.sub_self]
              exact k3
            · have := i3 pre (preL ++ [l.den d.Φ d.ρ])
              simpa [AS.denL, AS.denE] using this
        · cases h
      | lst ks =>
        unfold argAS at h
        split at h
        all_goals first | (rename_i e _; cases e; done) | (rename_i e; cases e; done) | skip
        all_goals first | (cases h; done) | skip
        rename_i ks' c e
        cases e
        obtain ⟨l, k1, k2, k3, k4⟩ := lstAS_spec hR hP hrd h
        simp only [SV.is] at ha
        refine ⟨by rw [k2]; exact ⟨k3, i1⟩, by rw [k1]; exact i2, fun pre preL => ?_⟩
        rw [k1, k2]
        refine ⟨a, args, rfl, ?_, ?_⟩
        · rw [ha, List.getD_eq_getElem?_getD, List.getElem?_append_right (by omega)]
          simpa using k4
        · have := i3 pre (preL ++ [l])
          simpa using this
      | lsts kss =>
        unfold argAS at h
        split at h
        all_goals first | (rename_i e _; cases e; done) | (rename_i e; cases e; done) | skip
        all_goals first | (cases h; done) | skip
        rename_i ks' cs e
        cases e
        obtain ⟨lls, k1, k2, k3, k4, k5, k6⟩ := lstsAS_spec hR hP hrd h
        simp only [SV.is] at ha
        refine ⟨by rw [k3]; exact allL_append k4 i1, by rw [k2]; exact i2, fun pre preL => ?_⟩
        rw [k2, k3]
        refine ⟨cs.map (Cell.den d), args, by rw [ha], k6 _ _, ?_⟩
        have := i3 pre (preL ++ lls)
        rw [List.length_append, k1, List.append_assoc] at this
        exact this
      | mix ks kss =>
        unfold argAS at h
        split at h
        all_goals first | (rename_i e _; cases e; done) | (rename_i e; cases e; done) | skip
        all_goals first | (cases h; done) | skip
        rename_i ks' kss' cs e
        cases e
        split at h
        · rename_i as1 h0
          obtain ⟨lls, k1, k2, k3, k4, k5, k6⟩ := lstsAS_spec hR hP hrd h0
          obtain ⟨zs, h1, h2, h3, h4, h5⟩ := cellsAS_spec hR (d := d) h
          simp only [SV.is] at ha
          have hsp : cs.map (Cell.den d) = (cs.take ks.length).map (Cell.den d) ++ (cs.drop ks.length).map (Cell.den d) := by
            rw [← List.map_append, List.take_append_drop]
          refine ⟨by rw [h3, k3]; exact allL_append k4 i1, by rw [h2, k2]; exact allHas_append h5 i2, fun pre preL => ?_⟩
          rw [h2, h3, k2, k3]
          refine ⟨(cs.drop ks.length).map (Cell.den d), args, by rw [ha, kdVals_append ks pre.length zs h1 rfl, ← h4, ← hsp], k6 _ _, ?_⟩
          have := i3 (pre ++ zs) (preL ++ lls)
          rw [List.length_append, List.length_append, h1, k1, List.append_assoc, List.append_assoc] at this
          exact this
        · cases h
      | plsts kss =>
        unfold argAS at h
        split at h
        all_goals first | (rename_i e _; cases e; done) | (rename_i e; cases e; done) | skip
        all_goals first | (cases h; done) | skip
        rename_i ks' id off e
        cases e
        split at h
        · rename_i g hg
          cases c : (Nat.ble (off + kss.length) g.cs.length && g.tl.isNone) <;> simp only [c, cond_false, cond_true] at h
          · cases h
          · simp only [Bool.and_eq_true] at c
            obtain ⟨c, ct⟩ := c
            obtain ⟨lls, k1, k2, k3, k4, k5, k6⟩ := lstsAS_spec hR hP hrd h
            have hg := hrd _ _ hg
            refine ⟨by rw [k3]; exact allL_append k4 i1, by rw [k2]; exact i2, fun pre preL => ?_⟩
            rw [k2, k3]
            simp only [SV.is, Cell.den] at ha
            refine ⟨(d.α id).1, (d.α id).2 + off, _, args, by rw [ha], hP.lt0 hg ct, fun i x hx => ?_, k6 _ _, ?_⟩
            · rw [List.getElem?_map, Option.map_eq_some_iff] at hx
              obtain ⟨c', hc', rfl⟩ := hx
              have := drop_take_get hc'
              have := (hP.reg _ _ hg).cell hP.bl this.1
              rw [Nat.add_assoc]; exact this
            · have := i3 pre (preL ++ lls)
              rw [List.length_append, k1, List.append_assoc] at this
              exact this
        · cases h
    · cases h

/-! ### Results -/
theorem resCells_den (hR : RV d.Φ R d.ρ) (g : Nat) (as : AS) : ∀ (ks : List Kd) (j : Nat),
    (resCells R g as j ks).map (Cell.den d) = kdVals (d.Φ g (as.denE d.Φ d.ρ) (as.denL d.Φ d.ρ)).1 j ks
  | [], _ => rfl
  | .i k :: ks, j => by simp only [resCells, List.map_cons, kdVals, Cell.den, E.den, kdVal, resCells_den hR g as ks (j + 1)]
  | .n k _ _ :: ks, j => by simp only [resCells, List.map_cons, kdVals, Cell.den, E.den, kdVal, resCells_den hR g as ks (j + 1)]
  | .b :: ks, j => by
    simp only [resCells, List.map_cons, kdVals, Cell.den, kdVal, resCells_den hR g as ks (j + 1), toB_den hR]
    rfl

theorem varCells_den {n N : Nat} {xs : List Int} (hv : ∀ j, j < N → d.ρ.i.getD (n + j) 0 = xs.getD j 0) : ∀ (ks : List Kd) (j : Nat), j + ks.length ≤ N →
    (varCells (n + j) ks).map (Cell.den d) = kdVals xs j ks
  | [], _, _ => rfl
  | .i k :: ks, j, h => by
    simp only [List.length_cons] at h
    have := varCells_den hv ks (j + 1) (by omega)
    simp only [varCells, List.map_cons, kdVals, Cell.den, E.den, kdVal, hv j (by omega)]
    rw [show n + j + 1 = n + (j + 1) by omega, this]
  | .n k _ _ :: ks, j, h => by
    simp only [List.length_cons] at h
    have := varCells_den hv ks (j + 1) (by omega)
    simp only [varCells, List.map_cons, kdVals, Cell.den, E.den, kdVal, hv j (by omega)]
    rw [show n + j + 1 = n + (j + 1) by omega, this]
  | .b :: ks, j, h => by
    simp only [List.length_cons] at h
    have := varCells_den hv ks (j + 1) (by omega)
    simp only [varCells, List.map_cons, kdVals, Cell.den, B.den, kdVal]
    rw [show n + j + 1 = n + (j + 1) by omega, this]
    congr 1
    simp only [E.den, hv j (by omega)]

theorem compV_compVal (b : Bool) (cs : List Cell) : compV d (b, cs) = compVal b (cs.map (Cell.den d)) := by
  cases b
  · cases cs <;> rfl
  · rfl

theorem resComps_den (hR : RV d.Φ R d.ρ) (g : Nat) (as : AS) : ∀ (res : List (Bool × List Kd)) (j : Nat),
    (resComps R g as j res).map (compV d) = resVals (d.Φ g (as.denE d.Φ d.ρ) (as.denL d.Φ d.ρ)).1 j res
  | [], _ => rfl
  | (b, ks) :: res, j => by simp only [resComps, List.map_cons, resVals, compV_compVal, resCells_den hR, resComps_den hR g as res (j + ks.length)]

theorem varComps_den {n N : Nat} {xs : List Int} (hv : ∀ j, j < N → d.ρ.i.getD (n + j) 0 = xs.getD j 0) : ∀ (res : List (Bool × List Kd)) (j : Nat), j + (res.flatMap (·.2)).length ≤ N →
    (varComps (n + j) res).map (compV d) = resVals xs j res
  | [], _, _ => rfl
  | (b, ks) :: res, j, h => by
    simp only [List.flatMap_cons, List.length_append] at h
    have := varComps_den hv res (j + ks.length) (by omega)
    simp only [varComps, List.map_cons, resVals, compV_compVal, varCells_den hv ks j (by omega)]
    rw [show n + j + ks.length = n + (j + ks.length) by omega, this]

theorem resSV_is {comps : List (Bool × List Cell)} {sv : SV} (h : resSV comps = some sv) : sv.is d (oneOr (comps.map (compV d))) := by
  unfold resSV at h
  split at h
  · cases h; rfl
  · cases h; rfl
  · cases h
  · rename_i cs h1 h2 h3
    cases h
    simp only [SV.is]
    cases comps with
    | nil => rfl
    | cons p r => cases r with
      | nil => exact absurd rfl (h3 p)
      | cons q r => rfl

/-- Cells without pointers. -/
def Cell.plain : Cell → Bool
  | .int _ _ | .bool _ => true
  | _ => false
theorem Cell.plain_ok {c : Cell} (h : c.plain = true) : c.ok d hp := by cases c <;> first | trivial | cases h
theorem resCells_plain (R : Bds) (g : Nat) (as : AS) : ∀ (ks : List Kd) (j : Nat), ∀ c ∈ resCells R g as j ks, c.plain = true
  | [], _, _, h => by cases h
  | .i k :: ks, j, c, h => by
    simp only [resCells, List.mem_cons] at h
    rcases h with h | h
    · subst h; rfl
    · exact resCells_plain R g as ks (j + 1) c h
  | .n k _ _ :: ks, j, c, h => by
    simp only [resCells, List.mem_cons] at h
    rcases h with h | h
    · subst h; rfl
    · exact resCells_plain R g as ks (j + 1) c h
  | .b :: ks, j, c, h => by
    simp only [resCells, List.mem_cons] at h
    rcases h with h | h
    · subst h; rfl
    · exact resCells_plain R g as ks (j + 1) c h
theorem varCells_plain : ∀ (ks : List Kd) (n : Nat), ∀ c ∈ varCells n ks, c.plain = true
  | [], _, _, h => by cases h
  | .i k :: ks, n, c, h => by
    simp only [varCells, List.mem_cons] at h
    rcases h with h | h
    · subst h; rfl
    · exact varCells_plain ks (n + 1) c h
  | .n k _ _ :: ks, n, c, h => by
    simp only [varCells, List.mem_cons] at h
    rcases h with h | h
    · subst h; rfl
    · exact varCells_plain ks (n + 1) c h
  | .b :: ks, n, c, h => by
    simp only [varCells, List.mem_cons] at h
    rcases h with h | h
    · subst h; rfl
    · exact varCells_plain ks (n + 1) c h
theorem resComps_plain (R : Bds) (g : Nat) (as : AS) : ∀ (res : List (Bool × List Kd)) (j : Nat), ∀ p ∈ resComps R g as j res, ∀ c ∈ p.2, c.plain = true
  | [], _, _, h => by cases h
  | (b, ks) :: res, j, p, h => by
    simp only [resComps, List.mem_cons] at h
    rcases h with h | h
    · subst h; exact resCells_plain R g as ks j
    · exact resComps_plain R g as res _ p h
theorem varComps_plain : ∀ (res : List (Bool × List Kd)) (n : Nat), ∀ p ∈ varComps n res, ∀ c ∈ p.2, c.plain = true
  | [], _, _, h => by cases h
  | (b, ks) :: res, n, p, h => by
    simp only [varComps, List.mem_cons] at h
    rcases h with h | h
    · subst h; exact varCells_plain ks n
    · exact varComps_plain res _ p h
theorem resSV_ok {comps : List (Bool × List Cell)} {sv : SV} (h : resSV comps = some sv) (hc : ∀ p ∈ comps, ∀ c ∈ p.2, c.plain = true) : sv.ok d hp := by
  unfold resSV at h
  split at h
  · rename_i cs
    cases h
    exact fun c hm => Cell.plain_ok (hc _ List.mem_cons_self c hm)
  · rename_i c
    cases h
    exact Cell.plain_ok (hc _ List.mem_cons_self c List.mem_cons_self)
  · cases h
  · cases h
    exact fun p hp c hm => Cell.plain_ok (hc p hp c hm)

theorem callOp_some {q : Op} {g : Nat} {s : Sig} {as : AS} (h : callOp C R v rd q = some (g, s, as)) :
    ∃ c f args, q = .call c ∧ c.callee = .value f ∧ v f = some (.one (.fn g)) ∧ svs v c.args.toList = some args ∧ sigOf C.sigs g = some s ∧ plainFn C.P g = true ∧ ∃ args', callArgs C g args = some args' ∧ argsAS R rd s.params args' = some as := by
  unfold callOp at h
  split at h
  · rename_i c
    split at h
    · rename_i f hc
      split at h
      · rename_i g' args hf ha
        split at h
        · rename_i s' hs
          cases c1 : plainFn C.P g' <;> simp only [c1, cond_false, cond_true] at h
          · cases h
          · simp only [Option.map_eq_some_iff, Option.bind_eq_some_iff, Prod.mk.injEq] at h
            obtain ⟨as', ⟨args', h0, h1⟩, rfl, rfl, rfl⟩ := h
            exact ⟨c, f, args, rfl, hc, hf, ha, hs, c1, args', h0, h1⟩
        · cases h
      · cases h
    · cases h
  · cases h
theorem callArgs_plain {f : Nat} {args args' : List SV} (h : callArgs C f args = some args') (hn : clOf C.cls f = none) : args' = args := by
  unfold callArgs at h
  rw [hn] at h
  exact (Option.some.inj h).symm
theorem callArgs_clo {f g : Nat} {args args' : List SV} (h : callArgs C f args = some args') (hn : clOf C.cls f = some g) :
    ∃ ps, args = [.one (.clo g ps)] ∧ memN f C.pfs = false ∧ args' = ps.map fun p => .one (.ptr p.1 p.2) := by
  unfold callArgs at h
  rw [hn] at h
  simp only at h
  split at h
  · rename_i g' ps
    cases c : (Nat.beq g g' && !memN f C.pfs) <;> simp only [c, cond_false, cond_true] at h
    · cases h
    · simp only [Bool.and_eq_true, Bool.not_eq_true'] at c
      obtain ⟨c1, c2⟩ := c
      have c1 := Nat.eq_of_beq_eq_true c1
      subst c1
      exact ⟨ps, rfl, c2, (Option.some.inj h).symm⟩
  · cases h

/-- A CALL: whatever the executor asks of its outcome. -/
theorem call_wp (hC : CTs C d.Φ Pr) (hR : RV d.Φ R d.ρ) (hP : HP X d hp w) {a : Act} (he : e = a.eval) (hv : Reads d hp v e) (hrd : ∀ id r, rd id = some r → getH hp id = some r)
    {g : Nat} {s : Sig} {as : AS} (h : callOp C R v rd o.op = some (g, s, as)) (hnp : memN g C.pfs = false) (hpre : s.total = true ∨ Pr g (as.denE d.Φ d.ρ) (as.denL d.Φ d.ρ))
    {K : Act → World → Prop} {Q : Exit → Act → World → Prop}
    (hK : ∀ w', HP X d hp w' → K (a.put o.dst (resV s (d.Φ g (as.denE d.Φ d.ρ) (as.denL d.Φ d.ρ)).1)) w') : o.wp C.P a w K Q := by
  obtain ⟨c, f, args, hq, hc, hf, ha, hs, hpl, args', ha', has⟩ := callOp_some h
  obtain ⟨l1, l2, l3⟩ := svs_spec hv ha
  have hpr : Pr g (as.denE d.Φ d.ρ) (as.denL d.Φ d.ρ) := by
    rcases hpre with ht | hp'
    · exact hC.tot g s hs ht _ _
    · exact hp'
  have hct := hC.ct g s hs
  unfold CTq at hct
  have hcall : Calls C.P g (c.args.toList.map e).toArray w fun x w' => x = .returned (resV s (d.Φ g (as.denE d.Φ d.ρ) (as.denL d.Φ d.ρ)).1) ∧ Below w.heap.size w w' := by
    cases hcl : clOf C.cls g with
    | none =>
      rw [hcl] at hct
      simp only at hct
      rw [hnp] at hct
      obtain rfl := callArgs_plain ha' hcl
      obtain ⟨m1, m2, m3⟩ := argsAS_spec hR hP hrd has (args := c.args.toList.map e) (by simp [l1]) l2 l3
      exact hct w (as.denE d.Φ d.ρ) (as.denL d.Φ d.ρ) (c.args.toList.map e) m2 m1 (by simpa using m3 [] []) hpr
    | some g' =>
      rw [hcl] at hct
      simp only at hct
      obtain ⟨ps, rfl, _, rfl⟩ := callArgs_clo ha' hcl
      have z1 : (c.args.toList.map e).length = 1 := by rw [List.length_map, ← l1]; rfl
      obtain ⟨y, hy⟩ : ∃ y, c.args.toList = [y] := by
        rw [List.length_map] at z1
        exact List.length_eq_one_iff.1 z1
      rw [hy] at l2 ⊢
      have z2 := l2 0 (.one (.clo g' ps)) (e y) rfl rfl
      simp only [SV.is, Cell.den] at z2
      have z3 : (SV.one (.clo g' ps)).ok d hp := l3 _ List.mem_cons_self
      obtain ⟨m1, m2, m3⟩ := argsAS_spec hR hP hrd has (args := ps.map fun p => Value.pointer (some ⟨(d.α p.1).1, (d.α p.1).2 + p.2, none⟩)) (by simp)
        (fun k x q hk hq => by
          rw [List.getElem?_map, Option.map_eq_some_iff] at hk hq
          obtain ⟨p, hp1, rfl⟩ := hk
          obtain ⟨p', hp2, rfl⟩ := hq
          rw [hp1] at hp2
          cases hp2
          rfl)
        (fun x hx => by
          obtain ⟨p, hp1, rfl⟩ := List.mem_map.1 hx
          exact z3 p hp1)
      have := hct w (as.denE d.Φ d.ρ) (as.denL d.Φ d.ρ) _ m2 m1 (by simpa using m3 [] []) hpr
      simpa [z2] using this
  have hfe := hv.is _ _ hf
  simp only [SV.is, Cell.den] at hfe
  unfold plainFn at hpl
  split at hpl
  · rename_i fn hfn
    simp only [Bool.and_eq_true, Bool.not_eq_true'] at hpl
    obtain ⟨p1, p2⟩ := hpl
    have run : (execOp a.eval o).run C.P w = .ok (.enter g (c.args.toList.map e).toArray) w := by
      subst he
      simp only [execOp, hq, resolve, hc, hfe, Deferred.ofValue, Sem.run_bind, Sem.run_pure, Result.andThen_ok, invoke, callFunc, run_program, hfn]
      have : (fn.name == "runtime.NumGoroutine") = false := p2
      simp only [this, Bool.false_eq_true, if_false]
      have hb : fn.body.isNone = false := by cases hb : fn.body <;> simp [hb] at p1 ⊢
      simp [hb, ← List.map_toArray]
    unfold Oper.wp
    rw [run, Oper.upon_enter]
    refine Calls.mono hcall fun x w' ⟨hx, hw⟩ => ?_
    subst hx
    exact hK w' (hP.regs hw)
  · cases hpl

theorem pcall_wp (hC : CTs C d.Φ Pr) (hR : RV d.Φ R d.ρ) (hP : HP X d hp w) {a : Act} (he : e = a.eval) (hv : Reads d hp v e) (hrd : ∀ id r, rd id = some r → getH hp id = some r)
    {g : Nat} {s : Sig} {as : AS} (h : callOp C R v rd o.op = some (g, s, as)) (hnp : memN g C.pfs = true) (hpre : s.total = true ∨ Pr g (as.denE d.Φ d.ρ) (as.denL d.Φ d.ρ))
    {K : Act → World → Prop} {Q : Exit → Act → World → Prop}
    (hK : ∀ w', HP X d hp w' → (d.Φ g (as.denE d.Φ d.ρ) (as.denL d.Φ d.ρ)).1.getD 0 0 = 0 → K (a.put o.dst (oneOr (resVals (d.Φ g (as.denE d.Φ d.ρ) (as.denL d.Φ d.ρ)).1 1 s.res.tail))) w')
    (hX : ∀ w', Bl X w' → (d.Φ g (as.denE d.Φ d.ρ) (as.denL d.Φ d.ρ)).1.getD 0 0 ≠ 0 → Q (.panic (panicV C.pty ((d.Φ g (as.denE d.Φ d.ρ) (as.denL d.Φ d.ρ)).1.getD 0 0))) a w') : o.wp C.P a w K Q := by
  obtain ⟨c, f, args, hq, hc, hf, ha, hs, hpl, args', ha', has⟩ := callOp_some h
  obtain ⟨l1, l2, l3⟩ := svs_spec hv ha
  have hncl : clOf C.cls g = none := by
    cases hcl : clOf C.cls g with
    | none => rfl
    | some g' =>
      obtain ⟨_, _, q, _⟩ := callArgs_clo ha' hcl
      rw [hnp] at q; cases q
  obtain rfl := callArgs_plain ha' hncl
  obtain ⟨m1, m2, m3⟩ := argsAS_spec hR hP hrd has (args := c.args.toList.map e) (by simp [l1]) l2 l3
  have hpr : Pr g (as.denE d.Φ d.ρ) (as.denL d.Φ d.ρ) := by
    rcases hpre with ht | hp'
    · exact hC.tot g s hs ht _ _
    · exact hp'
  have hct := hC.ct g s hs
  unfold CTq at hct
  rw [hncl] at hct
  simp only at hct
  rw [hnp] at hct
  have hcall := hct w (as.denE d.Φ d.ρ) (as.denL d.Φ d.ρ) (c.args.toList.map e) m2 m1 (by simpa using m3 [] []) hpr
  have hfe := hv.is _ _ hf
  simp only [SV.is, Cell.den] at hfe
  unfold plainFn at hpl
  split at hpl
  · rename_i fn hfn
    simp only [Bool.and_eq_true, Bool.not_eq_true'] at hpl
    obtain ⟨p1, p2⟩ := hpl
    have run : (execOp a.eval o).run C.P w = .ok (.enter g (c.args.toList.map e).toArray) w := by
      subst he
      simp only [execOp, hq, resolve, hc, hfe, Deferred.ofValue, Sem.run_bind, Sem.run_pure, Result.andThen_ok, invoke, callFunc, run_program, hfn]
      have : (fn.name == "runtime.NumGoroutine") = false := p2
      simp only [this, Bool.false_eq_true, if_false]
      have hb : fn.body.isNone = false := by cases hb : fn.body <;> simp [hb] at p1 ⊢
      simp [hb, ← List.map_toArray]
    unfold Oper.wp
    rw [run, Oper.upon_enter]
    refine Calls.mono hcall fun x w' ⟨hx, hw⟩ => ?_
    rcases hx with ⟨h0, hx⟩ | ⟨h0, hx⟩
    · subst hx
      exact hK w' (hP.regs hw) h0
    · subst hx
      exact hX w' (hP.regs hw).bl h0
  · cases hpl

/-! ### Functions that return lists -/
theorem resSV_okc {comps : List (Bool × List Cell)} {sv : SV} (h : resSV comps = some sv) (hc : ∀ p ∈ comps, ∀ c ∈ p.2, c.ok d hp) : sv.ok d hp := by
  unfold resSV at h
  split at h
  · rename_i cs
    cases h
    exact fun c hm => hc _ List.mem_cons_self c hm
  · rename_i c
    cases h
    exact hc _ List.mem_cons_self c List.mem_cons_self
  · cases h
  · cases h
    exact fun p hp c hm => hc p hp c hm
theorem lComps_den {n N : Nat} {xs : List Int} (hv : ∀ j, j < N → d.ρ.i.getD (n + j) 0 = xs.getD j 0) : ∀ (res : List LR) (j : Nat) (cs : List Cell) (vs : List Value), j + (lsKds res).length ≤ N → cs.map (Cell.den d) = vs →
    (lComps (n + j) cs res).map (compV d) = lVals xs j vs res
  | [], _, _, _, _, _ => rfl
  | .n b ks :: r, j, cs, vs, h, e => by
    simp only [lsKds, List.length_append] at h
    simp only [lComps, lVals, List.map_cons, compV_compVal, varCells_den hv ks j (by omega)]
    rw [Nat.add_assoc, lComps_den hv r (j + ks.length) cs vs (by omega) e]
  | .l agg kss _ :: r, j, cs, vs, h, e => by
    simp only [lsKds] at h
    simp only [lComps, lVals, List.map_cons, compV_compVal]
    rw [lComps_den hv r j _ (vs.drop kss.length) h (by rw [← e, List.map_drop]), List.map_take, e]
  | .m ks kss _ :: r, j, cs, vs, h, e => by
    simp only [lsKds, List.length_append] at h
    simp only [lComps, lVals, List.map_cons, compV_compVal, List.map_append, varCells_den hv ks j (by omega)]
    rw [Nat.add_assoc, lComps_den hv r (j + ks.length) _ (vs.drop kss.length) (by omega) (by rw [← e, List.map_drop]), List.map_take, e]
theorem lComps_ok : ∀ (res : List LR) (n : Nat) (cs : List Cell), (∀ c ∈ cs, c.ok d hp) → ∀ p ∈ lComps n cs res, ∀ c ∈ p.2, c.ok d hp
  | [], _, _, _, p, h, _, _ => by cases h
  | .n b ks :: r, n, cs, hc, p, h, c, hm => by
    simp only [lComps, List.mem_cons] at h
    rcases h with h | h
    · subst h; exact Cell.plain_ok (varCells_plain ks n c hm)
    · exact lComps_ok r _ cs hc p h c hm
  | .l agg kss _ :: r, n, cs, hc, p, h, c, hm => by
    simp only [lComps, List.mem_cons] at h
    rcases h with h | h
    · subst h; exact hc c (List.mem_of_mem_take hm)
    · exact lComps_ok r _ (cs.drop kss.length) (fun c h => hc c (List.mem_of_mem_drop h)) p h c hm
  | .m ks kss _ :: r, n, cs, hc, p, h, c, hm => by
    simp only [lComps, List.mem_cons] at h
    rcases h with h | h
    · subst h
      rcases List.mem_append.1 hm with hm | hm
      · exact Cell.plain_ok (varCells_plain ks n c hm)
      · exact hc c (List.mem_of_mem_take hm)
    · exact lComps_ok r _ (cs.drop kss.length) (fun c h => hc c (List.mem_of_mem_drop h)) p h c hm
theorem lcOp_some {q : Op} {g : Nat} {s : LSig} {as : AS} (h : lcOp C R v rd q = some (g, s, as)) :
    ∃ c args, q = .call c ∧ c.callee = .value (.func g) ∧ svs v c.args.toList = some args ∧ lfOf C.lfs g = some s ∧ plainFn C.P g = true ∧ argsAS R rd s.params args = some as := by
  unfold lcOp at h
  split at h
  · rename_i c
    split at h
    · rename_i g' hc
      split at h
      · rename_i s' args hs ha
        cases c1 : plainFn C.P g' <;> simp only [c1, cond_false, cond_true] at h
        · cases h
        · simp only [Option.map_eq_some_iff, Prod.mk.injEq] at h
          obtain ⟨as', h1, rfl, rfl, rfl⟩ := h
          exact ⟨c, args, rfl, hc, ha, hs, c1, h1⟩
      · cases h
    · cases h
  · cases h
theorem lcall_wp (hC : CTs C d.Φ Pr) (hR : RV d.Φ R d.ρ) (hP : HP X d hp w) {a : Act} (he : e = a.eval) (hv : Reads d hp v e) (hrd : ∀ id r, rd id = some r → getH hp id = some r)
    {g : Nat} {s : LSig} {as : AS} (h : lcOp C R v rd o.op = some (g, s, as)) (hpre : s.total = true ∨ Pr g (as.denE d.Φ d.ρ) (as.denL d.Φ d.ρ))
    {K : Act → World → Prop} {Q : Exit → Act → World → Prop}
    (hK : ∀ x w', LPost s w.heap.size w' (d.Φ g (as.denE d.Φ d.ρ) (as.denL d.Φ d.ρ)) (.returned x) → HP X d hp w' → K (a.put o.dst x) w') : o.wp C.P a w K Q := by
  obtain ⟨c, args, hq, hc, ha, hs, hpl, has⟩ := lcOp_some h
  obtain ⟨l1, l2, l3⟩ := svs_spec hv ha
  obtain ⟨m1, m2, m3⟩ := argsAS_spec hR hP hrd has (args := c.args.toList.map e) (by simp [l1]) l2 l3
  have hpr : Pr g (as.denE d.Φ d.ρ) (as.denL d.Φ d.ρ) := by
    rcases hpre with ht | hp'
    · exact hC.ltot g s hs ht _ _
    · exact hp'
  have hcall := hC.lf g s hs w (as.denE d.Φ d.ρ) (as.denL d.Φ d.ρ) (c.args.toList.map e) m2 m1 (by simpa using m3 [] []) hpr
  unfold plainFn at hpl
  split at hpl
  · rename_i fn hfn
    simp only [Bool.and_eq_true, Bool.not_eq_true'] at hpl
    obtain ⟨p1, p2⟩ := hpl
    have run : (execOp a.eval o).run C.P w = .ok (.enter g (c.args.toList.map e).toArray) w := by
      subst he
      have hfe : a.eval (.func g) = .func (.func g) #[] #[] := rfl
      simp only [execOp, hq, resolve, hc, hfe, Deferred.ofValue, Sem.run_bind, Sem.run_pure, Result.andThen_ok, invoke, callFunc, run_program, hfn]
      have : (fn.name == "runtime.NumGoroutine") = false := p2
      simp only [this, Bool.false_eq_true, if_false]
      have hb : fn.body.isNone = false := by cases hb : fn.body <;> simp [hb] at p1 ⊢
      simp [hb, ← List.map_toArray]
    unfold Oper.wp
    rw [run, Oper.upon_enter]
    refine Calls.mono hcall fun x w' ⟨hx, hw⟩ => ?_
    obtain ⟨vs, bs, rfl, e2⟩ := hx
    exact hK _ w' ⟨vs, bs, rfl, e2⟩ (hP.regs hw)
  · cases hpl

/-! ### Functions that return texts -/
theorem sComps_den {n m N : Nat} {xs : List Int} {zs : List (List Int)} (hv : ∀ j, j < N → d.ρ.i.getD (n + j) 0 = xs.getD j 0) (hz : ∀ j, d.ρ.l.getD (m + j) [] = zs.getD j []) : ∀ (res : List SR) (j q : Nat), j + (ssKds res).length ≤ N →
    (sComps (n + j) (m + q) res).map (compV d) = sVals xs zs j q res
  | [], _, _, _ => rfl
  | .n b ks :: r, j, q, h => by
    simp only [ssKds, List.length_append] at h
    simp only [sComps, sVals, List.map_cons]
    have := sComps_den hv hz r (j + ks.length) q (by omega)
    rw [← Nat.add_assoc] at this
    rw [this, compV_compVal, varCells_den hv ks j (by omega)]
  | .s :: r, j, q, h => by
    simp only [sComps, sVals, List.map_cons]
    have := sComps_den hv hz r j (q + 1) h
    rw [← Nat.add_assoc] at this
    rw [this]
    simp only [compV, Cell.den, L.den, hz, byteV]
theorem sComps_ok {hp : List (Option Reg)} : ∀ (res : List SR) (n m : Nat), ∀ p ∈ sComps n m res, ∀ c ∈ p.2, c.ok d hp
  | [], _, _, p, h => by cases h
  | .n b ks :: r, n, m, p, h => by
    simp only [sComps, List.mem_cons] at h
    rcases h with rfl | h
    · exact fun c hc => Cell.plain_ok (varCells_plain ks n c hc)
    · exact sComps_ok r _ _ p h
  | .s :: r, n, m, p, h => by
    simp only [sComps, List.mem_cons] at h
    rcases h with rfl | h
    · exact fun c hc => by simp only [List.mem_singleton] at hc; subst hc; trivial
    · exact sComps_ok r _ _ p h
theorem scOp_some {q : Op} {g : Nat} {s : SSig} {as : AS} (h : scOp C R v rd q = some (g, s, as)) :
    ∃ c args, q = .call c ∧ c.callee = .value (.func g) ∧ svs v c.args.toList = some args ∧ sfOf C.sfs g = some s ∧ plainFn C.P g = true ∧ argsAS R rd s.params args = some as := by
  unfold scOp at h
  split at h
  · rename_i c
    split at h
    · rename_i g' hc
      split at h
      · rename_i s' args hs ha
        cases c1 : plainFn C.P g' <;> simp only [c1, cond_false, cond_true] at h
        · cases h
        · simp only [Option.map_eq_some_iff, Prod.mk.injEq] at h
          obtain ⟨as', h1, rfl, rfl, rfl⟩ := h
          exact ⟨c, args, rfl, hc, ha, hs, c1, h1⟩
      · cases h
    · cases h
  · cases h
theorem scall_wp (hC : CTs C d.Φ Pr) (hR : RV d.Φ R d.ρ) (hP : HP X d hp w) {a : Act} (he : e = a.eval) (hv : Reads d hp v e) (hrd : ∀ id r, rd id = some r → getH hp id = some r)
    {g : Nat} {s : SSig} {as : AS} (h : scOp C R v rd o.op = some (g, s, as)) (hpre : s.total = true ∨ Pr g (as.denE d.Φ d.ρ) (as.denL d.Φ d.ρ))
    {K : Act → World → Prop} {Q : Exit → Act → World → Prop}
    (hK : ∀ x w', SPost s (d.Φ g (as.denE d.Φ d.ρ) (as.denL d.Φ d.ρ)) (.returned x) → HP X d hp w' → K (a.put o.dst x) w') : o.wp C.P a w K Q := by
  obtain ⟨c, args, hq, hc, ha, hs, hpl, has⟩ := scOp_some h
  obtain ⟨l1, l2, l3⟩ := svs_spec hv ha
  obtain ⟨m1, m2, m3⟩ := argsAS_spec hR hP hrd has (args := c.args.toList.map e) (by simp [l1]) l2 l3
  have hpr : Pr g (as.denE d.Φ d.ρ) (as.denL d.Φ d.ρ) := by
    rcases hpre with ht | hp'
    · exact (hC.sf g s hs).2 ht _ _
    · exact hp'
  have hcall := (hC.sf g s hs).1 w (as.denE d.Φ d.ρ) (as.denL d.Φ d.ρ) (c.args.toList.map e) m2 m1 (by simpa using m3 [] []) hpr
  unfold plainFn at hpl
  split at hpl
  · rename_i fn hfn
    simp only [Bool.and_eq_true, Bool.not_eq_true'] at hpl
    obtain ⟨p1, p2⟩ := hpl
    have run : (execOp a.eval o).run C.P w = .ok (.enter g (c.args.toList.map e).toArray) w := by
      subst he
      have hfe : a.eval (.func g) = .func (.func g) #[] #[] := rfl
      simp only [execOp, hq, resolve, hc, hfe, Deferred.ofValue, Sem.run_bind, Sem.run_pure, Result.andThen_ok, invoke, callFunc, run_program, hfn]
      have : (fn.name == "runtime.NumGoroutine") = false := p2
      simp only [this, Bool.false_eq_true, if_false]
      have hb : fn.body.isNone = false := by cases hb : fn.body <;> simp [hb] at p1 ⊢
      simp [hb, ← List.map_toArray]
    unfold Oper.wp
    rw [run, Oper.upon_enter]
    refine Calls.mono hcall fun x w' ⟨hx, hw⟩ => ?_
    obtain ⟨rfl, e2⟩ := hx
    exact hK _ w' ⟨rfl, e2⟩ (hP.regs hw)
  · cases hpl

/-! ### Functions that write into a slice -/
theorem lstAS_sl {ks : List EK} {id sz : Nat} {off len : E} {as out : AS} (h : lstAS R rd ks (.sl id sz off len) as = some out) :
    ∃ r l, rd id = some r ∧ r.tl = some (ks, l) ∧ sz = ks.length ∧ off = .lit 0 ∧ len = nelE l sz ∧ out = .l l as := by
  simp only [lstAS] at h
  split at h
  · rename_i r hr
    split at h
    · rename_i ks' l htl
      split at h
      · rename_i p hp'
        cases c : (decide (ks = ks') && (Nat.beq sz ks.length && (off.eqb (.lit 0) && (len.eqb (nelE l sz) && (p.1.sub (kindsIv ks) && ile p.2 (maxLen * (ks.length : Int))))))) <;> simp only [c, cond_false, cond_true] at h
        · cases h
        · simp only [Bool.and_eq_true, decide_eq_true_eq] at c
          obtain ⟨c1, c2, c3, c4, _⟩ := c
          cases h
          exact ⟨r, l, hr, by rw [htl, c1], Nat.eq_of_beq_eq_true c2, E.eqb_eq _ _ c3, E.eqb_eq _ _ c4, rfl⟩
      · cases h
    · cases h
  · cases h
theorem wcOp_some {q : Op} {g : Nat} {s : WSig} {t : Option (Nat × Reg × L)} {as' : AS} (h : wcOp C R v rd q = some (g, s, t, as')) :
    ∃ c x args as, q = .call c ∧ c.callee = .value (.func g) ∧ svs v c.args.toList = some (s.sv x :: args) ∧ wfOf C.wfs g = some s ∧ plainFn C.P g = true ∧ argsAS R rd s.params args = some as ∧ lstAS R rd s.ks x as = some as' ∧ s.via = none ∧
      ((x = .nils ∧ t = none) ∨ ∃ id sz off len r ks l, x = .sl id sz off len ∧ rd id = some r ∧ r.tl = some (ks, l) ∧ r.own = true ∧ r.ty = s.ty ∧ t = some (id, r, l)) := by
  unfold wcOp at h
  split at h
  · rename_i c
    split at h
    · rename_i g' hc
      split at h
      · rename_i s' x0 args hs ha
        split at h
        · rename_i as x has hx0
          have hx0 : x0 = s'.sv x := by
            unfold svOne at hx0
            unfold WSig.sv
            split at hx0
            · cases ha : s'.agg <;> simp only [ha, cond_false, cond_true, Option.some.injEq, reduceCtorEq] at hx0 ⊢
              rw [hx0]
            · cases ha : s'.agg <;> simp only [ha, cond_false, cond_true, Option.some.injEq, reduceCtorEq] at hx0 ⊢
              rw [hx0]
            · cases hx0
          subst hx0
          split at h
          · rename_i as1 hl
            cases c1 : plainFn C.P g' <;> simp only [c1, cond_false, cond_true] at h
            · cases h
            · split at h
              · cases hv : s'.via.isNone <;> simp only [hv, cond_false, cond_true] at h
                · cases h
                cases h
                exact ⟨c, _, args, as, rfl, hc, ha, hs, c1, has, hl, Option.isNone_iff_eq_none.1 hv, .inl ⟨rfl, rfl⟩⟩
              · rename_i id sz off len
                split at h
                · rename_i r hr
                  split at h
                  · rename_i ks l htl
                    cases c2 : (s'.via.isNone && (r.own && Nat.beq r.ty s'.ty)) <;> simp only [c2, cond_false, cond_true] at h
                    · cases h
                    · simp only [Bool.and_eq_true] at c2
                      obtain ⟨hv, c2⟩ := c2
                      cases h
                      exact ⟨c, _, args, as, rfl, hc, ha, hs, c1, has, hl, Option.isNone_iff_eq_none.1 hv, .inr ⟨id, sz, off, len, r, ks, l, rfl, hr, htl, c2.1, Nat.eq_of_beq_eq_true c2.2, rfl⟩⟩
                  · cases h
                · cases h
              · cases h
          · cases h
        · cases h
      · cases h
    · cases h
  · cases h
theorem wparams_lvs (s : WSig) : parLvs s.params = [] := by
  simp only [WSig.params, parLvs]
  generalize s.nums = ns
  induction ns with
  | nil => rfl
  | cons k r ih => simp only [List.map_cons, List.flatMap_cons, PSh.lss, List.map_nil, List.nil_append]; exact ih
theorem wcall_wp (hC : CTs C d.Φ Pr) (hR : RV d.Φ R d.ρ) (hP : HP X d hp w) {a : Act} (he : e = a.eval) (hv : Reads d hp v e) (hrd : ∀ id r, rd id = some r → getH hp id = some r)
    {g : Nat} {s : WSig} {t : Option (Nat × Reg × L)} {as : AS} (h : wcOp C R v rd o.op = some (g, s, t, as)) (hpre : s.total = true ∨ Pr g (as.denE d.Φ d.ρ) (as.denL d.Φ d.ρ))
    {K : Act → World → Prop} {Q : Exit → Act → World → Prop}
    (hK : ∀ x w', WPost s (d.Φ g (as.denE d.Φ d.ρ) (as.denL d.Φ d.ρ)) (.returned x) →
      ((t = none ∧ HP X d hp w') ∨ ∃ id r l c l' rest', t = some (id, r, l) ∧ getH hp id = some r ∧ r.tl = some (s.ks, l) ∧ r.own = true ∧ r.ty = s.ty ∧ d.κ id = some c ∧ Wrote w w' (d.α id).1 ∧
        (d.Φ g (as.denE d.Φ d.ρ) (as.denL d.Φ d.ρ)).2 = [l'] ∧ Kinds s.ks l' ∧ l'.length = (l.den d.Φ d.ρ).length ∧ w'.heap[(d.α id).1]? = some (.cells (numsV s.ks l' ++ rest').toArray s.ty (0, 0)) ∧ l'.length + rest'.length = c * s.ks.length) →
      K (a.put o.dst x) w') : o.wp C.P a w K Q := by
  obtain ⟨c, x, args, as0, hq, hc, ha, hs, hpl, has, hl, hvia, ht⟩ := wcOp_some h
  have hct : CTW0 C.P d.Φ Pr g s := by
    have := (hC.wf g s hs).1
    unfold CTW at this
    rw [hvia] at this
    exact this
  obtain ⟨l1, l2, l3⟩ := svs_spec hv ha
  obtain ⟨y, ys, hy⟩ : ∃ y ys, c.args.toList = y :: ys := by
    cases hh : c.args.toList with
    | nil => rw [hh] at l1; simp at l1
    | cons y ys => exact ⟨y, ys, rfl⟩
  have hx : e y = s.arg (x.den d) := by
    have hx := l2 0 (s.sv x) (e y) rfl (by simp [hy])
    unfold WSig.sv at hx
    unfold WSig.arg
    cases ha : s.agg <;> simp only [ha, cond_false, cond_true] at hx ⊢
    · exact hx
    · simpa [SV.is] using hx
  obtain ⟨m1, m2, m3⟩ := argsAS_spec hR hP hrd has (args := ys.map e) (by rw [hy] at l1; simp at l1; simpa using l1) (fun k z q hk hq => l2 (k + 1) z q (by simpa using hk) (by simpa [hy] using hq)) (fun z hz => l3 z (List.mem_cons_of_mem _ hz))
  rw [wparams_lvs] at m1
  have hnil : as0.denL d.Φ d.ρ = [] := by
    cases h : as0.denL d.Φ d.ρ with
    | nil => rfl
    | cons _ _ => rw [h] at m1; exact m1.elim
  obtain ⟨lv, n1, n2, n3, n4⟩ := lstAS_spec hR hP hrd hl
  rw [hnil] at n2
  have n5 : as.denL d.Φ d.ρ = [lv] := n2
  have hpr : Pr g (as.denE d.Φ d.ρ) (as.denL d.Φ d.ρ) := by
    rcases hpre with ht | hp'
    · exact (hC.wf g s hs).2 ht _ _
    · exact hp'
  have m3' := m3 [] []
  rw [hnil] at m3'
  simp only [List.nil_append, List.length_nil] at m3'
  rw [n5, n1] at hpr hK
  obtain ⟨c1, c2⟩ := hct w (as0.denE d.Φ d.ρ) lv (x.den d) (ys.map e) m2 ⟨n3, trivial⟩ m3' hpr
  rw [← hx] at c1 c2
  unfold plainFn at hpl
  split at hpl
  · rename_i fn hfn
    simp only [Bool.and_eq_true, Bool.not_eq_true'] at hpl
    obtain ⟨p1, p2⟩ := hpl
    have run : (execOp a.eval o).run C.P w = .ok (.enter g (e y :: ys.map e).toArray) w := by
      subst he
      have hfe : a.eval (.func g) = .func (.func g) #[] #[] := rfl
      have hm : c.args.map a.eval = (a.eval y :: ys.map a.eval).toArray := by
        rw [← Array.toArray_toList (xs := c.args), hy]; simp
      simp only [execOp, hq, resolve, hc, hfe, Deferred.ofValue, Sem.run_bind, Sem.run_pure, Result.andThen_ok, invoke, callFunc, run_program, hfn]
      have : (fn.name == "runtime.NumGoroutine") = false := p2
      simp only [this, Bool.false_eq_true, if_false]
      have hb : fn.body.isNone = false := by cases hb : fn.body <;> simp [hb] at p1 ⊢
      simp [hb, hm]
    unfold Oper.wp
    rw [run, Oper.upon_enter]
    rcases ht with ⟨rfl, rfl⟩ | ⟨id, sz, off, len, r, ks, l, rfl, hr, htl, ho, hty, rfl⟩
    · have hlv : lv = [] := by
        simp only [lstAS, Option.some.injEq] at hl
        subst hl
        simp only [AS.denL, L.den, List.cons.injEq] at n5
        exact n5.1.symm
      refine Calls.mono (c1 rfl hlv) fun ex w' ⟨hx, hw⟩ => ?_
      obtain ⟨rfl, e2⟩ := hx
      exact hK _ w' ⟨rfl, e2⟩ (.inl ⟨rfl, hP.regs hw⟩)
    · obtain ⟨r', l', k1, k2, k3, k4, k5, k6⟩ := lstAS_sl hl
      rw [hr] at k1
      cases k1
      rw [htl] at k2
      cases k2
      subst k3 k4 k5 k6
      have hg := hrd _ _ hr
      have hreg := hP.reg _ _ hg
      unfold RegIs at hreg
      rw [htl] at hreg
      obtain ⟨_, q1, _, q2⟩ := hreg
      rw [if_pos ho] at q2
      obtain ⟨q3, _, rest, cc, q4, q5, q6⟩ := q2
      have hlv : l.den d.Φ d.ρ = lv := by
        simp only [AS.denL, hnil, List.cons.injEq] at n5
        exact n5.1
      simp only at q1 q4 q6
      rw [hlv] at q1 q4 q6
      refine Calls.mono (c2 (d.α id).1 rest cc ?_ q1 (by rw [← hty]; exact q4) q6) fun ex w' ⟨hx, hw, l', rest', z1, z2, z3, z4, z5⟩ => ?_
      · simp only [Cell.den, q5, E.den, q3, nelE_nat, hlv, Int.toNat_natCast]
        simp
      · obtain ⟨rfl, e2⟩ := hx
        exact hK _ w' ⟨rfl, e2⟩ (.inr ⟨id, r, l, cc, l', rest', rfl, hg, htl, ho, hty, q5, hw, z1, z2, by rw [hlv]; exact z3, z4, z5⟩)
  · cases hpl
theorem wHalf_some {s : WSig} {x : Cell} {k : E} {t : Option (Nat × Reg × L)} {as' : AS} (h : wHalf R rd s x k = some (t, as')) :
    ∃ as, argsAS R rd s.params [.one (.int .i64 k)] = some as ∧ lstAS R rd s.ks x as = some as' ∧
      ((x = .nils ∧ t = none) ∨ ∃ id sz off len r ks l, x = .sl id sz off len ∧ rd id = some r ∧ r.tl = some (ks, l) ∧ r.own = true ∧ r.ty = s.ty ∧ t = some (id, r, l)) := by
  unfold wHalf at h
  split at h
  · rename_i as has
    split at h
    · rename_i as1 hl
      split at h
      · cases h
        exact ⟨as, has, hl, .inl ⟨rfl, rfl⟩⟩
      · rename_i id sz off len
        split at h
        · rename_i r hr
          split at h
          · rename_i ks l htl
            cases c2 : (r.own && Nat.beq r.ty s.ty) <;> simp only [c2, cond_false, cond_true] at h
            · cases h
            · simp only [Bool.and_eq_true] at c2
              cases h
              exact ⟨as, has, hl, .inr ⟨id, sz, off, len, r, ks, l, rfl, hr, htl, c2.1, Nat.eq_of_beq_eq_true c2.2, rfl⟩⟩
          · cases h
        · cases h
      · cases h
    · cases h
  · cases h
/-- What half of a call does that writes into both slices of a struct. -/
theorem wHalf_calls {P : Program} {g : Nat} {s : WSig} (hct : CTW0 P d.Φ Pr g s) (hR : RV d.Φ R d.ρ) (hP : HP X d hp w) (hrd : ∀ id r, rd id = some r → getH hp id = some r)
    {x : Cell} {k : E} {t : Option (Nat × Reg × L)} {as : AS} (h : wHalf R rd s x k = some (t, as)) (hag : s.agg = false) (hpr : Pr g (as.denE d.Φ d.ρ) (as.denL d.Φ d.ρ)) :
    Calls P g #[x.den d, .int .i64 (k.den d.Φ d.ρ)] w fun e w' => ∃ v, e = .returned v ∧ WPost s (d.Φ g (as.denE d.Φ d.ρ) (as.denL d.Φ d.ρ)) (.returned v) ∧
      ((t = none ∧ HP X d hp w') ∨ ∃ id r l c l' rest', t = some (id, r, l) ∧ getH hp id = some r ∧ r.tl = some (s.ks, l) ∧ r.own = true ∧ r.ty = s.ty ∧ d.κ id = some c ∧ Wrote w w' (d.α id).1 ∧
        (d.Φ g (as.denE d.Φ d.ρ) (as.denL d.Φ d.ρ)).2 = [l'] ∧ Kinds s.ks l' ∧ l'.length = (l.den d.Φ d.ρ).length ∧ w'.heap[(d.α id).1]? = some (.cells (numsV s.ks l' ++ rest').toArray s.ty (0, 0)) ∧ l'.length + rest'.length = c * s.ks.length) := by
  obtain ⟨as0, has, hl, ht⟩ := wHalf_some h
  obtain ⟨m1, m2, m3⟩ := argsAS_spec hR hP hrd has (args := [.int .i64 (k.den d.Φ d.ρ)]) rfl (fun j z q hj hq => by
    cases j with
    | zero => cases hj; cases hq; rfl
    | succ j => cases hj) (fun z hz => by rw [List.mem_singleton.1 hz]; trivial)
  rw [wparams_lvs] at m1
  have hnil : as0.denL d.Φ d.ρ = [] := by
    cases h : as0.denL d.Φ d.ρ with
    | nil => rfl
    | cons _ _ => rw [h] at m1; exact m1.elim
  obtain ⟨lv, n1, n2, n3, n4⟩ := lstAS_spec hR hP hrd hl
  rw [hnil] at n2
  have n5 : as.denL d.Φ d.ρ = [lv] := n2
  have m3' := m3 [] []
  rw [hnil] at m3'
  simp only [List.nil_append, List.length_nil] at m3'
  rw [n5, n1] at hpr ⊢
  obtain ⟨c1, c2⟩ := hct w (as0.denE d.Φ d.ρ) lv (x.den d) [.int .i64 (k.den d.Φ d.ρ)] m2 ⟨n3, trivial⟩ m3' hpr
  have hx : s.arg (x.den d) = x.den d := by unfold WSig.arg; rw [hag]; rfl
  rw [hx] at c1 c2
  rcases ht with ⟨rfl, rfl⟩ | ⟨id, sz, off, len, r, ks, l, rfl, hr, htl, ho, hty, rfl⟩
  · have hlv : lv = [] := by
      simp only [lstAS, Option.some.injEq] at hl
      subst hl
      simp only [AS.denL, L.den, List.cons.injEq] at n5
      exact n5.1.symm
    refine Calls.mono (c1 rfl hlv) fun ex w' ⟨hx, hw⟩ => ?_
    obtain ⟨rfl, e2⟩ := hx
    exact ⟨_, rfl, ⟨rfl, e2⟩, .inl ⟨rfl, hP.regs hw⟩⟩
  · obtain ⟨r', l', k1, k2, k3, k4, k5, k6⟩ := lstAS_sl hl
    rw [hr] at k1
    cases k1
    rw [htl] at k2
    cases k2
    subst k3 k4 k5 k6
    have hg := hrd _ _ hr
    have hreg := hP.reg _ _ hg
    unfold RegIs at hreg
    rw [htl] at hreg
    obtain ⟨_, q1, _, q2⟩ := hreg
    rw [if_pos ho] at q2
    obtain ⟨q3, _, rest, cc, q4, q5, q6⟩ := q2
    have hlv : l.den d.Φ d.ρ = lv := by
      simp only [AS.denL, hnil, List.cons.injEq] at n5
      exact n5.1
    simp only at q1 q4 q6
    rw [hlv] at q1 q4 q6
    refine Calls.mono (c2 (d.α id).1 rest cc ?_ q1 (by rw [← hty]; exact q4) q6) fun ex w' ⟨hx, hw, l', rest', z1, z2, z3, z4, z5⟩ => ?_
    · simp only [Cell.den, q5, E.den, q3, nelE_nat, hlv, Int.toNat_natCast]
      simp
    · obtain ⟨rfl, e2⟩ := hx
      exact ⟨_, rfl, ⟨rfl, e2⟩, .inr ⟨id, r, l, cc, l', rest', rfl, hg, htl, ho, hty, q5, hw, z1, z2, by rw [hlv]; exact z3, z4, z5⟩⟩
/-- Such a call is entered. -/
theorem w2Op_wp {a : Act} (he : e = a.eval) (hv : Reads d hp v e) {g : Nat} {s : WSig} {x y : Cell} {k : E} (h : w2Op C v o.op = some (g, s, x, y, k)) :
    ∃ f, wfOf C.wfs f = some s ∧ s.via = some g ∧ w2ok s = true ∧ ∀ {K : Act → World → Prop} {Q : Exit → Act → World → Prop}, (Calls C.P f #[.agg #[x.den d, y.den d], .int .i64 (k.den d.Φ d.ρ)] w fun e w' => ∃ v, e = .returned v ∧ K (a.put o.dst v) w') → o.wp C.P a w K Q := by
  unfold w2Op at h
  split at h
  · rename_i c hq
    split at h
    · rename_i f hc
      split at h
      · rename_i s' x' y' k' hs ha
        split at h
        · rename_i g' hvia
          cases c1 : (plainFn C.P f && w2ok s') <;> simp only [c1, cond_false, cond_true] at h
          · cases h
          · simp only [Bool.and_eq_true] at c1
            obtain ⟨hpl, hok⟩ := c1
            cases h
            obtain ⟨l1, l2, l3⟩ := svs_spec hv ha
            obtain ⟨y0, y1, hy⟩ : ∃ y0 y1, c.args.toList = [y0, y1] := by
              match hh : c.args.toList, l1 with
              | [y0, y1], _ => exact ⟨y0, y1, rfl⟩
            have h0 : e y0 = .agg #[x.den d, y.den d] := by
              have := l2 0 (.agg [x, y]) (e y0) rfl (by simp [hy])
              simpa [SV.is] using this
            have h1 : e y1 = .int .i64 (k.den d.Φ d.ρ) := by
              have := l2 1 (.one (.int .i64 k)) (e y1) rfl (by simp [hy])
              simpa [SV.is, Cell.den] using this
            refine ⟨f, hs, hvia, hok, fun {K Q} hK => ?_⟩
            unfold plainFn at hpl
            split at hpl
            · rename_i fn hfn
              simp only [Bool.and_eq_true, Bool.not_eq_true'] at hpl
              obtain ⟨p1, p2⟩ := hpl
              have run : (execOp a.eval o).run C.P w = .ok (.enter f #[.agg #[x.den d, y.den d], .int .i64 (k.den d.Φ d.ρ)]) w := by
                rw [← h0, ← h1]
                subst he
                have hfe : a.eval (.func f) = .func (.func f) #[] #[] := rfl
                have hm : c.args.map a.eval = #[a.eval y0, a.eval y1] := by
                  rw [← Array.toArray_toList (xs := c.args), hy]; simp
                simp only [execOp, hq, resolve, hc, hfe, Deferred.ofValue, Sem.run_bind, Sem.run_pure, Result.andThen_ok, invoke, callFunc, run_program, hfn]
                have : (fn.name == "runtime.NumGoroutine") = false := p2
                simp only [this, Bool.false_eq_true, if_false]
                have hb : fn.body.isNone = false := by cases hb : fn.body <;> simp [hb] at p1 ⊢
                simp [hb, hm]
              unfold Oper.wp
              rw [run, Oper.upon_enter]
              refine Calls.mono hK fun ex w' ⟨v, e1, e2⟩ => ?_
              subst e1
              exact e2
            · cases hpl
        · cases h
      · cases h
    · cases h
  · cases h
theorem Cell.relen_den {id : Nat} {old new : E} (h : old.den d.Φ d.ρ = new.den d.Φ d.ρ) (c : Cell) : (c.relen id old new).den d = c.den d := by
  cases c <;> try rfl
  rename_i i s o n
  simp only [Cell.relen]
  cases hc : (Nat.beq i id && n.eqb old) <;> simp only [cond_false, cond_true]
  simp only [Bool.and_eq_true] at hc
  have e := E.eqb_eq _ _ hc.2
  subst e
  simp only [Cell.den, h]
theorem Cell.relen_ok {id : Nat} {old new : E} (h : old.den d.Φ d.ρ = new.den d.Φ d.ρ) {c : Cell} (hc : c.ok d hp) : (c.relen id old new).ok d hp := by
  cases c <;> try exact hc
  rename_i i s o n
  simp only [Cell.relen]
  cases hq : (Nat.beq i id && n.eqb old) <;> simp only [cond_false, cond_true]
  · exact hc
  simp only [Bool.and_eq_true] at hq
  have e := E.eqb_eq _ _ hq.2
  subst e
  exact ⟨hc.1, hc.2.1, by rw [← h]; exact hc.2.2⟩
theorem SV.relen_is {id : Nat} {old new : E} (h : old.den d.Φ d.ρ = new.den d.Φ d.ρ) {v : SV} {x : Value} (hv : v.is d x) : (v.relen id old new).is d x := by
  cases v with
  | one c => simp only [SV.relen, SV.is, Cell.relen_den h] at *; exact hv
  | agg cs =>
    simp only [SV.relen, SV.is] at *
    rw [List.map_map, show (Cell.den d ∘ Cell.relen id old new) = Cell.den d from funext fun c => Cell.relen_den h c]
    exact hv
  | tup vs => exact hv
  | any => trivial
theorem SV.relen_ok {id : Nat} {old new : E} (h : old.den d.Φ d.ρ = new.den d.Φ d.ρ) {v : SV} (hv : v.ok d hp) : (v.relen id old new).ok d hp := by
  cases v with
  | one c => exact Cell.relen_ok h hv
  | agg cs =>
    intro c hc
    obtain ⟨c', h1, rfl⟩ := List.mem_map.1 hc
    exact Cell.relen_ok h (hv c' h1)
  | tup vs => exact hv
  | any => trivial

theorem AS.denL_ls : ∀ (as : AS), as.denL d.Φ d.ρ = as.ls.map (L.den d.Φ d.ρ)
  | .nil => rfl
  | .e _ as => AS.denL_ls as
  | .l _ as => by simp only [AS.denL, AS.ls, List.map_cons, AS.denL_ls as]

theorem FreshAll.len {n : Nat} {w : World} : ∀ {kss : List (List EK)} {tys : List TypeId} {ls : List (List Int)} {vs : List Value} {bs : List Nat}, FreshAll n w kss tys ls vs bs → ∀ b ∈ bs, n ≤ b
  | [], [], [], [], [], _, b, hb => by cases hb
  | _ :: _, _ :: _, _ :: _, _ :: _, _ :: _, h, b, hb => by
    cases hb with
    | head => exact h.1.1
    | tail _ hb => exact FreshAll.len h.2.2 b hb
  | [], _ :: _, _, _, _, h, _, _ => by simp [FreshAll] at h
  | [], [], _ :: _, _, _, h, _, _ => by simp [FreshAll] at h
  | [], [], [], _ :: _, _, h, _, _ => by simp [FreshAll] at h
  | [], [], [], [], _ :: _, h, _, _ => by simp [FreshAll] at h
  | _ :: _, [], _, _, _, h, _, _ => by simp [FreshAll] at h
  | _ :: _, _ :: _, [], _, _, h, _, _ => by simp [FreshAll] at h
  | _ :: _, _ :: _, _ :: _, [], _, h, _, _ => by simp [FreshAll] at h
  | _ :: _, _ :: _, _ :: _, _ :: _, [], h, _, _ => by simp [FreshAll] at h

theorem cpOs_spec (hR : RV d.Φ R d.ρ) : ∀ {ls : List L} {kss : List (List EK)}, OsHold d.Φ Pr d.ρ (cpOs R ls) → allL (kss.map fun ks => (kindsIv ks, maxLen * (ks.length : Int))) (ls.map (L.den d.Φ d.ρ)) →
    allL (kss.map fun ks => (kindsIv ks, cpMax)) (ls.map (L.den d.Φ d.ρ))
  | [], [], _, _ => trivial
  | l :: ls, ks :: kss, h, hl => by
    have h1 : OsHold d.Φ Pr d.ρ (must (mkLe R (.len l) (.lit cpMax))) := fun o ho => h o (List.mem_append_left _ ho)
    have h2 : OsHold d.Φ Pr d.ρ (cpOs R ls) := fun o ho => h o (List.mem_append_right _ ho)
    have h3 := must_hold h1
    rw [mkLe_den hR] at h3
    have h3 := of_decide_eq_true h3
    exact ⟨⟨hl.1.1, h3⟩, cpOs_spec hR h2 hl.2⟩
  | [], _ :: _, _, h => h.elim
  | _ :: _, [], _, h => h.elim

/-- A CALL that returns a copy. -/
theorem copy_wp (hC : CTs C d.Φ Pr) (hR : RV d.Φ R d.ρ) (hP : HP X d hp w) {a : Act} (he : e = a.eval) (hv : Reads d hp v e) (hrd : ∀ id r, rd id = some r → getH hp id = some r)
    {g : Nat} {p : PSh} {tys : List TypeId} (hf : copyFn C o.op = some (g, p, tys)) (h : (copyRun C R v rd new g p tys o.op).bind (Res.one p) = some r)
    (hnew : ∀ k, new ≤ k → k < new + newsOf C o.op → getH hp k = none ∧ k < hp.length) (hos : OsHold d.Φ Pr d.ρ r.os)
    {K : Act → World → Prop} {Q : Exit → Act → World → Prop}
    (hK : ∀ x w', Aft X d hp (wrAll hp r.wr) r.val x w' → K (a.put o.dst x) w') : o.wp C.P a w K Q := by
  unfold copyFn at hf
  split at hf
  · rename_i c hop
    split at hf
    · rename_i g' hc
      simp only [Option.map_eq_some_iff, Prod.mk.injEq] at hf
      obtain ⟨⟨p', tys'⟩, hcp, rfl, rfl, rfl⟩ := hf
      have hcf : newsOf C o.op = p'.lss.length := by
        unfold newsOf copyFn
        simp only [hop, hc, hcp, Option.map_some]
      rw [hcf] at hnew
      rw [hop] at h
      simp only [copyRun] at h
      split at h
      · rename_i x hs
        split at h
        · rename_i as has
          cases hpl : plainFn C.P g' <;> simp only [hpl, cond_false, cond_true] at h
          · cases h
          · obtain ⟨l1, l2, l3⟩ := svs_spec hv hs
            have hz : ∃ y, c.args.toList = [y] := by
              cases hl : c.args.toList with
              | nil => rw [hl] at l1; simp at l1
              | cons y r => cases r with
                | nil => exact ⟨y, rfl⟩
                | cons _ _ => rw [hl] at l1; simp at l1
            obtain ⟨y, hy⟩ := hz
            have h1 := l2 0 x (e y) rfl (by simp [hy])
            obtain ⟨m1, _, m3⟩ := argsAS_spec (ps := [p']) (svs := [x]) (args := [e y]) hR hP hrd (by simp only [argsAS]; exact has) rfl (fun k x' q hk hq => by
              cases k with
              | zero => simp only [List.getElem?_cons_zero, Option.some.injEq] at hk hq; subst hk hq; exact h1
              | succ k => simp at hk) (fun x' hx' => l3 x' hx')
            have ho : r.os = cpOs R as.ls := by
              rw [Option.bind_eq_some_iff] at h
              obtain ⟨r0, h, h1⟩ := h
              have e1 : r.os = r0.os := by
                cases p' <;> simp only [Res.one] at h1
                case lst ks =>
                  split at h1
                  · cases h1; rfl
                  · cases h1
                all_goals (cases h1; rfl)
              rw [e1]
              split at h
              · cases h; rfl
              · cases h; rfl
              · cases h
            rw [ho] at hos
            have m1' : allL (cpLvs p') (as.denL d.Φ d.ρ) := by
              rw [AS.denL_ls] at m1 ⊢
              refine cpOs_spec hR hos ?_
              simpa [parLvs] using m1
            have hcall := hC.cp g' p' tys' hcp w _ _ (e y) m1' (by simpa using m3 [] [])
            have run : (execOp a.eval o).run C.P w = .ok (.enter g' #[e y]) w := by
              unfold plainFn at hpl
              split at hpl
              · rename_i fn hfn
                simp only [Bool.and_eq_true, Bool.not_eq_true'] at hpl
                obtain ⟨p1, p2⟩ := hpl
                subst he
                have hm : c.args.map a.eval = #[a.eval y] := by
                  have ha : c.args = #[y] := by rw [← Array.toArray_toList (xs := c.args), hy]
                  rw [ha]; simp
                have hfe : a.eval (.func g') = .func (.func g') #[] #[] := rfl
                simp only [execOp, hop, resolve, hc, hfe, Deferred.ofValue, Sem.run_bind, Sem.run_pure, Result.andThen_ok, invoke, callFunc, run_program, hfn]
                have : (fn.name == "runtime.NumGoroutine") = false := p2
                simp only [this, Bool.false_eq_true, if_false]
                have hb : fn.body.isNone = false := by cases hb : fn.body <;> simp [hb] at p1 ⊢
                simp [hb, hm]
              · cases hpl
            unfold Oper.wp
            rw [run, Oper.upon_enter]
            refine Calls.mono hcall fun ex w' ⟨vv, vs, bs, hx, hb, hfr, hsh⟩ => ?_
            subst hx
            rw [AS.denL_ls] at hfr
            have hP' := hP.regs hb
            obtain ⟨d', b1, b2, b3, b4, b5⟩ := HP.addAll (X := X) hP.bl.size p'.lss tys' as.ls vs bs new hp d hP' hfr hnew (fun i ri hi oi hm => by
              have := hP.lt hi oi
              have := hfr.len _ hm
              omega)
            refine hK vv w' ?_
            cases p' with
            | lst ks =>
              simp only [Option.bind_some, Res.one] at h
              split at h
              · rename_i cc hcc
                cases h
                simp only [PSh.lss, SV.agg.injEq] at *
                rw [hcc] at b4 b5
                simp only [List.map_cons, List.map_nil] at b4
                have hsh : vs = [vv] := hsh
                subst hsh
                simp only [List.cons.injEq, and_true] at b4
                exact ⟨d', b1, b2, b3, b4.symm, b5 cc List.mem_cons_self⟩
              · cases h
            | lsts kss =>
              simp only [Option.bind_some, Res.one, Option.some.injEq] at h
              subst h
              simp only [PSh.lss] at *
              exact ⟨d', b1, b2, b3, by simp only [SV.is, b4]; exact hsh, b5⟩
            | val _ _ => simp only [Option.bind_none] at h; cases h
            | ptr _ => simp only [Option.bind_none] at h; cases h
            | slc _ => simp only [Option.bind_none] at h; cases h
            | plsts _ => simp only [Option.bind_none] at h; cases h
            | mix _ _ => simp only [Option.bind_none] at h; cases h
            | fnc _ => simp only [Option.bind_none] at h; cases h
            | str => simp only [Option.bind_none] at h; cases h
        · cases h
      · cases h
    · cases hf
  · cases hf

end
end Go.Proofs.YtelfpnkhdaaeoaaDoor.Sx
