/-
  The symbolic executor: a region in the text's order.
-/
import Derived.Test.YtaknnjlkpepgaaaSxK
namespace Go.Proofs.Ytaknnjlkpepgaaa.Sx
open Go Go.RowKit

section
variable {C : Cfg} {R : Bds} {X : Ctx} {d : Dn} {w : World} {S : St} {a : Act} {Pr : Pres} {new : Nat} {r : Res} {o : Oper}
  {Q : Exit → Act → World → Prop} {K : Ex → Bds → St → Env → Prop}

/-- n places from 'new' on are free. -/
def Free (hp : List (Option Reg)) (new n : Nat) : Prop := new + n ≤ hp.length ∧ ∀ k, new ≤ k → k < new + n → getH hp k = none

theorem Free.same {hp hp' : List (Option Reg)} {n : Nat} (h : Free hp new n) (hs : SameH hp hp') : Free hp' new n :=
  ⟨by rw [hs.1]; exact h.1, fun k h1 h2 => by
    have := hs.2 k
    rw [h.2 k h1 h2] at this
    cases hq : getH hp' k with
    | none => rfl
    | some q => rw [hq] at this; cases this⟩

theorem opRun_wr {q : Op} {v : Operand → Option SV} {rd : Nat → Option Reg} (h : opRun C R q v rd new = some r) :
    (isNew q = false ∧ (r.wr = [] ∨ ∃ id g, (∃ g', rd id = some g') ∧ r.wr = [(id, g)])) ∨ (isNew q = true ∧ ∃ g, r.wr = [(new, g)]) := by
  cases q
  case alloc t =>
    simp only [opRun] at h
    split at h
    · rename_i z hz
      cases c : noTup z <;> simp only [c, cond_false, cond_true] at h
      · cases h
      · cases h; exact .inr ⟨rfl, _, rfl⟩
    · cases h
  case box t x =>
    simp only [opRun] at h
    split at h
    · rename_i z hz
      cases c : noTup z <;> simp only [c, cond_false, cond_true] at h
      · cases h
      · cases h; exact .inr ⟨rfl, _, rfl⟩
    · cases h
  case buildSlice t len parts =>
    simp only [opRun] at h
    split at h
    · split at h
      · rename_i z hm hz
        generalize (Nat.ble 1 len && _) = c at h
        cases c <;> simp only [cond_false, cond_true] at h
        · cases h
        · simp only [Option.map_eq_some_iff] at h
          obtain ⟨cs, _, rfl⟩ := h
          exact .inr ⟨rfl, _, rfl⟩
      · cases h
    · cases h
  case store t x y =>
    refine .inl ⟨rfl, .inr ?_⟩
    simp only [opRun] at h
    split at h
    · rename_i id off sz hy hz
      split at h
      · rename_i g hg
        cases c : (noTup sz && g.own && decide (sizeT C.P t = some sz.cells.length) && Nat.ble (off + sz.cells.length) g.cs.length) <;> simp only [c, cond_false, cond_true] at h
        · cases h
        · cases h; exact ⟨id, _, ⟨g, hg⟩, rfl⟩
      · cases h
    · rename_i id off n ix k x hy hz
      split at h
      · rename_i g hg
        cases c : (g.own && decide (sizeT C.P t = some 1) && Nat.ble (off + n) g.cs.length && (intEs k ((g.cs.drop off).take n)).isSome) <;> simp only [c, cond_false, cond_true] at h
        · cases h
        · cases h; exact ⟨id, _, ⟨g, hg⟩, rfl⟩
      · cases h
    · cases h
  case call c =>
    refine .inl ⟨rfl, ?_⟩
    cases hc : c.callee with
    | value f =>
      refine .inl ?_
      simp only [opRun, hc] at h
      split at h
      · simp only [Option.map_eq_some_iff] at h; obtain ⟨_, _, rfl⟩ := h; rfl
      · cases h
    | invoke _ _ => simp only [opRun, hc] at h; cases h
    | builtin b =>
      cases b
      case len =>
        refine .inl ?_
        simp only [opRun, hc] at h
        split at h
        · cases h; rfl
        · cases h; rfl
        · cases h; rfl
        · cases h
      case max =>
        refine .inl ?_
        simp only [opRun, hc] at h
        split at h
        · rename_i k a k' b hs
          cases c : decide (k = k') <;> simp only [c, cond_false, cond_true] at h
          · cases h
          · cases h; rfl
        · cases h
      case min =>
        refine .inl ?_
        simp only [opRun, hc] at h
        split at h
        · rename_i k a k' b hs
          cases c : decide (k = k') <;> simp only [c, cond_false, cond_true] at h
          · cases h
          · cases h; rfl
        · cases h
      case copy =>
        refine .inr ?_
        simp only [opRun, hc] at h
        split at h
        · rename_i id off len cap id' off' len' cap' el hs hu
          split at h
          · rename_i g g' m hg hg' hm
            generalize (g.own && _) = c1 at h
            cases c1 <;> simp only [cond_false, cond_true] at h
            · cases h
            · cases h; exact ⟨id, _, ⟨g, hg⟩, rfl⟩
          · cases h
        · cases h
      all_goals (simp only [opRun, hc] at h; cases h)
  all_goals refine .inl ⟨rfl, .inl ?_⟩
  case slice t x lo hi mx =>
    cases lo with
    | some _ => simp only [opRun] at h; cases h
    | none => cases mx with
      | some _ => simp only [opRun] at h; cases h
      | none =>
        simp only [opRun] at h
        split at h
        · generalize (_ && _) = c at h
          cases c <;> simp only [cond_false, cond_true] at h
          · cases h
          · cases h; rfl
        · generalize (_ && _) = c at h
          cases c <;> simp only [cond_false, cond_true] at h
          · cases h
          · cases h; rfl
        · cases h
  case sliceToArrayPointer t x =>
    simp only [opRun] at h
    split at h
    · generalize Nat.ble _ _ = c at h
      cases c <;> simp only [cond_false, cond_true] at h
      · cases h
      · cases h; rfl
    · cases h
  case move x => simp only [opRun, Option.map_eq_some_iff] at h; obtain ⟨_, _, rfl⟩ := h; rfl
  case assign x => simp only [opRun, Option.map_eq_some_iff] at h; obtain ⟨_, _, rfl⟩ := h; rfl
  case build t ps =>
    simp only [opRun] at h
    split at h
    · split at h
      · rename_i fs _
        generalize (fs.toList.all _ && _) = c at h
        cases c <;> simp only [cond_false, cond_true] at h
        · cases h
        · simp only [Option.map_eq_some_iff] at h; obtain ⟨_, _, rfl⟩ := h; rfl
      · split at h
        · generalize (List.all _ _) = c at h
          cases c <;> simp only [cond_false, cond_true] at h
          · cases h
          · simp only [Option.map_eq_some_iff] at h; obtain ⟨_, _, rfl⟩ := h; rfl
        · cases h
      · cases h
    · cases h
  case load t x =>
    simp only [opRun] at h
    split at h
    · split at h
      · simp only [Option.map_eq_some_iff] at h; obtain ⟨_, _, rfl⟩ := h; rfl
      · cases h
    · split at h
      · generalize (!aggT C.P t && _ && _) = c at h
        cases c <;> simp only [cond_false, cond_true] at h
        · cases h
        · simp only [Option.map_eq_some_iff] at h; obtain ⟨_, _, rfl⟩ := h; rfl
      · cases h
    · cases h
  case nilCheck x =>
    simp only [opRun] at h
    split at h
    · cases h; rfl
    · cases h
  case binOp op t x y u =>
    simp only [opRun] at h
    have bi : ∀ {op k a b}, binInt R op k a b = some r → r.wr = [] := fun {op k a b} h => by
      cases op <;> simp only [binInt, Option.some.injEq, reduceCtorEq] at h <;> subst h <;> rfl
    have si : ∀ {op k a b}, shiftInt R op k a b = some r → r.wr = [] := fun {op k a b} h => by
      cases op <;> simp only [shiftInt, Option.some.injEq, reduceCtorEq] at h <;> subst h <;> rfl
    split at h
    · split at h
      · exact si h
      · exact si h
      · rename_i k a k' b hx hy _ _ _
        cases c : decide (k = k') <;> simp only [c, cond_false, cond_true] at h
        · cases h
        · exact bi h
    · generalize (shapeOk C.P t _ && _) = c at h
      cases c <;> simp only [cond_false, cond_true] at h
      · cases h
      · split at h
        · simp only [Option.map_eq_some_iff] at h; obtain ⟨_, _, rfl⟩ := h; rfl
        · simp only [Option.map_eq_some_iff] at h; obtain ⟨_, _, rfl⟩ := h; rfl
        · cases h
    · cases h
  case unOp u t x =>
    simp only [opRun] at h
    split at h
    · cases h; rfl
    · cases h; rfl
    · cases h
  case convert s t x =>
    simp only [opRun] at h
    split at h
    · cases h; rfl
    · cases h
  case fieldAddr s x f =>
    simp only [opRun] at h
    split at h
    · split at h
      · cases h; rfl
      · cases h
    · cases h
  case field s x f =>
    simp only [opRun] at h
    split at h
    · simp only [Option.map_eq_some_iff] at h; obtain ⟨_, _, rfl⟩ := h; rfl
    · cases h
  case indexAddr t x i =>
    simp only [opRun] at h
    split at h
    · split at h
      · split at h
        · generalize Nat.blt _ _ = c at h
          cases c <;> simp only [cond_false, cond_true] at h
          · cases h
          · cases h; rfl
        · generalize Nat.blt _ _ = c at h
          cases c <;> simp only [cond_false, cond_true] at h
          · cases h
          · cases h; rfl
      · cases h
    · split at h
      · generalize Nat.blt _ _ = c at h
        cases c <;> simp only [cond_false, cond_true] at h
        · cases h
        · cases h; rfl
      · cases h
    · cases h
  case index t x i =>
    simp only [opRun] at h
    split at h
    · split at h
      · split at h
        · generalize Nat.blt _ _ = c at h
          cases c <;> simp only [cond_false, cond_true] at h
          · cases h
          · simp only [Option.map_eq_some_iff] at h; obtain ⟨_, _, rfl⟩ := h; rfl
        · generalize (Nat.beq _ 1 && _ && _ && _ && _) = c at h
          cases c <;> simp only [cond_false, cond_true] at h
          · cases h
          · simp only [Option.map_eq_some_iff] at h; obtain ⟨_, _, rfl⟩ := h; rfl
      · cases h
    · split at h
      · generalize Iv.sub _ _ = c at h
        cases c <;> simp only [cond_false, cond_true] at h
        · cases h
        · cases h; rfl
      · cases h
    · cases h
  case extract t i =>
    simp only [opRun] at h
    split at h
    · split at h
      · cases h; rfl
      · cases h; rfl
      · cases h
    · cases h
  all_goals (simp only [opRun] at h; cases h)

theorem opStep_wr {dec : Bool} (h : opStep C R o.op dec S new = some r) :
    (isNew o.op = false ∧ (r.wr = [] ∨ ∃ id g, (getH S.heap id).isSome = true ∧ r.wr = [(id, g)])) ∨ (isNew o.op = true ∧ ∃ g, r.wr = [(new, g)]) := by
  unfold opStep at h
  split at h
  · rename_i c x y hop
    split at h
    · simp only [Option.map_eq_some_iff] at h
      obtain ⟨_, _, rfl⟩ := h
      exact .inl ⟨by rw [hop]; rfl, .inl rfl⟩
    · cases h
  · rcases opRun_wr h with ⟨h1, h2⟩ | h1
    · refine .inl ⟨h1, h2.imp id ?_⟩
      rintro ⟨id, g, ⟨g', hg'⟩, h3⟩
      exact ⟨id, g, by rw [rd_ok _ _ hg']; rfl, h3⟩
    · exact .inr h1

/-- The free places behind an operation. -/
theorem Free.step {rest : List Oper} (hf : Free S.heap new (countNew (o :: rest))) {dec : Bool} (h : opStep C R o.op dec S new = some r) :
    (isNew o.op = true → getH S.heap new = none ∧ new < S.heap.length) ∧ Free (wrAll S.heap r.wr) (bif isNew o.op then new + 1 else new) (countNew rest) := by
  rcases opStep_wr h with ⟨h1, h2⟩ | ⟨h1, g, h2⟩
  · simp only [countNew, h1, cond_false] at hf ⊢
    refine ⟨(fun h => by cases h), ?_⟩
    rcases h2 with h2 | ⟨id, g, h3, h2⟩
    · rw [h2]; exact hf
    · rw [h2]
      obtain ⟨q, hq⟩ := Option.isSome_iff_exists.1 h3
      refine hf.same ⟨setH_length _ _ _, fun k => ?_⟩
      by_cases hk : id = k
      · subst hk; simp only [wrAll]; rw [getH_setH_same _ _ _ (getH_lt hq), hq]; rfl
      · simp only [wrAll]; rw [getH_setH_ne _ _ _ _ hk]
  · simp only [countNew, h1, cond_true] at hf ⊢
    have hl : new < S.heap.length := by have := hf.1; omega
    refine ⟨fun _ => ⟨hf.2 new (Nat.le_refl _) (by omega), hl⟩, ?_⟩
    rw [h2]
    simp only [wrAll]
    exact ⟨by rw [setH_length]; have := hf.1; omega, fun k k1 k2 => by
      rw [getH_setH_ne _ _ _ _ (by omega)]
      exact hf.2 k (by omega) (by omega)⟩

theorem skip_sat (h : Sat X d S a w) (dst : Option Nat) : Sat X d (S.put dst .undef) (a.put dst undef) w where
  df := by cases dst <;> exact h.df
  tm := by
    have := h.tm.put (undef_is d) (undef_ok d S.heap) dst
    cases dst <;> exact this
  hp := by cases dst <;> exact h.hp

theorem put_heap (S : St) (dst : Option Nat) (v : SV) : (S.put dst v).heap = S.heap := by cases dst <;> rfl

/-- WHAT FOLLOWS A REGION: at every state that a leaf stands for. -/
def Then (X : Ctx) (Pr : Pres) (Φ : Fns) (fin : Bds → St → T) (K : Ex → Bds → St → Env → Prop) (Q : Exit → Act → World → Prop) : Prop :=
  ∀ R S d a w, d.Φ = Φ → RV d.Φ R d.ρ → Sat X d S a w → (fin R S).holds d.Φ Pr d.ρ K → Q .normal a w

theorem seqT_sound {ops : Array Oper} {fin : Bds → St → T} {Φ : Fns} (hC : CTs C Φ Pr) (hΦ : ∀ g s, sigOf C.sigs g = some s → ∀ xs ls, allHas ((resKds s).map Kd.iv) (norm (resKds s).length (Φ g xs ls).1))
    (hT : Then X Pr Φ fin K Q) :
    ∀ (l : List Oper) (new : Nat) (R : Bds) (S : St) (d : Dn) (a : Act) (w : World), d.Φ = Φ → RV d.Φ R d.ρ → Sat X d S a w → Free S.heap new (countNew l) →
      (seqT C ops fin l new R S).holds d.Φ Pr d.ρ K → wpList C.P ops Q l a w
  | [], new, R, S, d, a, w, hd, hR, h, _, ht => hT R S d a w hd hR h ht
  | o :: rest, new, R, S, d, a, w, hd, hR, h, hf, ht => by
    have ih := seqT_sound (ops := ops) hC hΦ hT rest
    simp only [seqT] at ht
    -- carried out
    have go : ∀ (dec : Bool) (R : Bds), RV d.Φ R d.ρ → (∀ b, pickOf S o.op = some b → b.den d.Φ d.ρ = dec) →
        T.holds d.Φ Pr (match opStep C R o.op dec S new with
          | some r => needT r.os (bindT (fun R S => seqT C ops fin rest (bif isNew o.op then new + 1 else new) R S) 100 R (bindOf S o) (r.put o.dst S))
          | none => .fail 1) d.ρ K → o.wp C.P a w (wpList C.P ops Q rest) Q := by
      intro dec R hR hdec ht
      cases hs : opStep C R o.op dec S new with
      | none => rw [hs] at ht; exact ht.elim
      | some r =>
        rw [hs] at ht
        obtain ⟨ho, ht⟩ := need_holds ht
        obtain ⟨f1, f2⟩ := hf.step hs
        refine opStep_wp (by rw [hd]; exact hC) hR h hs hdec f1 ho fun d' a' w' ag hs' => ?_
        have hb := bindT_sound (X := X) (a := a') (w := w') 100 R (bindOf S o) (r.put o.dst S) d' (by rw [ag.Φ, ag.ρ]; exact hR) hs' (by rw [ag.Φ, ag.ρ]; exact ht)
        obtain ⟨R', S', d'', e1, e2, e3, e4, e5⟩ := hb
        exact ih _ R' S' d'' a' w' (by rw [e1, ag.Φ, hd]) e2 e3 (f2.same e4) e5
    have run : ∀ (R : Bds), RV d.Φ R d.ρ → T.holds d.Φ Pr (match callOp C R (valOf S) (fun id => bif memN id (idsOf S o.op) then getH S.heap id else none) o.op with
        | some (g, s, as) =>
          bif as.sc R.i.length R.l.length && scAll R S then
            match resSV (varComps R.i.length s.res) with
            | some v => needT (bif s.total then [] else [.pre g as]) (.call g as (resKds s).length (seqT C ops fin rest (bif isNew o.op then new + 1 else new) (R.push ((resKds s).map Kd.iv)) (S.put o.dst v)))
            | none => .fail 2
          else .fail 3
        | none => match pickOf S o.op with
          | some b => askT R b (fun R => match opStep C R o.op true S new with
              | some r => needT r.os (bindT (fun R S => seqT C ops fin rest (bif isNew o.op then new + 1 else new) R S) 100 R (bindOf S o) (r.put o.dst S))
              | none => .fail 1) (fun R => match opStep C R o.op false S new with
              | some r => needT r.os (bindT (fun R S => seqT C ops fin rest (bif isNew o.op then new + 1 else new) R S) 100 R (bindOf S o) (r.put o.dst S))
              | none => .fail 1)
          | none => match opStep C R o.op true S new with
              | some r => needT r.os (bindT (fun R S => seqT C ops fin rest (bif isNew o.op then new + 1 else new) R S) 100 R (bindOf S o) (r.put o.dst S))
              | none => .fail 1) d.ρ K → o.wp C.P a w (wpList C.P ops Q rest) Q := by
      intro R hR ht
      split at ht
      · rename_i g s as hc
        cases c1 : (as.sc R.i.length R.l.length && scAll R S) <;> simp only [c1, cond_false, cond_true] at ht
        · exact ht.elim
        · simp only [Bool.and_eq_true, scAll] at c1
          split at ht
          · rename_i v hv
            obtain ⟨ho, ht⟩ := need_holds ht
            have hn : R.i.length ≤ d.ρ.i.length := by rw [hR.li]; exact Nat.le_refl _
            obtain ⟨_, _, _, hq, _, _, _, hs, _, _⟩ := callOp_some hc
            refine call_wp (by rw [hd]; exact hC) hR h.hp rfl h.reads rd_ok hc ?_ fun w' hw' => ?_
            · cases hst : s.total
              · exact .inr (ho (.pre g as) (by simp [hst]))
              · exact .inl rfl
            · simp only [T.holds] at ht
              let ys := norm (resKds s).length (d.Φ g (as.denE d.Φ d.ρ) (as.denL d.Φ d.ρ)).1
              have hR' : RV d.Φ (R.push ((resKds s).map Kd.iv)) (d.ρ.pushI ys) := hR.push (by subst hd; exact hΦ g s hs _ _) c1.2.2
              have h0 : Sat X d S a w' := ⟨h.df, h.tm, hw'⟩
              have h1 := h0.push hn c1.2.1 ys
              have hiv : v.is (d.push ys) (resV s (d.Φ g (as.denE d.Φ d.ρ) (as.denL d.Φ d.ρ)).1) := by
                have e1 := resSV_is (d := d.push ys) hv
                have hlen : (resKds s).length = ys.length := (norm_length _ _).symm
                have e2 : (varComps R.i.length s.res).map (compV (d.push ys)) = resVals (d.Φ g (as.denE d.Φ d.ρ) (as.denL d.Φ d.ρ)).1 0 s.res := by
                  have hlt : ∀ j, j < (resKds s).length → (d.push ys).ρ.i.getD (R.i.length + j) 0 = (d.Φ g (as.denE d.Φ d.ρ) (as.denL d.Φ d.ρ)).1.getD j 0 := fun j hj => by
                    rw [← norm_getD (resKds s).length _ j hj]
                    have := getD_append_right (xs := d.ρ.i) (ys := ys) (n := j)
                    rw [hR.li] at this
                    exact this
                  have gen := varComps_den (d := d.push ys) hlt s.res 0 (by simp [resKds])
                  simpa using gen
                rw [e2] at e1
                exact e1
              refine ih _ _ (S.put o.dst v) (d.push ys) (a.put o.dst _) w' (by exact hd) hR' ?_ ?_ ht
              · have := h1.tm.put hiv (resSV_ok hv (varComps_plain s.res _)) o.dst
                refine ⟨by cases o.dst <;> exact h.df, ?_, ?_⟩
                · rw [put_heap]; exact this
                · rw [put_heap]; exact h1.hp
              · rw [put_heap]
                have : isNew o.op = false := by rw [hq]; rfl
                simp only [countNew, this, cond_false] at hf ⊢
                exact hf
          · exact ht.elim
      · split at ht
        · rename_i b hb
          rcases askT_holds hR ht with ⟨hb', R', hR', _, ht⟩ | ⟨hb', R', hR', _, ht⟩
          · exact go true R' hR' (fun b' h' => by rw [hb] at h'; cases h'; exact hb') ht
          · exact go false R' hR' (fun b' h' => by rw [hb] at h'; cases h'; exact hb') ht
        · rename_i hb
          exact go true R hR (fun b' h' => by rw [hb] at h'; cases h') ht
    have skip : ∀ (R : Bds), RV d.Φ R d.ρ → (seqT C ops fin rest (bif isNew o.op then new + 1 else new) R (S.put o.dst .undef)).holds d.Φ Pr d.ρ K → wpList C.P ops Q rest (a.put o.dst undef) w := by
      intro R hR ht
      refine ih _ R _ d _ w hd hR (skip_sat h o.dst) ?_ ht
      rw [put_heap]
      cases hn : isNew o.op <;> simp only [countNew, hn, cond_false, cond_true] at hf ⊢
      · exact hf
      · exact ⟨by have := hf.1; omega, fun k k1 k2 => hf.2 k (by omega) (by omega)⟩
    have hg := guardOf_spec (ops := ops) (o := o) h
    unfold wpList
    cases hgd : guardOf ops S o with
    | run =>
      rw [hgd] at ht hg
      simp only at hg
      rw [if_pos hg]
      exact .inl (run R hR ht)
    | skip =>
      rw [hgd] at ht hg
      simp only at hg
      rw [if_neg (by rw [hg]; simp)]
      exact skip R hR ht
    | ask b =>
      rw [hgd] at ht hg
      simp only at hg ht
      rcases askT_holds hR ht with ⟨hb', R', hR', _, ht⟩ | ⟨hb', R', hR', _, ht⟩
      · rw [if_pos (by rw [hg]; exact hb')]
        exact .inl (run R' hR' ht)
      · rw [if_neg (by rw [hg, hb']; simp)]
        exact skip R' hR' ht
    | bad => rw [hgd] at ht; exact ht.elim
end
end Go.Proofs.Ytaknnjlkpepgaaa.Sx
