/-
  The symbolic executor: a region in the text's order.
-/
import Derived.Test.YtelfpnkhdaaeoaaDoorSxK
namespace Go.Proofs.YtelfpnkhdaaeoaaDoor.Sx
open Go Go.RowKit

section
variable {C : Cfg} {R : Bds} {X : Ctx} {d : Dn} {w : World} {S : St} {a : Act} {Pr : Pres} {new : Nat} {r : Res} {o : Oper}
  {Q : Exit → Act → World → Prop} {K : Ex → Bds → St → Env → Prop}

/-- n places from 'new' on are free. -/
def Free (hp : List (Option Reg)) (new n : Nat) : Prop := new + n ≤ hp.length ∧ ∀ k, new ≤ k → k < new + n → getH hp k = none

theorem Free.same {hp hp' : List (Option Reg)} {n : Nat} (h : Free hp new n) (hs : SameH hp hp') : Free hp' new n :=
  ⟨by rw [hs.1]; exact h.1, fun k h1 h2 => by
    have := hs.2 k
    rw [h.2 k h1 h2] at this
    cases hq : getH hp' k with
    | none => rfl
    | some q => rw [hq] at this; cases this⟩

theorem opRun_wr {q : Op} {v : Operand → Option SV} {rd : Nat → Option Reg} (h : opRun C R q v rd new = some r) :
    (isNew q = false ∧ (r.wr = [] ∨ ∃ id g, (∃ g', rd id = some g') ∧ r.wr = [(id, g)])) ∨ (isNew q = true ∧ ∃ g, r.wr = [(new, g)]) := by
  cases q
  case alloc t =>
    simp only [opRun] at h
    split at h
    · rename_i z hz
      cases c : noTup z <;> simp only [c, cond_false, cond_true] at h
      · cases h
      · cases h; exact .inr ⟨rfl, _, rfl⟩
    · cases h
  case box t x =>
    simp only [opRun] at h
    split at h
    · rename_i z hz
      cases c : noTup z <;> simp only [c, cond_false, cond_true] at h
      · cases h
      · cases h; exact .inr ⟨rfl, _, rfl⟩
    · cases h
  case buildSlice t len parts =>
    simp only [opRun] at h
    split at h
    · split at h
      · rename_i z hm hz
        generalize (Nat.ble 1 len && _) = c at h
        cases c <;> simp only [cond_false, cond_true] at h
        · cases h
        · simp only [Option.map_eq_some_iff] at h
          obtain ⟨cs, _, rfl⟩ := h
          exact .inr ⟨rfl, _, rfl⟩
      · rename_i m z hm hz
        generalize (noTup z && _) = c at h
        cases c <;> simp only [cond_false, cond_true] at h
        · cases h
        · simp only [Option.map_eq_some_iff] at h
          obtain ⟨cs, _, rfl⟩ := h
          exact .inr ⟨rfl, _, rfl⟩
      · cases h
    · cases h
  case makeSlice t x y =>
    simp only [opRun] at h
    split at h
    · split at h
      · generalize ((ile _ _ && _) || _) = c at h
        cases c <;> simp only [cond_false, cond_true] at h
        · cases h
        · cases h; exact .inr ⟨rfl, _, rfl⟩
      · cases h
    · cases h
  case store t x y =>
    refine .inl ⟨rfl, .inr ?_⟩
    simp only [opRun] at h
    split at h
    · rename_i id off sz hy hz
      split at h
      · rename_i g hg
        cases c : (noTup sz && (g.own && g.tl.isNone) && decide (sizeT C.P t = some sz.cells.length) && Nat.ble (off + sz.cells.length) g.cs.length) <;> simp only [c, cond_false, cond_true] at h
        · cases h
        · cases h; exact ⟨id, _, ⟨g, hg⟩, rfl⟩
      · cases h
    · rename_i id off n ix k x hy hz
      split at h
      · rename_i g hg
        cases c : ((g.own && g.tl.isNone) && decide (sizeT C.P t = some 1) && Nat.ble (off + n) g.cs.length && (intEs k ((g.cs.drop off).take n)).isSome) <;> simp only [c, cond_false, cond_true] at h
        · cases h
        · cases h; exact ⟨id, _, ⟨g, hg⟩, rfl⟩
      · cases h
    · rename_i id s ix f cc0 hy hz
      split at h
      · rename_i g hg
        split at h
        · split at h
          · split at h
            · generalize (g.own && _) = c at h
              cases c <;> simp only [cond_false, cond_true] at h
              · cases h
              · cases h; exact ⟨id, _, ⟨g, hg⟩, rfl⟩
            · cases h
          · cases h
        · cases h
      · cases h
    · cases h
  case call c =>
    refine .inl ⟨rfl, ?_⟩
    cases hc : c.callee with
    | value f =>
      refine .inl ?_
      simp only [opRun, hc] at h
      split at h
      · simp only [cond_eq_ite] at h
        split at h
        · split at h
          · simp only [Option.map_eq_some_iff] at h; obtain ⟨_, _, rfl⟩ := h; rfl
          · cases h
        · simp only [Option.map_eq_some_iff] at h; obtain ⟨_, _, rfl⟩ := h; rfl
      · cases h
    | invoke _ _ => simp only [opRun, hc] at h; cases h
    | builtin b =>
      cases b
      case len =>
        refine .inl ?_
        simp only [opRun, hc] at h
        split at h
        · cases h; rfl
        · cases h; rfl
        · cases h; rfl
        · cases h; rfl
        · cases h; rfl
        · cases h
      case max =>
        refine .inl ?_
        simp only [opRun, hc] at h
        split at h
        · rename_i k a k' b hs
          cases c : decide (k = k') <;> simp only [c, cond_false, cond_true] at h
          · cases h
          · cases h; rfl
        · cases h
      case min =>
        refine .inl ?_
        simp only [opRun, hc] at h
        split at h
        · rename_i k a k' b hs
          cases c : decide (k = k') <;> simp only [c, cond_false, cond_true] at h
          · cases h
          · cases h; rfl
        · cases h
      case copy =>
        refine .inr ?_
        simp only [opRun, hc] at h
        split at h
        · rename_i id off len cap id' off' len' cap' el hs hu
          split at h
          · rename_i g g' m hg hg' hm
            generalize ((g.own && _) && _) = c1 at h
            cases c1 <;> simp only [cond_false, cond_true] at h
            · cases h
            · cases h; exact ⟨id, _, ⟨g, hg⟩, rfl⟩
          · cases h
        · cases h
      all_goals (simp only [opRun, hc] at h; cases h)
  all_goals refine .inl ⟨rfl, .inl ?_⟩
  case slice t x lo hi mx =>
    cases lo with
    | some _ => simp only [opRun] at h; cases h
    | none => cases mx with
      | some _ => simp only [opRun] at h; cases h
      | none =>
        simp only [opRun] at h
        split at h
        · generalize (_ && _) = c at h
          cases c <;> simp only [cond_false, cond_true] at h
          · cases h
          · cases h; rfl
        · generalize (_ && _) = c at h
          cases c <;> simp only [cond_false, cond_true] at h
          · cases h
          · cases h; rfl
        · cases h
  case sliceToArrayPointer t x =>
    simp only [opRun] at h
    split at h
    · generalize Nat.ble _ _ = c at h
      cases c <;> simp only [cond_false, cond_true] at h
      · cases h
      · cases h; rfl
    · cases h
  case move x => simp only [opRun, Option.map_eq_some_iff] at h; obtain ⟨_, _, rfl⟩ := h; rfl
  case assign x => simp only [opRun, Option.map_eq_some_iff] at h; obtain ⟨_, _, rfl⟩ := h; rfl
  case build t ps =>
    simp only [opRun] at h
    split at h
    · split at h
      · rename_i fs _
        generalize (fs.toList.all _ && _) = c at h
        cases c <;> simp only [cond_false, cond_true] at h
        · cases h
        · simp only [Option.map_eq_some_iff] at h; obtain ⟨_, _, rfl⟩ := h; rfl
      · split at h
        · generalize (List.all _ _) = c at h
          cases c <;> simp only [cond_false, cond_true] at h
          · cases h
          · simp only [Option.map_eq_some_iff] at h; obtain ⟨_, _, rfl⟩ := h; rfl
        · cases h
      · cases h
    · cases h
  case load t x =>
    simp only [opRun] at h
    split at h
    · split at h
      · simp only [Option.map_eq_some_iff] at h; obtain ⟨_, _, rfl⟩ := h; rfl
      · cases h
    · split at h
      · generalize (!aggT C.P t && _ && _) = c at h
        cases c <;> simp only [cond_false, cond_true] at h
        · cases h
        · simp only [Option.map_eq_some_iff] at h; obtain ⟨_, _, rfl⟩ := h; rfl
      · cases h
    · split at h
      · split at h
        · split at h
          · generalize (!aggT C.P t && _ && _) = c at h
            cases c <;> simp only [cond_false, cond_true] at h
            · cases h
            · cases h; rfl
          · cases h
        · cases h
      · cases h
    · cases h
  case makeInterface t x =>
    simp only [opRun] at h
    split at h
    · simp only [cond_eq_ite] at h
      split at h
      · cases h; rfl
      · cases h
    · cases h
  case nilCheck x =>
    simp only [opRun] at h
    split at h
    · cases h; rfl
    · cases h; rfl
    · cases h
  case binOp op t x y u =>
    simp only [opRun] at h
    have bi : ∀ {op k a b}, binInt R op k a b = some r → r.wr = [] := fun {op k a b} h => by
      cases op <;> simp only [binInt, Option.some.injEq, reduceCtorEq] at h <;> subst h <;> rfl
    have si : ∀ {op k a b}, shiftInt R op k a b = some r → r.wr = [] := fun {op k a b} h => by
      cases op <;> simp only [shiftInt, Option.some.injEq, reduceCtorEq] at h <;> subst h <;> rfl
    split at h
    · split at h
      · exact si h
      · exact si h
      · rename_i k a k' b hx hy _ _ _
        cases c : decide (k = k') <;> simp only [c, cond_false, cond_true] at h
        · cases h
        · exact bi h
    · generalize (shapeOk C.P t _ && _) = c at h
      cases c <;> simp only [cond_false, cond_true] at h
      · cases h
      · split at h
        · simp only [Option.map_eq_some_iff] at h; obtain ⟨_, _, rfl⟩ := h; rfl
        · simp only [Option.map_eq_some_iff] at h; obtain ⟨_, _, rfl⟩ := h; rfl
        · cases h
    · cases h
  case unOp u t x =>
    simp only [opRun] at h
    split at h
    · cases h; rfl
    · cases h; rfl
    · cases h
  case convert s t x =>
    simp only [opRun] at h
    split at h
    · cases h; rfl
    · cases h
  case fieldAddr s x f =>
    simp only [opRun] at h
    split at h
    · split at h
      · cases h; rfl
      · cases h
    · split at h
      · cases h; rfl
      · cases h
    · cases h
  case field s x f =>
    simp only [opRun] at h
    split at h
    · simp only [Option.map_eq_some_iff] at h; obtain ⟨_, _, rfl⟩ := h; rfl
    · cases h
  case indexAddr t x i =>
    simp only [opRun] at h
    split at h
    · split at h
      · split at h
        · generalize Nat.blt _ _ = c at h
          cases c <;> simp only [cond_false, cond_true] at h
          · cases h
          · cases h; rfl
        · generalize Nat.blt _ _ = c at h
          cases c <;> simp only [cond_false, cond_true] at h
          · cases h
          · cases h; rfl
      · cases h
    · split at h
      · generalize Nat.blt _ _ = c at h
        cases c <;> simp only [cond_false, cond_true] at h
        · cases h
        · cases h; rfl
      · cases h
    · split at h
      · generalize Nat.blt _ _ = c at h
        cases c <;> simp only [cond_false, cond_true] at h
        · cases h
        · cases h; rfl
      · cases h
    · split at h
      · split at h
        · generalize Nat.beq _ _ = c at h
          cases c <;> simp only [cond_false, cond_true] at h
          · cases h
          · cases h; rfl
        · cases h
      · cases h
    · cases h
  case index t x i =>
    simp only [opRun] at h
    split at h
    · split at h
      · split at h
        · generalize Nat.blt _ _ = c at h
          cases c <;> simp only [cond_false, cond_true] at h
          · cases h
          · simp only [Option.map_eq_some_iff] at h; obtain ⟨_, _, rfl⟩ := h; rfl
        · generalize (Nat.beq _ 1 && _ && _ && _ && _) = c at h
          cases c <;> simp only [cond_false, cond_true] at h
          · cases h
          · simp only [Option.map_eq_some_iff] at h; obtain ⟨_, _, rfl⟩ := h; rfl
      · cases h
    · split at h
      · generalize Iv.sub _ _ = c at h
        cases c <;> simp only [cond_false, cond_true] at h
        · cases h
        · cases h; rfl
      · cases h
    · cases h
  case extract t i =>
    simp only [opRun] at h
    split at h
    · split at h
      · cases h; rfl
      · cases h; rfl
      · cases h
    · cases h
  all_goals (simp only [opRun] at h; cases h)

theorem cpWr_ids : ∀ (kss : List (List EK)) (tys : List TypeId) (ls : List L) (new : Nat), ∀ p ∈ cpWr new kss tys ls, new ≤ p.1 ∧ p.1 < new + kss.length
  | [], tys, ls, new, p, h => by cases h
  | ks :: kss, [], ls, new, p, h => by cases h
  | ks :: kss, ty :: tys, [], new, p, h => by cases h
  | ks :: kss, ty :: tys, l :: ls, new, p, h => by
    simp only [cpWr, List.mem_cons] at h
    rcases h with rfl | h
    · simp
    · have := cpWr_ids kss tys ls (new + 1) p h
      simp only [List.length_cons]; omega

theorem copyRun_wr {v : Operand → Option SV} {rd : Nat → Option Reg} {g : Nat} {p : PSh} {tys : List TypeId} {q : Op} (h : (copyRun C R v rd new g p tys q).bind (Res.one p) = some r) : ∀ x ∈ r.wr, new ≤ x.1 ∧ x.1 < new + p.lss.length := by
  rw [Option.bind_eq_some_iff] at h
  obtain ⟨r0, h, h1⟩ := h
  have e : r.wr = r0.wr := by
    cases p <;> simp only [Res.one] at h1
    case lst ks =>
      split at h1
      · cases h1; rfl
      · cases h1
    all_goals (cases h1; rfl)
  rw [e]
  cases q <;> simp only [copyRun] at h <;> try (cases h; done)
  split at h
  · split at h
    · generalize plainFn C.P g = c at h
      cases c <;> simp only [cond_false, cond_true] at h
      · cases h
      · split at h
        · cases h; exact cpWr_ids _ _ _ _
        · cases h; exact cpWr_ids _ _ _ _
        · cases h
    · cases h
  · cases h

/-- What an operation writes: blocks that are there, and the new ones. -/
theorem opStep_wr {dec : Bool} (h : opStep C R o.op dec S new = some r) : ∀ x ∈ r.wr, (getH S.heap x.1).isSome = true ∨ (new ≤ x.1 ∧ x.1 < new + newsOf C o.op) := by
  unfold opStep at h
  split at h
  · rename_i c x y hop
    split at h
    · simp only [Option.map_eq_some_iff] at h
      obtain ⟨_, _, rfl⟩ := h
      exact fun x hx => by cases hx
    · cases h
  · split at h
    · rename_i g p tys hcf
      have hn : newsOf C o.op = p.lss.length := by unfold newsOf; rw [hcf]
      rw [hn]
      exact fun x hx => .inr (copyRun_wr h x hx)
    · rename_i hcf
      intro x hx
      split at h
      · rename_i r' hsb
        cases h
        obtain ⟨k1, g, k2⟩ := subRun_wr hsb
        rw [k2, List.mem_singleton] at hx
        subst hx
        exact .inr ⟨Nat.le_refl _, newsOf_sub hcf k1⟩
      split at h
      · rename_i r' hmr
        cases h
        rcases moreRun_wr hmr with h2 | ⟨id, g, ⟨g', hg'⟩, h3⟩
        · rw [h2] at hx; cases hx
        · rw [h3, List.mem_singleton] at hx
          subst hx
          exact .inl (by rw [rd_ok _ _ hg']; rfl)
      split at h
      · rename_i c hap
        rcases appRun_wr h x hx with ⟨g, hg⟩ | hx
        · exact .inl (by rw [rd_ok _ _ hg]; rfl)
        · exact .inr ⟨by omega, by rw [hx]; exact newsOf_app hcf (isApp_of hap)⟩
      split at h
      · rename_i p hnl
        cases h
        have hnw : isNew o.op = true := by
          unfold nilOp at hnl
          split at hnl
          · rename_i hop; rw [hop]; rfl
          · cases hnl
        simp only [nilRun, List.mem_singleton] at hx
        subst hx
        exact .inr ⟨Nat.le_refl _, newsOf_new hcf hnw⟩
      split at h
      · rename_i r' hb
        cases h
        obtain ⟨hnw, g, h3⟩ := bslRun_wr hb
        rw [h3, List.mem_singleton] at hx
        subst hx
        exact .inr ⟨Nat.le_refl _, newsOf_new hcf hnw⟩
      rcases opRun_wr h with ⟨_, h2 | ⟨id, g, ⟨g', hg'⟩, h3⟩⟩ | ⟨h1, g, h3⟩
      · rw [h2] at hx; cases hx
      · rw [h3, List.mem_singleton] at hx
        subst hx
        exact .inl (by rw [rd_ok _ _ hg']; rfl)
      · rw [h3, List.mem_singleton] at hx
        subst hx
        exact .inr ⟨Nat.le_refl _, newsOf_new hcf h1⟩

theorem wrAll_length : ∀ (ws : List (Nat × Reg)) (hp : List (Option Reg)), (wrAll hp ws).length = hp.length
  | [], _ => rfl
  | (id, r) :: ws, hp => by simp only [wrAll]; rw [wrAll_length ws, setH_length]
theorem wrAll_ne : ∀ (ws : List (Nat × Reg)) (hp : List (Option Reg)) (k : Nat), (∀ x ∈ ws, x.1 ≠ k) → getH (wrAll hp ws) k = getH hp k
  | [], _, _, _ => rfl
  | (id, r) :: ws, hp, k, h => by
    simp only [wrAll]
    rw [wrAll_ne ws _ k fun x hx => h x (List.mem_cons_of_mem _ hx), getH_setH_ne _ _ _ _ (h (id, r) List.mem_cons_self)]

/-- The free places behind an operation. -/
theorem Free.step {rest : List Oper} (hf : Free S.heap new (countNew C (o :: rest))) {dec : Bool} (h : opStep C R o.op dec S new = some r) :
    (∀ k, new ≤ k → k < new + newsOf C o.op → getH S.heap k = none ∧ k < S.heap.length) ∧ Free (wrAll S.heap r.wr) (new + newsOf C o.op) (countNew C rest) := by
  simp only [countNew] at hf
  refine ⟨fun k h1 h2 => ⟨hf.2 k h1 (by omega), by have := hf.1; omega⟩, by rw [wrAll_length]; have := hf.1; omega, fun k h1 h2 => ?_⟩
  rw [wrAll_ne _ _ _ fun x hx e => ?_]
  · exact hf.2 k (by omega) (by omega)
  · rcases opStep_wr h x hx with h3 | h3
    · rw [e, hf.2 k (by omega) (by omega)] at h3; cases h3
    · omega

theorem skip_sat (h : Sat X d S a w) (dst : Option Nat) : Sat X d (S.put dst .undef) (a.put dst undef) w where
  df := by cases dst <;> exact h.df
  tm := by
    have := h.tm.put (undef_is d) (undef_ok d S.heap) dst
    cases dst <;> exact this
  hp := by cases dst <;> exact h.hp

theorem put_heap (S : St) (dst : Option Nat) (v : SV) : (S.put dst v).heap = S.heap := by cases dst <;> rfl

/-- Ids that are free. -/
theorem Sat.grow {d : Dn} {S : St} (h : Sat X d S a w) (k : Nat) : Sat X d { S with heap := S.heap ++ List.replicate k none } a w := by
  have hg : ∀ i, getH (S.heap ++ List.replicate k none) i = getH S.heap i := getH_append_none S.heap k
  have hh : Has S.heap (S.heap ++ List.replicate k none) := fun i hi => by rw [hg]; exact hi
  exact ⟨h.df, ⟨h.tm.len, h.tm.is, fun t => SV.ok_mono hh (h.tm.ok t)⟩, ⟨h.hp.bl, fun i r hr => h.hp.reg i r (by rwa [hg] at hr),
    fun i j ri rj hi hj => h.hp.sep i j ri rj (by rwa [hg] at hi) (by rwa [hg] at hj), fun i r hr c hc => Cell.ok_mono hh (h.hp.ids i r (by rwa [hg] at hr) c hc), h.hp.pin.agree (Agree.refl _ _) hh⟩⟩

theorem varLs_den : ∀ (k m : Nat) (pre : List (List Int)) (zs : List (List Int)), d.ρ.l = pre ++ zs → m = pre.length → zs.length = k → (varLs m k).map (L.den d.Φ d.ρ) = zs
  | 0, m, pre, zs, _, _, h => by
    cases zs with
    | nil => rfl
    | cons _ _ => cases h
  | k + 1, m, pre, z :: zs, e, hm, h => by
    simp only [varLs, List.map_cons]
    congr 1
    · simp only [L.den, e, hm]
      have := getL_append_right (xs := pre) (ys := z :: zs) (n := 0)
      rw [Nat.add_zero] at this
      rw [this]; rfl
    · exact varLs_den k (m + 1) (pre ++ [z]) zs (by rw [e]; simp) (by simp [hm]) (by simpa using h)
  | k + 1, m, pre, [], _, _, h => by cases h

theorem getT_map (f : SV → SV) (hf : f .undef = .undef) : ∀ (l : List SV) (t : Nat), getT (l.map f) t = f (getT l t)
  | [], t => by rw [List.map_nil, getT_nil, hf]
  | _ :: _, 0 => rfl
  | _ :: r, t + 1 => getT_map f hf r t

/-! ### Places that are asked for by a number that is not known -/
theorem idxOf_some {q : Op} {t : Nat} {k : IntKind} {ix : E} {n : Nat} (h : idxOf C S q = some (t, k, ix, n)) : getT S.tmps t = .one (.int k ix) ∧ ∀ S' : St, pickOf S' q = none := by
  unfold idxOf at h
  split at h
  · refine ⟨?_, fun _ => rfl⟩
    split at h
    · rename_i hg
      generalize ((headKind _).isNone && _) = c at h
      cases c <;> simp only [cond_false, cond_true] at h
      · cases h
      · split at h
        · cases h
        · cases h; exact hg
    · cases h
  · refine ⟨?_, fun _ => rfl⟩
    split at h
    · rename_i hg
      generalize Nat.ble _ _ = c at h
      cases c <;> simp only [cond_false, cond_true] at h
      · cases h
      · split at h
        · cases h
        · cases h; exact hg
    · rename_i hg
      split at h
      · generalize ((headKind _).isNone && _) = c at h
        cases c <;> simp only [cond_false, cond_true] at h
        · cases h
        · split at h
          · cases h
          · cases h; exact hg
      · cases h
    · cases h
  · cases h
theorem idxT_holds {t : Nat} {k : IntKind} {ix : E} {f : Bds → St → T} (h : Sat X d S a w) (ht0 : getT S.tmps t = .one (.int k ix)) : ∀ (m j : Nat) (R : Bds), RV d.Φ R d.ρ → (idxT t k ix S f j m R).holds d.Φ Pr d.ρ K →
    ∃ (j' : Nat) (R' : Bds), RV d.Φ R' d.ρ ∧ Sat X d { S with tmps := setT S.tmps t (.one (.int k (.lit j'))) } a w ∧ (f R' { S with tmps := setT S.tmps t (.one (.int k (.lit j'))) }).holds d.Φ Pr d.ρ K
  | 0, _, _, _, ht => ht.elim
  | m + 1, j, R, hR, ht => by
    simp only [idxT] at ht
    rcases askT_holds hR ht with ⟨hb, R', hR', _, ht⟩ | ⟨_, R', hR', _, ht⟩
    · have hb : ix.den d.Φ d.ρ = (j : Int) := of_decide_eq_true hb
      refine ⟨j, R', hR', h.setT' (fun x hx => ?_) (fun _ => trivial), ht⟩
      rw [ht0] at hx
      simp only [SV.is, Cell.den, E.den] at hx ⊢
      rw [hx, hb]
    · exact idxT_holds h ht0 m (j + 1) R' hR' ht

theorem getH_relenH (id : Nat) (old new : E) : ∀ (hp : List (Option Reg)) (k : Nat), getH (relenH id old new hp) k = (getH hp k).map fun r => { r with cs := r.cs.map (Cell.relen id old new) }
  | [], k => by show getH [] k = _; rw [getH_nil]; rfl
  | r :: s, 0 => rfl
  | r :: s, k + 1 => getH_relenH id old new s k
theorem relenH_has (id : Nat) (old new : E) (hp : List (Option Reg)) : Has hp (relenH id old new hp) := fun k hk => by
  rw [getH_relenH]
  cases h : getH hp k with
  | none => rw [h] at hk; cases hk
  | some r => rfl
theorem HP.relenH {hp : List (Option Reg)} (hP : HP X d hp w) {id : Nat} {old new : E} (h : old.den d.Φ d.ρ = new.den d.Φ d.ρ) : HP X d (relenH id old new hp) w := by
  have get : ∀ k r, getH (Sx.relenH id old new hp) k = some r → ∃ q, getH hp k = some q ∧ r = { q with cs := q.cs.map (Cell.relen id old new) } := fun k r hr => by
    rw [getH_relenH, Option.map_eq_some_iff] at hr
    obtain ⟨q, h1, h2⟩ := hr
    exact ⟨q, h1, h2.symm⟩
  refine ⟨hP.bl, fun k r hr => ?_, fun i j ri rj hi hj oi oj hij => ?_, fun k r hr c hc => ?_, hP.pin.agree (Agree.refl _ _) (relenH_has _ _ _ _)⟩
  · obtain ⟨q, hq, rfl⟩ := get k r hr
    refine (hP.reg _ _ hq).move rfl rfl rfl rfl ?_ (SameTl.refl _ _) fun _ => rfl
    simp only [List.map_map]
    exact List.map_congr_left fun c _ => Cell.relen_den h c
  · obtain ⟨qi, h1, rfl⟩ := get i ri hi
    obtain ⟨qj, h2, rfl⟩ := get j rj hj
    exact hP.sep i j qi qj h1 h2 oi oj hij
  · obtain ⟨q, hq, rfl⟩ := get k r hr
    obtain ⟨c0, h1, rfl⟩ := List.mem_map.1 hc
    exact Cell.relen_ok h (Cell.ok_mono (relenH_has _ _ _ _) (hP.ids _ _ hq c0 h1))

/-- WHAT FOLLOWS A REGION: at every state that a leaf stands for. -/
def Then (X : Ctx) (Pr : Pres) (Φ : Fns) (fin : Bds → St → T) (K : Ex → Bds → St → Env → Prop) (Q : Exit → Act → World → Prop) : Prop :=
  ∀ R S d a w, d.Φ = Φ → RV d.Φ R d.ρ → Sat X d S a w → (fin R S).holds d.Φ Pr d.ρ K → Q .normal a w

/-- WHAT A PANIC LEADS TO. -/
def Pans (X : Ctx) (Φ : Fns) (K : Ex → Bds → St → Env → Prop) (Q : Exit → Act → World → Prop) : Prop :=
  ∀ (t : TypeId) (e : E) R S (d : Dn) (a : Act) w, d.Φ = Φ → RV d.Φ R d.ρ → a.defers = [] → Bl X w → K (.pan t e) R S d.ρ → Q (.panic (panicV t (e.den d.Φ d.ρ))) a w

theorem panOp_some {q : Op} {t : TypeId} {e : E} (h : panOp S q = some (t, e)) : ∃ x, q = .panic x ∧ valOf S x = some (.one (.ifc t .i64 e)) := by
  unfold panOp at h
  split at h
  · rename_i x
    split at h
    · rename_i t' e' hx
      cases h
      exact ⟨x, rfl, hx⟩
    · cases h
  · cases h

/-- The state after a call that writes into a slice. -/
theorem Sat.wroteS {n m : Nat} {S : St} {a : Act} (h : Sat X d S a w) (hn : n ≤ d.ρ.i.length) (hm : m = d.ρ.l.length) (hsc : S.sc n m = true) {s : WSig} {q : Option (Nat × Reg × L)} {ys : List Int} {zs : List (List Int)} {w' : World}
    (hcase : (q = none ∧ HP X d S.heap w') ∨ ∃ id r l c l' rest', q = some (id, r, l) ∧ getH S.heap id = some r ∧ r.tl = some (s.ks, l) ∧ r.own = true ∧ r.ty = s.ty ∧ d.κ id = some c ∧ Wrote w w' (d.α id).1 ∧
        zs = [l'] ∧ Kinds s.ks l' ∧ l'.length = (l.den d.Φ d.ρ).length ∧ w'.heap[(d.α id).1]? = some (.cells (numsV s.ks l' ++ rest').toArray s.ty (0, 0)) ∧ l'.length + rest'.length = c * s.ks.length) :
    Sat X (d.push2 ys zs) (S.wrote m s q) a w' ∧ (S.wrote m s q).heap.length = S.heap.length ∧ ∀ k, getH S.heap k = none → getH (S.wrote m s q).heap k = none := by
  have hm' : m ≤ d.ρ.l.length := by rw [hm]; exact Nat.le_refl _
  rcases hcase with ⟨rfl, hw'⟩ | ⟨id, r, l, c, l', rest', rfl, hg, htl, ho', hty, hκ, hw, z1, z2, z3, z4, z5⟩
  · have h0 : Sat X d S a w' := ⟨h.df, h.tm, hw'⟩
    exact ⟨h0.push2 hn hm' hsc ys zs, rfl, fun k hk => hk⟩
  · have hs2 := h.push2 hn hm' hsc ys zs
    have elv : (L.var m).den (d.push2 ys zs).Φ (d.push2 ys zs).ρ = l' := by
      have := varLs_den (d := d.push2 ys zs) 1 m d.ρ.l zs rfl hm (by rw [z1]; rfl)
      simp only [varLs, List.map_cons, List.map_nil] at this
      exact (List.cons.inj (this.trans z1)).1
    have hlsc : l.sc n m = true := by
      have := hsc
      simp only [St.sc, Bool.and_eq_true, List.all_eq_true] at this
      have := this.2 _ (getH_mem _ _ _ hg)
      simp only [regSc, htl, tlSc, Bool.and_eq_true] at this
      exact this.2
    have eold : l.den (d.push2 ys zs).Φ (d.push2 ys zs).ρ = l.den d.Φ d.ρ := L.den_ext (Φ := d.Φ) (push2_i (ys := ys) (zs := zs) hn) (push2_l hm') _ hlsc
    have hP2 := hs2.hp.wrote (id := id) (c := c) (g := r) hg ho' htl (l' := .var m) (by rw [elv]; exact z2) (w' := w') hw (rest := rest') (by rw [elv, hty]; exact z4) hκ (by rw [elv]; exact z5)
    have hlen : (nelE l s.ks.length).den (d.push2 ys zs).Φ (d.push2 ys zs).ρ = (nelE (.var m) s.ks.length).den (d.push2 ys zs).Φ (d.push2 ys zs).ρ := by
      rw [nelE_nat, nelE_nat, elv, eold, z3]
    have htm : TM (d.push2 ys zs) (S.wrote m s (some (id, r, l))).heap (S.wrote m s (some (id, r, l))).tmps a.tmps := by
      refine ⟨by simp only [St.wrote, List.length_map]; exact hs2.tm.len, fun t => ?_, fun t => ?_⟩
      · simp only [St.wrote]
        rw [getT_map _ rfl]
        exact SV.relen_is hlen (hs2.tm.is t)
      · simp only [St.wrote]
        rw [getT_map _ rfl]
        exact SV.relen_ok hlen (SV.ok_mono ((Has.setH id _).trans (relenH_has _ _ _ _)) (hs2.tm.ok t))
    refine ⟨⟨h.df, htm, hP2.relenH hlen⟩, by simp only [St.wrote, relenH, List.length_map, setH_length], fun k hk => ?_⟩
    have hne : id ≠ k := fun e => by rw [e, hk] at hg; cases hg
    simp only [St.wrote]
    rw [getH_relenH, getH_setH_ne _ _ _ _ hne, hk]; rfl
theorem w2ok_spec {s : WSig} (h : w2ok s = true) : s.res = [(false, [.i .i64])] ∧ s.agg = false := by
  unfold w2ok at h
  split at h
  · exact ⟨rfl, rfl⟩
  · cases h

theorem seqT_sound {ops : Array Oper} {fin : Bds → St → T} {Φ : Fns} (hC : CTs C Φ Pr) (hΦ : ∀ g s, sigOf C.sigs g = some s → ∀ xs ls, allHas ((resKds s).map Kd.iv) (norm (resKds s).length (Φ g xs ls).1))
    (hT : Then X Pr Φ fin K Q) (hX : Pans X Φ K Q) :
    ∀ (l : List Oper) (new : Nat) (R : Bds) (S : St) (d : Dn) (a : Act) (w : World), d.Φ = Φ → RV d.Φ R d.ρ → Sat X d S a w → Free S.heap new (countNew C l) →
      (seqT C ops fin l new R S).holds d.Φ Pr d.ρ K → wpList C.P ops Q l a w
  | [], new, R, S, d, a, w, hd, hR, h, _, ht => hT R S d a w hd hR h ht
  | o :: rest, new, R, S, d, a, w, hd, hR, h, hf, ht => by
    have ih := seqT_sound (ops := ops) hC hΦ hT hX rest
    simp only [seqT] at ht
    -- carried out
    have go : ∀ (S : St) (dec : Bool) (R : Bds), Sat X d S a w → Free S.heap new (countNew C (o :: rest)) → RV d.Φ R d.ρ → (∀ b, pickOf S o.op = some b → b.den d.Φ d.ρ = dec) →
        T.holds d.Φ Pr (match opStep C R o.op dec S new with
          | some r => bif (panEs r.os).isEmpty then needT r.os (bindT (fun R S => seqT C ops fin rest (new + newsOf C o.op) R S) 100 R (bindOf S o) (r.put o.dst S)) else .fail 57
          | none => .fail 1) d.ρ K → o.wp C.P a w (wpList C.P ops Q rest) Q := by
      intro S dec R h hf hR hdec ht
      cases hs : opStep C R o.op dec S new with
      | none => rw [hs] at ht; exact ht.elim
      | some r =>
        rw [hs] at ht
        simp only at ht
        cases hpe : (panEs r.os).isEmpty <;> simp only [hpe, cond_false, cond_true] at ht
        · exact ht.elim
        obtain ⟨ho, ht⟩ := need_holds ht
        obtain ⟨f1, f2⟩ := hf.step hs
        refine opStep_wp (by rw [hd]; exact hC) hR h hs hdec f1 ho (fun e he => by
          have := mem_panEs.2 he
          rw [List.isEmpty_iff.1 hpe] at this
          cases this) fun d' a' w' ag hs' => ?_
        have hb := bindT_sound (X := X) (a := a') (w := w') 100 R (bindOf S o) (r.put o.dst S) d' (by rw [ag.Φ, ag.ρ]; exact hR) hs' (by rw [ag.Φ, ag.ρ]; exact ht)
        obtain ⟨R', S', d'', e1, e2, e3, e4, e5⟩ := hb
        exact ih _ R' S' d'' a' w' (by rw [e1, ag.Φ, hd]) e2 e3 (f2.same e4) e5
    have run : ∀ (R : Bds), RV d.Φ R d.ρ → T.holds d.Φ Pr (match panOp S o.op with
        | some (t, e) => .leaf (.pan t e) R S
        | none => match callOp C R (valOf S) (fun id => bif memN id (idsOf S o.op) then getH S.heap id else none) o.op with
        | some (g, s, as) =>
          bif memN g C.pfs then (bif pfOk s && (as.sc R.i.length R.l.length && scAll R S) then
            match resSV (varComps (R.i.length + 1) s.res.tail) with
            | some v => needT (bif s.total then [] else [.pre g as]) (.call g as (resKds s).length (askT (R.push ((resKds s).map Kd.iv)) (.eq (.var R.i.length) (.lit 0))
                (fun R => seqT C ops fin rest (new + newsOf C o.op) R (S.put o.dst v)) (fun R' => .leaf (.pan C.pty (.var R.i.length)) R' S)))
            | none => .fail 54
            else .fail 55) else
          bif as.sc R.i.length R.l.length && scAll R S then
            match resSV (varComps R.i.length s.res) with
            | some v => needT (bif s.total then [] else [.pre g as]) (.call g as (resKds s).length (seqT C ops fin rest (new + newsOf C o.op) (R.push ((resKds s).map Kd.iv)) (S.put o.dst v)))
            | none => .fail 2
          else .fail 3
        | none => bif isPanOp C o.op then .fail 56 else match lcOp C R (valOf S) (fun id => bif memN id (idsOf S o.op) then getH S.heap id else none) o.op with
          | some (g, s, as) =>
            bif as.sc R.i.length R.l.length && scAll R S then
              match resSV (lComps (R.i.length + 1) (List.replicate (lsKss s.res).length .nils) s.res), resSV (lComps (R.i.length + 1) (cpCells S.heap.length (lsKss s.res) (varLs R.l.length (lsKss s.res).length)) s.res) with
              | some vn, some vl => needT (bif s.total then [] else [.pre g as]) (.calll g as s.ivs s.lvs (askT (R.push2 s.ivs s.lvs) (mkEq (R.push2 s.ivs s.lvs) (.var R.i.length) (.lit 1))
                  (fun R => seqT C ops fin rest (new + newsOf C o.op) R (S.put o.dst vn))
                  (fun R' => seqT C ops fin rest (new + newsOf C o.op) R' (St.put { S with heap := wrAll (S.heap ++ List.replicate (lsKss s.res).length none) (cpWr S.heap.length (lsKss s.res) (lsTys s.res) (varLs R.l.length (lsKss s.res).length)) } o.dst vl))))
              | _, _ => .fail 5
            else .fail 6
          | none => match wcOp C R (valOf S) (fun id => bif memN id (idsOf S o.op) then getH S.heap id else none) o.op with
          | some (g, s, q, as) =>
            bif as.sc R.i.length R.l.length && scAll R S then
              match resSV (varComps R.i.length s.res) with
              | some v => needT (bif s.total then [] else [.pre g as]) (.calll g as s.ivs [s.lv] (seqT C ops fin rest (new + newsOf C o.op) (R.push2 s.ivs [s.lv]) ((S.wrote R.l.length s q).put o.dst v)))
              | none => .fail 7
            else .fail 8
          | none => match w2Op C (valOf S) o.op with
          | some (g, s, x, y, k) => bif scAll R S && y.sc R.i.length R.l.length then
              match wHalf R (fun id => getH S.heap id) s x k with
              | some (q1, as1) => bif as1.sc R.i.length R.l.length then
                  needT [.pre g as1] (.calll g as1 s.ivs [s.lv]
                    (match wHalf (R.push2 s.ivs [s.lv]) (fun id => getH (S.wrote R.l.length s q1).heap id) s y (.var R.i.length) with
                    | some (q2, as2) => bif as2.sc (R.i.length + 1) (R.l.length + 1) && scAll (R.push2 s.ivs [s.lv]) (S.wrote R.l.length s q1) then
                        needT [.pre g as2] (.calll g as2 s.ivs [s.lv]
                          (seqT C ops fin rest (new + newsOf C o.op) ((R.push2 s.ivs [s.lv]).push2 s.ivs [s.lv]) (((S.wrote R.l.length s q1).wrote (R.l.length + 1) s q2).put o.dst (.one (.int .i64 (.var (R.i.length + 1)))))))
                      else .fail 61
                    | none => .fail 62))
                else .fail 63
              | none => .fail 64
            else .fail 65
          | none => match scOp C R (valOf S) (fun id => bif memN id (idsOf S o.op) then getH S.heap id else none) o.op with
          | some (g, s, as) =>
            bif as.sc R.i.length R.l.length && scAll R S then
              match resSV (sComps R.i.length R.l.length s.res) with
              | some v => needT (bif s.total then [] else [.pre g as]) (.calll g as s.ivs s.lvs (seqT C ops fin rest (new + newsOf C o.op) (R.push2 s.ivs s.lvs) (S.put o.dst v)))
              | none => .fail 51
            else .fail 52
          | none => match idxOf C S o.op with
          | some (t, k, ix, n) => idxT t k ix S (fun R S => match opStep C R o.op true S new with
              | some r => bif (panEs r.os).isEmpty then needT r.os (bindT (fun R S => seqT C ops fin rest (new + newsOf C o.op) R S) 100 R (bindOf S o) (r.put o.dst S)) else .fail 57
              | none => .fail 1) 0 n R
          | none => match pickOf S o.op with
          | some b => askT R b (fun R => match opStep C R o.op true S new with
              | some r => bif (panEs r.os).isEmpty then needT r.os (bindT (fun R S => seqT C ops fin rest (new + newsOf C o.op) R S) 100 R (bindOf S o) (r.put o.dst S)) else .fail 57
              | none => .fail 1) (fun R => match opStep C R o.op false S new with
              | some r => bif (panEs r.os).isEmpty then needT r.os (bindT (fun R S => seqT C ops fin rest (new + newsOf C o.op) R S) 100 R (bindOf S o) (r.put o.dst S)) else .fail 57
              | none => .fail 1)
          | none => match opStep C R o.op true S new with
              | some r => bif (panEs r.os).isEmpty then needT r.os (bindT (fun R S => seqT C ops fin rest (new + newsOf C o.op) R S) 100 R (bindOf S o) (r.put o.dst S)) else .fail 57
              | none => .fail 1) d.ρ K → o.wp C.P a w (wpList C.P ops Q rest) Q := by
      intro R hR ht
      split at ht
      · rename_i t e hpo
        obtain ⟨x, hq, hx⟩ := panOp_some hpo
        have hv := h.reads.is _ _ hx
        simp only [SV.is, Cell.den] at hv
        unfold Oper.wp
        have run : (execOp a.eval o).run C.P w = .halt (.panic (.iface t (.int .i64 (e.den d.Φ d.ρ)))) w := by
          simp only [execOp, hq, hv, Instr.panic]
          simp [goPanic]
        rw [run, Oper.upon_panic]
        exact hX t e R S d a w hd hR h.df h.hp.bl ht
      split at ht
      · rename_i g s as hc
        cases hnp : memN g C.pfs <;> simp only [hnp, cond_false, cond_true] at ht
        rotate_left
        · cases c1 : (pfOk s && (as.sc R.i.length R.l.length && scAll R S)) <;> simp only [c1, cond_false, cond_true] at ht
          · exact ht.elim
          simp only [Bool.and_eq_true, scAll] at c1
          obtain ⟨cpf, c1⟩ := c1
          split at ht
          rotate_left
          · exact ht.elim
          rename_i v hv
          obtain ⟨ho, ht⟩ := need_holds ht
          have hn : R.i.length ≤ d.ρ.i.length := by rw [hR.li]; exact Nat.le_refl _
          obtain ⟨_, _, _, hq, _, _, _, hs, _, _⟩ := callOp_some hc
          have hres : ∃ rest, s.res = (false, [.i .i64]) :: rest := by
            unfold pfOk at cpf
            split at cpf
            · rename_i rest hr; exact ⟨rest, hr⟩
            · cases cpf
          obtain ⟨rest', hrest⟩ := hres
          have hkl : (resKds s).length = 1 + (rest'.flatMap (·.2)).length := by
            unfold resKds
            rw [hrest, List.flatMap_cons, List.length_append]; rfl
          let ys := norm (resKds s).length (d.Φ g (as.denE d.Φ d.ρ) (as.denL d.Φ d.ρ)).1
          have hR' : RV d.Φ (R.push ((resKds s).map Kd.iv)) (d.ρ.pushI ys) := hR.push (by subst hd; exact hΦ g s hs _ _) c1.2.2
          have hlt : ∀ j, j < (resKds s).length → (d.push ys).ρ.i.getD (R.i.length + j) 0 = (d.Φ g (as.denE d.Φ d.ρ) (as.denL d.Φ d.ρ)).1.getD j 0 := fun j hj => by
            rw [← norm_getD (resKds s).length _ j hj]
            have := getD_append_right (xs := d.ρ.i) (ys := ys) (n := j)
            rw [hR.li] at this
            exact this
          have h0v : (E.var R.i.length).den (d.push ys).Φ (d.push ys).ρ = (d.Φ g (as.denE d.Φ d.ρ) (as.denL d.Φ d.ρ)).1.getD 0 0 := by
            have := hlt 0 (by omega)
            rw [Nat.add_zero] at this
            exact this
          simp only [T.holds] at ht
          refine pcall_wp (by rw [hd]; exact hC) hR h.hp rfl h.reads rd_ok hc hnp ?_ (fun w' hw' hz => ?_) fun w' hw' hz => ?_
          · cases hst : s.total
            · exact .inr (ho (.pre g as) (by simp [hst]))
            · exact .inl rfl
          · rcases askT_holds (d := d.push ys) hR' ht with ⟨hb, R2, hR2, _, ht⟩ | ⟨hb, R2, hR2, _, ht⟩
            · have h0 : Sat X d S a w' := ⟨h.df, h.tm, hw'⟩
              have h1 := h0.push hn c1.2.1 ys
              have hiv : v.is (d.push ys) (oneOr (resVals (d.Φ g (as.denE d.Φ d.ρ) (as.denL d.Φ d.ρ)).1 1 s.res.tail)) := by
                have e1 := resSV_is (d := d.push ys) hv
                have gen := varComps_den (d := d.push ys) hlt s.res.tail 1 (by rw [hrest, List.tail_cons]; omega)
                rw [gen] at e1
                exact e1
              refine ih _ _ (S.put o.dst v) (d.push ys) (a.put o.dst _) w' (by exact hd) hR2 ?_ ?_ ht
              · have := h1.tm.put hiv (resSV_ok hv (varComps_plain s.res.tail _)) o.dst
                refine ⟨by cases o.dst <;> exact h.df, ?_, ?_⟩
                · rw [put_heap]; exact this
                · rw [put_heap]; exact h1.hp
              · rw [put_heap]
                simp only [countNew] at hf
                exact ⟨by have := hf.1; omega, fun k k1 k2 => hf.2 k (by omega) (by omega)⟩
            · exfalso
              have hb : decide ((E.var R.i.length).den (d.push ys).Φ (d.push ys).ρ = 0) = false := hb
              rw [h0v, hz] at hb
              cases hb
          · rcases askT_holds (d := d.push ys) hR' ht with ⟨hb, R2, hR2, _, ht⟩ | ⟨hb, R2, hR2, _, ht⟩
            · exfalso
              have hb : decide ((E.var R.i.length).den (d.push ys).Φ (d.push ys).ρ = 0) = true := hb
              rw [h0v] at hb
              exact hz (of_decide_eq_true hb)
            · have := hX C.pty (.var R.i.length) R2 S (d.push ys) a w' hd hR2 h.df hw' ht
              rw [h0v] at this
              exact this
        cases c1 : (as.sc R.i.length R.l.length && scAll R S) <;> simp only [c1, cond_false, cond_true] at ht
        · exact ht.elim
        · simp only [Bool.and_eq_true, scAll] at c1
          split at ht
          · rename_i v hv
            obtain ⟨ho, ht⟩ := need_holds ht
            have hn : R.i.length ≤ d.ρ.i.length := by rw [hR.li]; exact Nat.le_refl _
            obtain ⟨_, _, _, hq, _, _, _, hs, _, _⟩ := callOp_some hc
            refine call_wp (by rw [hd]; exact hC) hR h.hp rfl h.reads rd_ok hc hnp ?_ fun w' hw' => ?_
            · cases hst : s.total
              · exact .inr (ho (.pre g as) (by simp [hst]))
              · exact .inl rfl
            · simp only [T.holds] at ht
              let ys := norm (resKds s).length (d.Φ g (as.denE d.Φ d.ρ) (as.denL d.Φ d.ρ)).1
              have hR' : RV d.Φ (R.push ((resKds s).map Kd.iv)) (d.ρ.pushI ys) := hR.push (by subst hd; exact hΦ g s hs _ _) c1.2.2
              have h0 : Sat X d S a w' := ⟨h.df, h.tm, hw'⟩
              have h1 := h0.push hn c1.2.1 ys
              have hiv : v.is (d.push ys) (resV s (d.Φ g (as.denE d.Φ d.ρ) (as.denL d.Φ d.ρ)).1) := by
                have e1 := resSV_is (d := d.push ys) hv
                have hlen : (resKds s).length = ys.length := (norm_length _ _).symm
                have e2 : (varComps R.i.length s.res).map (compV (d.push ys)) = resVals (d.Φ g (as.denE d.Φ d.ρ) (as.denL d.Φ d.ρ)).1 0 s.res := by
                  have hlt : ∀ j, j < (resKds s).length → (d.push ys).ρ.i.getD (R.i.length + j) 0 = (d.Φ g (as.denE d.Φ d.ρ) (as.denL d.Φ d.ρ)).1.getD j 0 := fun j hj => by
                    rw [← norm_getD (resKds s).length _ j hj]
                    have := getD_append_right (xs := d.ρ.i) (ys := ys) (n := j)
                    rw [hR.li] at this
                    exact this
                  have gen := varComps_den (d := d.push ys) hlt s.res 0 (by simp [resKds])
                  simpa using gen
                rw [e2] at e1
                exact e1
              refine ih _ _ (S.put o.dst v) (d.push ys) (a.put o.dst _) w' (by exact hd) hR' ?_ ?_ ht
              · have := h1.tm.put hiv (resSV_ok hv (varComps_plain s.res _)) o.dst
                refine ⟨by cases o.dst <;> exact h.df, ?_, ?_⟩
                · rw [put_heap]; exact this
                · rw [put_heap]; exact h1.hp
              · rw [put_heap]
                simp only [countNew] at hf
                exact ⟨by have := hf.1; omega, fun k k1 k2 => hf.2 k (by omega) (by omega)⟩
          · exact ht.elim
      · cases hnp0 : isPanOp C o.op <;> simp only [hnp0, cond_false, cond_true] at ht
        rotate_left
        · exact ht.elim
        split at ht
        · rename_i g s as hc
          cases c1 : (as.sc R.i.length R.l.length && scAll R S) <;> simp only [c1, cond_false, cond_true] at ht
          · exact ht.elim
          · simp only [Bool.and_eq_true, scAll] at c1
            split at ht
            · rename_i vn vl hvn hvl
              obtain ⟨ho, ht⟩ := need_holds ht
              have hn : R.i.length ≤ d.ρ.i.length := by rw [hR.li]; exact Nat.le_refl _
              have hm : R.l.length ≤ d.ρ.l.length := by rw [hR.ll]; exact Nat.le_refl _
              refine lcall_wp (by rw [hd]; exact hC) hR h.hp rfl h.reads rd_ok hc ?_ fun x w' hpost hw' => ?_
              · cases hst : s.total
                · exact .inr (ho (.pre g as) (by simp [hst]))
                · exact .inl rfl
              · simp only [T.holds] at ht
                obtain ⟨vs, bs, hx, h1, h2, h3⟩ := hpost
                have hx := Ending.returned.inj hx
                subst hx
                have ht := ht _ _ h1 h2 rfl
                generalize hys : (d.Φ g (as.denE d.Φ d.ρ) (as.denL d.Φ d.ρ)).1 = ys at ht h1 h3 ⊢
                generalize hzs : (d.Φ g (as.denE d.Φ d.ρ) (as.denL d.Φ d.ρ)).2 = zs at ht h2 h3
                have hR2 : RV d.Φ (R.push2 s.ivs s.lvs) (d.ρ.push2 ys zs) := hR.push2 h1 h2 c1.2.2
                have h0 : Sat X d S a w' := ⟨h.df, h.tm, hw'⟩
                have hs2 := h0.push2 hn hm c1.2.1 ys zs
                have hlt : ∀ j, j < ys.length → (d.push2 ys zs).ρ.i.getD (R.i.length + j) 0 = ys.getD j 0 := fun j hj => by
                  have := getD_append_right (xs := d.ρ.i) (ys := ys) (n := j)
                  rw [hR.li] at this
                  exact this
                have hyl : ys.length = 1 + (lsKds s.res).length := by
                  have := allHas_length h1
                  simp only [LSig.ivs, List.length_cons, List.length_map] at this
                  omega
                have hflag : (mkEq (R.push2 s.ivs s.lvs) (.var R.i.length) (.lit 1)).den (d.push2 ys zs).Φ (d.push2 ys zs).ρ = decide (ys.getD 0 0 = 1) := by
                  have := hlt 0 (by omega)
                  rw [Nat.add_zero] at this
                  have e := mkEq_den (Φ := d.Φ) hR2 (.var R.i.length) (.lit 1)
                  exact e.trans (decide_eq_decide.2 (by rw [show E.den d.Φ (d.ρ.push2 ys zs) (E.var R.i.length) = ys.getD 0 0 from this]; rfl))
                have hfr : ∀ hp' : List (Option Reg), (∀ k, k < hp'.length → True) → True := fun _ _ => trivial
                simp only [countNew] at hf
                rcases askT_holds (d := d.push2 ys zs) hR2 ht with ⟨hb, R', hR', _, ht⟩ | ⟨hb, R', hR', _, ht⟩
                · rw [hflag] at hb
                  have hvs : vs = List.replicate (lsKss s.res).length (.slice none 0 0) := by
                    rcases h3 with ⟨_, h3⟩ | ⟨h3, _⟩
                    · exact h3
                    · exact (h3 (of_decide_eq_true hb)).elim
                  subst hvs
                  refine ih _ _ (S.put o.dst vn) (d.push2 ys zs) (a.put o.dst _) w' hd hR' ?_ ?_ ht
                  · have e1 := resSV_is (d := d.push2 ys zs) hvn
                    rw [lComps_den (d := d.push2 ys zs) hlt s.res 1 _ (List.replicate (lsKss s.res).length (.slice none 0 0)) (by omega) (by rw [List.map_replicate]; rfl)] at e1
                    have := hs2.tm.put e1 (resSV_okc hvn (lComps_ok s.res _ _ fun c hc => by rw [(List.mem_replicate.1 hc).2]; trivial)) o.dst
                    refine ⟨by cases o.dst <;> exact h.df, ?_, ?_⟩
                    · rw [put_heap]; exact this
                    · rw [put_heap]; exact hs2.hp
                  · rw [put_heap]
                    exact ⟨by have := hf.1; omega, fun k k1 k2 => hf.2 k (by omega) (by omega)⟩
                · rw [hflag] at hb
                  have h3 : FreshAll w.heap.size w' (lsKss s.res) (lsTys s.res) zs vs bs := by
                    rcases h3 with ⟨h3, _⟩ | ⟨_, h3⟩
                    · exact (of_decide_eq_false hb h3).elim
                    · exact h3
                  have hg := hs2.grow (lsKss s.res).length
                  have hzl : zs.length = (lsKss s.res).length := by
                    have := allL_length h2
                    simp only [LSig.lvs, List.length_map] at this
                    omega
                  have e0 : (varLs R.l.length (lsKss s.res).length).map (L.den (d.push2 ys zs).Φ (d.push2 ys zs).ρ) = zs := varLs_den _ _ d.ρ.l zs rfl hR.ll.symm hzl
                  obtain ⟨d', b1, b2, b3, b4, b5⟩ := HP.addAll (X := X) h.hp.bl.size (lsKss s.res) (lsTys s.res) (varLs R.l.length (lsKss s.res).length) vs bs S.heap.length _ (d.push2 ys zs) hg.hp (by rw [e0]; exact h3) (fun k k1 k2 => by
                    refine ⟨?_, by simp; omega⟩
                    rw [getH_append_none]; exact getH_ge _ _ k1) (fun i ri hi oi hm => by
                    rw [getH_append_none] at hi
                    have := h.hp.lt hi oi
                    have := h3.len _ hm
                    exact absurd this (by show ¬ w.heap.size ≤ (d.α i).1; omega))
                  refine ih _ _ _ d' (a.put o.dst _) w' (b1.Φ.trans hd) (by rw [b1.Φ, b1.ρ]; exact hR') ?_ ?_ (by rw [b1.Φ, b1.ρ]; exact ht)
                  · have e1 := resSV_is (d := d') hvl
                    rw [lComps_den (d := d') (by rw [b1.ρ]; exact hlt) s.res 1 _ vs (by omega) b4] at e1
                    have := (hg.tm.agree b1 b2).put (S := { S with heap := wrAll (S.heap ++ List.replicate (lsKss s.res).length none) (cpWr S.heap.length (lsKss s.res) (lsTys s.res) (varLs R.l.length (lsKss s.res).length)) }) e1 (resSV_okc hvl (lComps_ok s.res _ _ b5)) o.dst
                    refine ⟨by cases o.dst <;> exact h.df, ?_, ?_⟩
                    · rw [put_heap]; exact this
                    · rw [put_heap]; exact b3
                  · rw [put_heap]
                    refine ⟨by rw [wrAll_length, List.length_append]; have := hf.1; omega, fun k k1 k2 => ?_⟩
                    have hk : k < S.heap.length := by have := hf.1; omega
                    rw [wrAll_ne _ _ _ fun x hx e => by have := cpWr_ids _ _ _ _ x hx; omega, getH_append_none]
                    exact hf.2 k (by omega) (by omega)
            · exact ht.elim
        split at ht
        · rename_i g s q as hc
          cases c1 : (as.sc R.i.length R.l.length && scAll R S) <;> simp only [c1, cond_false, cond_true] at ht
          · exact ht.elim
          · simp only [Bool.and_eq_true, scAll] at c1
            split at ht
            · rename_i v hv
              obtain ⟨ho, ht⟩ := need_holds ht
              have hn : R.i.length ≤ d.ρ.i.length := by rw [hR.li]; exact Nat.le_refl _
              have hm : R.l.length ≤ d.ρ.l.length := by rw [hR.ll]; exact Nat.le_refl _
              refine wcall_wp (by rw [hd]; exact hC) hR h.hp rfl h.reads rd_ok hc ?_ fun x w' hpost hcase => ?_
              · cases hst : s.total
                · exact .inr (ho (.pre g as) (by simp [hst]))
                · exact .inl rfl
              · simp only [T.holds] at ht
                obtain ⟨hx, h1, h2⟩ := hpost
                have hx := Ending.returned.inj hx
                subst hx
                have ht := ht _ _ h1 h2 rfl
                generalize hys : (d.Φ g (as.denE d.Φ d.ρ) (as.denL d.Φ d.ρ)).1 = ys at ht h1 ⊢
                generalize hzs : (d.Φ g (as.denE d.Φ d.ρ) (as.denL d.Φ d.ρ)).2 = zs at ht h2 hcase
                have hR2 : RV d.Φ (R.push2 s.ivs [s.lv]) (d.ρ.push2 ys zs) := hR.push2 h1 h2 c1.2.2
                have hlt : ∀ j, j < ys.length → (d.push2 ys zs).ρ.i.getD (R.i.length + j) 0 = ys.getD j 0 := fun j hj => by
                  have := getD_append_right (xs := d.ρ.i) (ys := ys) (n := j)
                  rw [hR.li] at this
                  exact this
                have hyl : ys.length = (s.res.flatMap (·.2)).length := by
                  have := allHas_length h1
                  simp only [WSig.ivs, List.length_map] at this
                  omega
                have hiv : v.is (d.push2 ys zs) (oneOr (resVals ys 0 s.res)) := by
                  have e1 := resSV_is (d := d.push2 ys zs) hv
                  have gen := varComps_den (d := d.push2 ys zs) hlt s.res 0 (by omega)
                  rw [Nat.add_zero] at gen
                  rw [gen] at e1
                  exact e1
                have hvo : ∀ hp, v.ok (d.push2 ys zs) hp := fun hp => resSV_ok hv (varComps_plain s.res _)
                simp only [countNew] at hf
                rcases hcase with ⟨rfl, hw'⟩ | ⟨id, r, l, c, l', rest', rfl, hg, htl, ho', hty, hκ, hw, z1, z2, z3, z4, z5⟩
                · have h0 : Sat X d S a w' := ⟨h.df, h.tm, hw'⟩
                  have hs2 := h0.push2 hn hm c1.2.1 ys zs
                  refine ih _ _ (S.put o.dst v) (d.push2 ys zs) (a.put o.dst _) w' hd hR2 ?_ ?_ ht
                  · refine ⟨by cases o.dst <;> exact h.df, ?_, ?_⟩
                    · rw [put_heap]; exact hs2.tm.put hiv (hvo _) o.dst
                    · rw [put_heap]; exact hs2.hp
                  · rw [put_heap]
                    exact ⟨by have := hf.1; omega, fun k k1 k2 => hf.2 k (by omega) (by omega)⟩
                · have hs2 := h.push2 hn hm c1.2.1 ys zs
                  have elv : (L.var R.l.length).den (d.push2 ys zs).Φ (d.push2 ys zs).ρ = l' := by
                    have := varLs_den (d := d.push2 ys zs) 1 R.l.length d.ρ.l zs rfl hR.ll.symm (by rw [z1]; rfl)
                    simp only [varLs, List.map_cons, List.map_nil] at this
                    exact (List.cons.inj (this.trans z1)).1
                  have hsc : l.sc R.i.length R.l.length = true := by
                    have := c1.2.1
                    simp only [St.sc, Bool.and_eq_true, List.all_eq_true] at this
                    have := this.2 _ (getH_mem _ _ _ hg)
                    simp only [regSc, htl, tlSc, Bool.and_eq_true] at this
                    exact this.2
                  have eold : l.den (d.push2 ys zs).Φ (d.push2 ys zs).ρ = l.den d.Φ d.ρ := L.den_ext (Φ := d.Φ) (push2_i (ys := ys) (zs := zs) hn) (push2_l hm) _ hsc
                  have hP2 := hs2.hp.wrote (id := id) (c := c) (g := r) hg ho' htl (l' := .var R.l.length) (by rw [elv]; exact z2) (w' := w') hw (rest := rest') (by rw [elv, hty]; exact z4) hκ (by rw [elv]; exact z5)
                  have hlen : (nelE l s.ks.length).den (d.push2 ys zs).Φ (d.push2 ys zs).ρ = (nelE (.var R.l.length) s.ks.length).den (d.push2 ys zs).Φ (d.push2 ys zs).ρ := by
                    rw [nelE_nat, nelE_nat, elv, eold, z3]
                  have htm : TM (d.push2 ys zs) (S.wrote R.l.length s (some (id, r, l))).heap (S.wrote R.l.length s (some (id, r, l))).tmps a.tmps := by
                    refine ⟨by simp only [St.wrote, List.length_map]; exact hs2.tm.len, fun t => ?_, fun t => ?_⟩
                    · simp only [St.wrote]
                      rw [getT_map _ rfl]
                      exact SV.relen_is hlen (hs2.tm.is t)
                    · simp only [St.wrote]
                      rw [getT_map _ rfl]
                      exact SV.relen_ok hlen (SV.ok_mono ((Has.setH id _).trans (relenH_has _ _ _ _)) (hs2.tm.ok t))
                  refine ih _ _ _ (d.push2 ys zs) (a.put o.dst _) w' hd hR2 ?_ ?_ ht
                  · refine ⟨by cases o.dst <;> exact h.df, ?_, ?_⟩
                    · rw [put_heap]; exact TM.put (S := S.wrote R.l.length s (some (id, r, l))) htm hiv (hvo _) o.dst
                    · rw [put_heap]; exact hP2.relenH hlen
                  · rw [put_heap]
                    refine ⟨by simp only [St.wrote, relenH, List.length_map, setH_length]; have := hf.1; omega, fun k k1 k2 => ?_⟩
                    have hk : getH S.heap k = none := hf.2 k (by omega) (by omega)
                    have hne : id ≠ k := fun e => by rw [e, hk] at hg; cases hg
                    simp only [St.wrote]
                    rw [getH_relenH, getH_setH_ne _ _ _ _ hne, hk]; rfl
            · exact ht.elim
        split at ht
        · rename_i g s x y k hc
          cases c1 : (scAll R S && y.sc R.i.length R.l.length) <;> simp only [c1, cond_false, cond_true] at ht
          · exact ht.elim
          simp only [Bool.and_eq_true, scAll] at c1
          obtain ⟨⟨sS, sp⟩, sy⟩ := c1
          split at ht
          rotate_left
          · exact ht.elim
          rename_i q1 as1 hh1
          cases c2 : as1.sc R.i.length R.l.length <;> simp only [c2, cond_false, cond_true] at ht
          · exact ht.elim
          obtain ⟨ho1, ht⟩ := need_holds ht
          obtain ⟨f, hwf, hvia, hok, hcall⟩ := w2Op_wp (d := d) (a := a) (w := w) rfl h.reads hc
          obtain ⟨hres, hag⟩ := w2ok_spec hok
          have hct : Two C.P f g ∧ CTW0 C.P d.Φ Pr g s := by
            have := (hC.wf f s hwf).1
            unfold CTW at this
            rw [hvia] at this
            rw [hd]
            exact this
          have hn : R.i.length ≤ d.ρ.i.length := by rw [hR.li]; exact Nat.le_refl _
          refine hcall (hct.1 w _ _ _ _ (Calls.mono (wHalf_calls hct.2 hR h.hp (fun _ _ h => h) hh1 hag (ho1 (.pre g as1) (by simp))) fun e1 w1 ⟨v1, he1, ⟨hx1, i1, i2⟩, hcase1⟩ => ?_))
          subst he1
          have hx1 := Ending.returned.inj hx1
          simp only [T.holds] at ht
          have ht := ht _ _ i1 i2 rfl
          generalize (d.Φ g (as1.denE d.Φ d.ρ) (as1.denL d.Φ d.ρ)).1 = ys at ht i1 hx1
          generalize (d.Φ g (as1.denE d.Φ d.ρ) (as1.denL d.Φ d.ρ)).2 = zs at ht i2 hcase1
          have hR2 : RV d.Φ (R.push2 s.ivs [s.lv]) (d.ρ.push2 ys zs) := hR.push2 i1 i2 sp
          obtain ⟨h1, l1, n1⟩ := h.wroteS (ys := ys) (n := R.i.length) hn hR.ll.symm sS hcase1
          have hlt : ∀ j, j < ys.length → (d.push2 ys zs).ρ.i.getD (R.i.length + j) 0 = ys.getD j 0 := fun j hj => by
            have := getD_append_right (xs := d.ρ.i) (ys := ys) (n := j)
            rw [hR.li] at this
            exact this
          have hyl : ys.length = 1 := by
            have := allHas_length i1
            simp only [WSig.ivs, hres] at this
            exact this.symm
          have hzl : zs.length = 1 := by
            have := allL_length i2
            exact this.symm
          have hk1 : (E.var R.i.length).den (d.push2 ys zs).Φ (d.push2 ys zs).ρ = ys.getD 0 0 := hlt 0 (by omega)
          have hy1 : y.den (d.push2 ys zs) = y.den d := Cell.den_push2 hn (by rw [hR.ll]; exact Nat.le_refl _) sy
          split at ht
          rotate_left
          · exact ht.elim
          rename_i q2 as2 hh2
          cases c3 : (as2.sc (R.i.length + 1) (R.l.length + 1) && scAll (R.push2 s.ivs [s.lv]) (S.wrote R.l.length s q1)) <;> simp only [c3, cond_false, cond_true] at ht
          · exact ht.elim
          simp only [Bool.and_eq_true, scAll] at c3
          obtain ⟨_, sS2, sp2⟩ := c3
          obtain ⟨ho2, ht⟩ := need_holds (d := d.push2 ys zs) ht
          refine ⟨ys.getD 0 0, by rw [hx1, hres]; rfl, ?_⟩
          rw [← hy1, ← hk1]
          refine Calls.mono (wHalf_calls (d := d.push2 ys zs) hct.2 hR2 h1.hp (fun _ _ h => h) hh2 hag (ho2 (.pre g as2) (by simp))) fun e2 w2 ⟨v2, he2, ⟨hx2, j1, j2⟩, hcase2⟩ => ?_
          subst he2
          have hx2 := Ending.returned.inj hx2
          simp only [T.holds] at ht
          have ht := ht _ _ j1 j2 rfl
          generalize ((d.push2 ys zs).Φ g (as2.denE (d.push2 ys zs).Φ (d.push2 ys zs).ρ) (as2.denL (d.push2 ys zs).Φ (d.push2 ys zs).ρ)).1 = ys2 at ht j1 hx2
          generalize ((d.push2 ys zs).Φ g (as2.denE (d.push2 ys zs).Φ (d.push2 ys zs).ρ) (as2.denL (d.push2 ys zs).Φ (d.push2 ys zs).ρ)).2 = zs2 at ht j2 hcase2
          have hR3 : RV d.Φ ((R.push2 s.ivs [s.lv]).push2 s.ivs [s.lv]) ((d.ρ.push2 ys zs).push2 ys2 zs2) := hR2.push2 j1 j2 sp2
          have li2 : (d.push2 ys zs).ρ.i.length = R.i.length + 1 := by
            show (d.ρ.i ++ ys).length = _
            rw [List.length_append, hR.li, hyl]
          have ll2 : R.l.length + 1 = (d.push2 ys zs).ρ.l.length := by
            show _ = (d.ρ.l ++ zs).length
            rw [List.length_append, hR.ll, hzl]
          have ei : (R.push2 s.ivs [s.lv]).i.length = R.i.length + 1 := by
            exact hR2.li.symm.trans li2
          have el : (R.push2 s.ivs [s.lv]).l.length = R.l.length + 1 := by
            exact hR2.ll.symm.trans ll2.symm
          rw [ei, el] at sS2
          obtain ⟨h2, l2, n2⟩ := h1.wroteS (ys := ys2) (n := R.i.length + 1) (by rw [li2]; exact Nat.le_refl _) ll2 sS2 hcase2
          have hv : v2 = .int .i64 (ys2.getD 0 0) := by rw [hx2, hres]; rfl
          have hyl2 : ys2.length = 1 := by
            have := allHas_length j1
            simp only [WSig.ivs, hres] at this
            exact this.symm
          have hk2 : (E.var (R.i.length + 1)).den ((d.push2 ys zs).push2 ys2 zs2).Φ ((d.push2 ys zs).push2 ys2 zs2).ρ = ys2.getD 0 0 := by
            have := getD_append_right (xs := (d.push2 ys zs).ρ.i) (ys := ys2) (n := 0)
            rw [li2] at this
            exact this
          refine ⟨⟨_, by rw [hv]⟩, v2, rfl, ?_⟩
          have hiv : (SV.one (.int .i64 (.var (R.i.length + 1)))).is ((d.push2 ys zs).push2 ys2 zs2) v2 := by
            show v2 = .int .i64 _
            rw [hv, hk2]
          simp only [countNew] at hf
          refine ih _ _ _ ((d.push2 ys zs).push2 ys2 zs2) (a.put o.dst v2) w2 hd hR3 ?_ ?_ ht
          · refine ⟨by cases o.dst <;> exact h.df, ?_, ?_⟩
            · rw [put_heap]; exact h2.tm.put hiv trivial o.dst
            · rw [put_heap]; exact h2.hp
          · rw [put_heap]
            exact ⟨by rw [l2, l1]; have := hf.1; omega, fun k k1 k2 => n2 k (n1 k (hf.2 k (by omega) (by omega)))⟩
        split at ht
        · rename_i g s as hc
          cases c1 : (as.sc R.i.length R.l.length && scAll R S) <;> simp only [c1, cond_false, cond_true] at ht
          · exact ht.elim
          · simp only [Bool.and_eq_true, scAll] at c1
            split at ht
            · rename_i v hv
              obtain ⟨ho, ht⟩ := need_holds ht
              have hn : R.i.length ≤ d.ρ.i.length := by rw [hR.li]; exact Nat.le_refl _
              have hm : R.l.length ≤ d.ρ.l.length := by rw [hR.ll]; exact Nat.le_refl _
              refine scall_wp (by rw [hd]; exact hC) hR h.hp rfl h.reads rd_ok hc ?_ fun x w' hpost hw' => ?_
              · cases hst : s.total
                · exact .inr (ho (.pre g as) (by simp [hst]))
                · exact .inl rfl
              · simp only [T.holds] at ht
                obtain ⟨hx, h1, h2⟩ := hpost
                have hx := Ending.returned.inj hx
                subst hx
                have ht := ht _ _ h1 h2 rfl
                generalize hys : (d.Φ g (as.denE d.Φ d.ρ) (as.denL d.Φ d.ρ)).1 = ys at ht h1 ⊢
                generalize hzs : (d.Φ g (as.denE d.Φ d.ρ) (as.denL d.Φ d.ρ)).2 = zs at ht h2 ⊢
                have hR2 : RV d.Φ (R.push2 s.ivs s.lvs) (d.ρ.push2 ys zs) := hR.push2 h1 h2 c1.2.2
                have h0 : Sat X d S a w' := ⟨h.df, h.tm, hw'⟩
                have hs2 := h0.push2 hn hm c1.2.1 ys zs
                have hlt : ∀ j, j < ys.length → (d.push2 ys zs).ρ.i.getD (R.i.length + j) 0 = ys.getD j 0 := fun j hj => by
                  have := getD_append_right (xs := d.ρ.i) (ys := ys) (n := j)
                  rw [hR.li] at this
                  exact this
                have hzt : ∀ j, (d.push2 ys zs).ρ.l.getD (R.l.length + j) [] = zs.getD j [] := fun j => by
                  have := getL_append_right (xs := d.ρ.l) (ys := zs) (n := j)
                  rw [hR.ll] at this
                  exact this
                have hyl : ys.length = (ssKds s.res).length := by
                  have := allHas_length h1
                  simp only [SSig.ivs, List.length_map] at this
                  omega
                have hiv : v.is (d.push2 ys zs) (oneOr (sVals ys zs 0 0 s.res)) := by
                  have e1 := resSV_is (d := d.push2 ys zs) hv
                  have gen := sComps_den (d := d.push2 ys zs) hlt hzt s.res 0 0 (by omega)
                  rw [Nat.add_zero, Nat.add_zero] at gen
                  rw [gen] at e1
                  exact e1
                simp only [countNew] at hf
                refine ih _ _ (S.put o.dst v) (d.push2 ys zs) (a.put o.dst _) w' hd hR2 ?_ ?_ ht
                · refine ⟨by cases o.dst <;> exact h.df, ?_, ?_⟩
                  · rw [put_heap]; exact hs2.tm.put hiv (resSV_okc hv (sComps_ok s.res _ _)) o.dst
                  · rw [put_heap]; exact hs2.hp
                · rw [put_heap]
                  exact ⟨by have := hf.1; omega, fun k k1 k2 => hf.2 k (by omega) (by omega)⟩
            · exact ht.elim
        split at ht
        · rename_i t k ix n hix
          obtain ⟨q1, q2⟩ := idxOf_some hix
          obtain ⟨j', R', hR', hS', ht'⟩ := idxT_holds h q1 n 0 R hR ht
          exact go _ true R' hS' hf hR' (fun b' h' => by rw [q2] at h'; cases h') ht'
        split at ht
        · rename_i b hb
          rcases askT_holds hR ht with ⟨hb', R', hR', _, ht⟩ | ⟨hb', R', hR', _, ht⟩
          · exact go S true R' h hf hR' (fun b' h' => by rw [hb] at h'; cases h'; exact hb') ht
          · exact go S false R' h hf hR' (fun b' h' => by rw [hb] at h'; cases h'; exact hb') ht
        · rename_i hb
          exact go S true R h hf hR (fun b' h' => by rw [hb] at h'; cases h') ht
    have skip : ∀ (R : Bds), RV d.Φ R d.ρ → (seqT C ops fin rest (new + newsOf C o.op) R (S.put o.dst .undef)).holds d.Φ Pr d.ρ K → wpList C.P ops Q rest (a.put o.dst undef) w := by
      intro R hR ht
      refine ih _ R _ d _ w hd hR (skip_sat h o.dst) ?_ ht
      rw [put_heap]
      simp only [countNew] at hf
      exact ⟨by have := hf.1; omega, fun k k1 k2 => hf.2 k (by omega) (by omega)⟩
    have hg := guardOf_spec (ops := ops) (o := o) h
    unfold wpList
    cases hgd : guardOf ops S o with
    | run =>
      rw [hgd] at ht hg
      simp only at hg
      rw [if_pos hg]
      exact .inl (run R hR ht)
    | skip =>
      rw [hgd] at ht hg
      simp only at hg
      rw [if_neg (by rw [hg]; simp)]
      exact skip R hR ht
    | ask b =>
      rw [hgd] at ht hg
      simp only at hg ht
      rcases askT_holds hR ht with ⟨hb', R', hR', _, ht⟩ | ⟨hb', R', hR', _, ht⟩
      · rw [if_pos (by rw [hg]; exact hb')]
        exact .inl (run R' hR' ht)
      · rw [if_neg (by rw [hg, hb']; simp)]
        exact skip R' hR' ht
    | bad => rw [hgd] at ht; exact ht.elim
end
end Go.Proofs.YtelfpnkhdaaeoaaDoor.Sx
