/-
  The symbolic executor: code.
-/
import Derived.Test.YtelfpnkhdaaeoaaDoorSxS
import Derived.ScopeJumps
namespace Go.Proofs.YtelfpnkhdaaeoaaDoor.Sx
open Go Go.RowKit

section
variable {C : Cfg} {X : Ctx} {d : Dn} {w : World} {a : Act} {Pr : Pres} {Φ : Fns}

/-! ### Two branches become one -/
theorem mergeC_same {b : B} {side : Bool} (hb : b.den d.Φ d.ρ = side) {x y c : Cell} (h : mergeC b x y = some c) : SameC d (bif side then x else y) c := by
  unfold mergeC at h
  split at h
  · rename_i k e k' e'
    cases hk : decide (k = k') <;> simp only [hk, cond_false, cond_true] at h
    · cases h
    · cases h
      have hk := of_decide_eq_true hk
      subst hk
      cases he : e.eqb e' <;> simp only [cond_false, cond_true]
      · cases side <;> exact ⟨by simp [Cell.den, E.den, hb], fun _ _ => trivial⟩
      · have := E.eqb_eq e e' he
        subst this
        cases side <;> exact SameC.refl _ _
  · rename_i c c'
    cases h
    cases he : c.eqb c' <;> simp only [cond_false, cond_true]
    · cases side <;> exact ⟨by simp [Cell.den, mkOr_den, mkAnd_den, mkNot_den, hb], fun _ _ => trivial⟩
    · have := B.eqb_eq c c' he
      subst this
      cases side <;> exact SameC.refl _ _
  · rename_i i o i' o'
    cases hk : Nat.beq i i' && Nat.beq o o' <;> simp only [hk, cond_false, cond_true] at h
    · cases h
    · cases h
      simp only [Bool.and_eq_true, Nat.beq_eq] at hk
      obtain ⟨rfl, rfl⟩ := hk
      cases side <;> exact SameC.refl _ _
  · cases h; cases side <;> exact SameC.refl _ _
  · cases h; cases side <;> exact SameC.refl _ _
  · cases h; cases side <;> exact SameC.refl _ _
  · rename_i f f'
    cases hk : Nat.beq f f' <;> simp only [hk, cond_false, cond_true] at h
    · cases h
    · cases h
      simp only [Nat.beq_eq] at hk
      subst hk
      cases side <;> exact SameC.refl _ _
  · rename_i l l'
    cases hk : l.eqb l' <;> simp only [hk, cond_false, cond_true] at h
    · cases h
    · cases h
      have := L.eqb_eq l l' hk
      subst this
      cases side <;> exact SameC.refl _ _
  · rename_i i t o l i' t' o' l'
    cases hk : Nat.beq i i' && (Nat.beq t t' && (o.eqb o' && l.eqb l')) <;> simp only [hk, cond_false, cond_true] at h
    · cases h
    · cases h
      simp only [Bool.and_eq_true, Nat.beq_eq] at hk
      obtain ⟨rfl, rfl, h3, h4⟩ := hk
      have h3 := E.eqb_eq _ _ h3
      have h4 := E.eqb_eq _ _ h4
      subst h3 h4
      cases side <;> exact SameC.refl _ _
  · cases h

theorem mergeCs_same {b : B} {side : Bool} (hb : b.den d.Φ d.ρ = side) : ∀ {xs ys cs : List Cell}, mergeCs b xs ys = some cs → SameCs d (bif side then xs else ys) cs
  | [], [], cs, h => by
    simp only [mergeCs, Option.some.injEq] at h
    subst h
    cases side <;> exact trivial
  | x :: xs, y :: ys, cs, h => by
    simp only [mergeCs] at h
    split at h
    · rename_i c cs' h1 h2
      cases h
      have q1 := mergeC_same hb h1
      have q2 := mergeCs_same hb h2
      cases side <;> exact ⟨q1, q2⟩
    · cases h
  | [], _ :: _, _, h => by cases h
  | _ :: _, [], _, h => by cases h

theorem mergeV_is {b : B} {side : Bool} (hb : b.den d.Φ d.ρ = side) {x y : SV} {v : Value} (h : (bif side then x else y).is d v) : (mergeV b x y).is d v := by
  unfold mergeV
  split
  · rename_i c c'
    split
    · rename_i q hq
      have := mergeC_same hb hq
      cases side <;> (simp only [cond_false, cond_true, SV.is] at *; rw [h, this.1])
    · trivial
  · rename_i cs cs'
    split
    · rename_i q hq
      have := mergeCs_same hb hq
      cases side <;> (simp only [cond_false, cond_true, SV.is] at *; rw [h, this.map])
    · trivial
  · cases side <;> exact h
  · trivial

theorem mergeV_ok {b : B} {side : Bool} (hb : b.den d.Φ d.ρ = side) {x y : SV} {hp : List (Option Reg)} (h : (bif side then x else y).ok d hp) : (mergeV b x y).ok d hp := by
  unfold mergeV
  split
  · rename_i c c'
    split
    · rename_i q hq
      have := mergeC_same hb hq
      cases side <;> exact this.2 hp h
    · trivial
  · rename_i cs cs'
    split
    · rename_i q hq
      have := mergeCs_same hb hq
      cases side <;> exact this.ok h
    · trivial
  · cases side <;> exact h
  · trivial

theorem mergeT_get {b : B} : ∀ {ts us l : List SV}, mergeT b ts us = some l → l.length = ts.length ∧ l.length = us.length ∧ ∀ t, getT l t = mergeV b (getT ts t) (getT us t)
  | [], [], l, h => by
    simp only [mergeT, Option.some.injEq] at h
    subst h
    exact ⟨rfl, rfl, fun t => by rw [getT_nil]; rfl⟩
  | x :: xs, y :: ys, l, h => by
    simp only [mergeT, Option.map_eq_some_iff] at h
    obtain ⟨l', h1, rfl⟩ := h
    obtain ⟨h2, h3, h4⟩ := mergeT_get h1
    exact ⟨by simp [h2], by simp [h3], fun t => by
      cases t with
      | zero => rfl
      | succ t => exact h4 t⟩
  | [], _ :: _, _, h => by cases h
  | _ :: _, [], _, h => by cases h

def HMerge (b : B) (x y z : Option Reg) : Prop :=
  (∃ r q cs, x = some r ∧ y = some q ∧ r.own = q.own ∧ (r.ty = q.ty ∧ r.tl = q.tl) ∧ mergeCs b r.cs q.cs = some cs ∧ z = some { r with cs := cs }) ∨ (x = none ∧ y = none ∧ z = none)

theorem mergeH_get {b : B} : ∀ {xs ys l : List (Option Reg)}, mergeH b xs ys = some l → l.length = xs.length ∧ l.length = ys.length ∧ ∀ k, HMerge b (getH xs k) (getH ys k) (getH l k)
  | [], [], l, h => by
    simp only [mergeH, Option.some.injEq] at h
    subst h
    exact ⟨rfl, rfl, fun k => .inr ⟨getH_nil k, getH_nil k, getH_nil k⟩⟩
  | some r :: xs, some q :: ys, l, h => by
    simp only [mergeH] at h
    cases hc : (bif r.own then q.own else !q.own) && (Nat.beq r.ty q.ty && tlEqb r.tl q.tl) <;> simp only [hc, cond_false, cond_true] at h
    · cases h
    · split at h
      · rename_i cs hs h1 h2
        cases h
        obtain ⟨i1, i2, i3⟩ := mergeH_get h2
        simp only [Bool.and_eq_true, Nat.beq_eq] at hc
        refine ⟨by simp [i1], by simp [i2], fun k => ?_⟩
        cases k with
        | zero =>
          refine .inl ⟨r, q, cs, rfl, rfl, ?_, ⟨hc.2.1, tlEqb_eq hc.2.2⟩, h1, rfl⟩
          have := hc.1
          revert this
          cases r.own <;> cases q.own <;> simp
        | succ k => exact i3 k
      · cases h
  | [], _ :: _, _, h => by simp [mergeH] at h
  | none :: _, _, _, h => by simp [mergeH] at h
  | some _ :: _, [], _, h => by simp [mergeH] at h
  | some _ :: _, none :: _, _, h => by simp [mergeH] at h

theorem RegIs.congr {id : Nat} {r r' : Reg} (h : RegIs X d id r w) (ho : r'.own = r.own) (ht : r'.ty = r.ty ∧ r'.tl = r.tl) (hc : r'.cs.map (Cell.den d) = r.cs.map (Cell.den d)) : RegIs X d id r' w :=
  h.move ho ht.1 rfl rfl hc (by rw [ht.2]; exact SameTl.refl _ _) fun _ => rfl

theorem mergeS_sound {b : B} {side : Bool} (hb : b.den d.Φ d.ρ = side) {S S' M : St} (hm : mergeS b S S' = some M) (h : Sat X d (bif side then S else S') a w) : Sat X d M a w := by
  unfold mergeS at hm
  split at hm
  · rename_i ts hs h1 h2
    cases hm
    obtain ⟨t1, t2, t3⟩ := mergeT_get h1
    obtain ⟨s1, s2, s3⟩ := mergeH_get h2
    have eT : ∀ t, getT (bif side then S else S').tmps t = bif side then getT S.tmps t else getT S'.tmps t := fun t => by cases side <;> rfl
    have back : ∀ k r, getH hs k = some r → ∃ r', getH (bif side then S else S').heap k = some r' ∧ r.own = r'.own ∧ (r.ty = r'.ty ∧ r.tl = r'.tl) ∧ SameCs d r'.cs r.cs := fun k r hk => by
      rcases s3 k with ⟨p, q, cs, e1, e2, e3, e4, e5, e6⟩ | ⟨_, _, e3⟩
      · rw [hk] at e6
        cases e6
        have := mergeCs_same hb e5
        cases side
        · exact ⟨q, e2, e3, e4, this⟩
        · exact ⟨p, e1, rfl, ⟨rfl, rfl⟩, this⟩
      · rw [hk] at e3; cases e3
    have hh : Has (bif side then S else S').heap hs := fun k hk => by
      rcases s3 k with ⟨p, q, cs, e1, e2, e3, e4, e5, e6⟩ | ⟨e1, e2, e3⟩
      · rw [e6]; rfl
      · cases side
        · rw [show getH (bif false then S else S').heap k = none from e2] at hk; cases hk
        · rw [show getH (bif true then S else S').heap k = none from e1] at hk; cases hk
    refine ⟨h.df, ⟨?_, fun t => ?_, fun t => ?_⟩, ⟨h.hp.bl, fun k r hk => ?_, fun i j ri rj hi hj oi oj hij => ?_, fun k r hk c hc => ?_, (h.hp.pin.agree (Agree.refl _ _) hh)⟩⟩
    · have := h.tm.len
      cases side
      · exact this.trans t2.symm
      · exact this.trans t1.symm
    · have := h.tm.is t
      rw [eT] at this
      rw [t3]
      exact mergeV_is hb this
    · have := h.tm.ok t
      rw [eT] at this
      rw [t3]
      exact mergeV_ok hb (SV.ok_mono hh this)
    · obtain ⟨r', q1, q2, q3, q4⟩ := back k r hk
      exact (h.hp.reg k r' q1).congr q2 q3 q4.map
    · obtain ⟨ri', a1, a2, _, _⟩ := back i ri hi
      obtain ⟨rj', b1, b2, _, _⟩ := back j rj hj
      exact h.hp.sep i j ri' rj' a1 b1 (a2 ▸ oi) (b2 ▸ oj) hij
    · obtain ⟨r', q1, q2, q3, q4⟩ := back k r hk
      exact q4.ok (fun c hc => Cell.ok_mono hh (h.hp.ids k r' q1 c hc)) c hc
  · cases hm

/-! ### Code -/
def Ex.out (d : Dn) : Ex → Exit
  | .normal => .normal
  | .exit id => .exit id
  | .goto l => .goto l
  | .ret => .ret
  | .pan t e => .panic (panicV t (e.den d.Φ d.ρ))
/-- What is known where it ends: of a panic, that all else of before is as it was. -/
def SatX (X : Ctx) (x : Ex) (d : Dn) (S : St) (a : Act) (w : World) : Prop := match x with
  | .pan _ _ => a.defers = [] ∧ Bl X w
  | _ => Sat X d S a w
theorem Sat.toX {X : Ctx} {d : Dn} {S : St} {a : Act} {w : World} (h : Sat X d S a w) (x : Ex) : SatX X x d S a w := by
  cases x <;> first | exact h | exact ⟨h.df, h.hp.bl⟩

theorem seq_holds {f : Ex → Bds → St → T} {K : Ex → Bds → St → Env → Prop} : ∀ (t : T) (ρ : Env), (t.seq f).holds Φ Pr ρ K → t.holds Φ Pr ρ fun x R S ρ => (f x R S).holds Φ Pr ρ K
  | .fail _, _, h => h
  | .leaf _ _ _, _, h => h
  | .ite _ t e, ρ, h => ⟨fun hb => seq_holds t ρ (h.1 hb), fun hb => seq_holds e ρ (h.2 hb)⟩
  | .need _ t, ρ, h => ⟨h.1, seq_holds t ρ h.2⟩
  | .bind _ t, _, h => seq_holds t _ h
  | .call _ _ _ t, _, h => seq_holds t _ h
  | .calll _ _ _ _ t, _, h => fun ys zs h1 h2 h3 => seq_holds t _ (h ys zs h1 h2 h3)
  | .again _ _ _ _ _ _, _, h => h
  | .loop _ _ _ _ _ t, _, h => ⟨h.1, h.2.1, fun ys zs h1 h2 h3 => seq_holds t _ (h.2.2 ys zs h1 h2 h3)⟩

/-- What follows from the leaves. -/
def Fin (X : Ctx) (Φ : Fns) (K : Ex → Bds → St → Env → Prop) (Q : Exit → Act → World → Prop) : Prop :=
  ∀ (x : Ex) (R : Bds) (S : St) (d : Dn) (a : Act) (w : World), d.Φ = Φ → RV d.Φ R d.ρ → SatX X x d S a w → K x R S d.ρ → Q (x.out d) a w

/-- A loop that has begun. -/
def LoopWp (P : Program) (c : Code) (Q : Exit → Act → World → Prop) (a : Act) (w : World) : Prop :=
  ∀ (b : Frame) (k : List Go.Item) (cs : List Frame), ∃ e a' w', Q e a' w' ∧ Arrives P (lone (b.at a (.code c :: .inLoop c :: k)) cs w) b k cs e a' w'

theorem LoopWp.wp {P : Program} {c : Code} {Q : Exit → Act → World → Prop} (h : LoopWp P c Q a w) : (Code.loop c).wp P Q a w := fun b k cs => by
  obtain ⟨e, a', w', hq, harr⟩ := h b k cs
  exact ⟨e, a', w', hq, .of_steps (.one step_loop) harr⟩

theorem LoopWp.round {P : Program} {c : Code} {Q : Exit → Act → World → Prop} (h : c.wp P (Exit.then (LoopWp P c Q) Q) a w) : LoopWp P c Q a w := fun b k cs => by
  obtain ⟨e, a₁, w₁, hq, harr⟩ := h b (.inLoop c :: k) cs
  cases e with
  | normal =>
    obtain ⟨e₂, a₂, w₂, hq₂, harr₂⟩ := hq b k cs
    exact ⟨e₂, a₂, w₂, hq₂, .of_steps (Steps.trans harr (.one step_inLoop)) harr₂⟩
  | exit id => exact ⟨_, a₁, w₁, hq, .pass (x := .inLoop c) rfl (fun _ _ => .inl (by simp)) harr⟩
  | goto l => exact ⟨_, a₁, w₁, hq, .pass (x := .inLoop c) rfl (fun _ _ => .inl (by simp)) harr⟩
  | ret => exact ⟨_, a₁, w₁, hq, .pass (x := .inLoop c) rfl (fun _ _ => .inl (by simp)) harr⟩
  | panic ch => exact ⟨_, a₁, w₁, hq, .pass (x := .inLoop c) rfl (fun _ _ => .inl (by simp)) harr⟩
  | outgrown => exact ⟨_, a₁, w₁, hq, .pass (x := .inLoop c) rfl (fun _ _ => .inl (by simp)) harr⟩

theorem LoopWp.ghost {P : Program} {c : Code} {Q : Exit → Act → World → Prop} (I : Nat → Act → World → Prop)
    (round : ∀ n a w, I n a w → c.wp P (Exit.then (fun a' w' => ∃ n', n' < n ∧ I n' a' w') Q) a w) : ∀ n a w, I n a w → LoopWp P c Q a w := by
  intro n
  induction n using Nat.strongRecOn with
  | _ n ih =>
    intro a w h
    refine LoopWp.round (wp_mono (round n a w h) fun e a' w' hq => ?_)
    cases e with
    | normal => obtain ⟨n', h1, h2⟩ := hq; exact ih n' h1 a' w' h2
    | _ => exact hq

/-- What a run proves of its code. -/
def Goal (P : Program) (c : Code) (Q : Exit → Act → World → Prop) (a : Act) (w : World) : Prop := match c with
  | .loop x => LoopWp P x Q a w
  | c => c.wp P Q a w
theorem Goal.wp {P : Program} {c : Code} {Q : Exit → Act → World → Prop} (h : Goal P c Q a w) : c.wp P Q a w := by
  unfold Goal at h
  split at h
  · exact h.wp
  · exact h

/-! ### Two blocks that change their numbers -/
theorem swapId_swap (a b x : Nat) : swapId a b (swapId a b x) = x := by
  unfold swapId
  cases h1 : Nat.beq x a
  · cases h2 : Nat.beq x b
    · simp only [cond_false, h1, h2]
    · simp only [cond_false, cond_true, Nat.beq_refl]
      exact (Nat.eq_of_beq_eq_true h2).symm
  · simp only [cond_true]
    have e := Nat.eq_of_beq_eq_true h1
    cases h2 : Nat.beq b a
    · simp only [cond_false, Nat.beq_refl, cond_true]
      exact e.symm
    · simp only [cond_true]
      rw [Nat.eq_of_beq_eq_true h2, e]
def Dn.swap (a b : Nat) (d : Dn) : Dn := ⟨d.Φ, d.ρ, fun i => d.α (swapId a b i), fun i => d.κ (swapId a b i)⟩
theorem Cell.den_swap (a b : Nat) (c : Cell) : (c.swap a b).den (d.swap a b) = c.den d := by
  cases c <;> simp only [Cell.swap, Cell.den, Dn.swap, swapId_swap]
  rw [List.map_map]
  congr 2
  exact List.map_congr_left fun p _ => by simp only [Function.comp_apply, swapId_swap]
theorem getH_swapH {a b : Nat} {hp : List (Option Reg)} (ha : a < hp.length) (hb : b < hp.length) (k : Nat) : getH (swapH a b hp) k = (getH hp (swapId a b k)).map (Reg.swap a b) := by
  unfold swapH
  rw [getH_map]
  congr 1
  unfold swapId
  by_cases h2 : k = b
  · subst h2
    rw [getH_setH_same _ _ _ (by rw [setH_length]; exact hb)]
    cases h : Nat.beq k a
    · simp only [cond_false, Nat.beq_refl, cond_true]
    · simp only [cond_true]
      rw [Nat.eq_of_beq_eq_true h]
  · rw [getH_setH_ne _ _ _ _ (Ne.symm h2)]
    have n2 : Nat.beq k b = false := by
      cases h : Nat.beq k b
      · rfl
      · exact absurd (Nat.eq_of_beq_eq_true h) h2
    by_cases h1 : k = a
    · subst h1
      rw [getH_setH_same _ _ _ ha]
      simp only [Nat.beq_refl, cond_true]
    · rw [getH_setH_ne _ _ _ _ (Ne.symm h1)]
      have n1 : Nat.beq k a = false := by
        cases h : Nat.beq k a
        · rfl
        · exact absurd (Nat.eq_of_beq_eq_true h) h1
      simp only [n1, n2, cond_false]
theorem Cell.ok_swap {a b : Nat} {hp : List (Option Reg)} (ha : a < hp.length) (hb : b < hp.length) {c : Cell} (h : c.ok d hp) : (c.swap a b).ok (d.swap a b) (swapH a b hp) := by
  have key : ∀ i, (getH hp i).isSome = true → (getH (swapH a b hp) (swapId a b i)).isSome = true := fun i hi => by
    rw [getH_swapH ha hb, swapId_swap, Option.isSome_map]; exact hi
  cases c <;> first | exact key _ h | exact ⟨key _ h.1, h.2⟩ | trivial | skip
  exact fun p hp => by
    obtain ⟨q, hq, rfl⟩ := List.mem_map.1 hp
    exact key _ (h q hq)
theorem SV.is_swap {a b : Nat} {v : SV} {x : Value} (h : v.is d x) : (v.swap a b).is (d.swap a b) x := by
  have cs : ∀ l : List Cell, (l.map (Cell.swap a b)).map (Cell.den (d.swap a b)) = l.map (Cell.den d) := fun l => by
    rw [List.map_map]
    exact List.map_congr_left fun c _ => Cell.den_swap a b c
  cases v with
  | one c => simp only [SV.swap, SV.is, Cell.den_swap] at *; exact h
  | agg l => simp only [SV.swap, SV.is, cs] at *; exact h
  | tup vs =>
    simp only [SV.swap, SV.is, List.map_map] at *
    rw [h]
    congr 2
    refine List.map_congr_left fun p _ => ?_
    obtain ⟨g, l⟩ := p
    cases g
    · cases l with
      | nil => rfl
      | cons c r => exact (Cell.den_swap a b c).symm
    · simp only [Function.comp, compV]
      rw [List.map_map, cs]
  | any => trivial
theorem SV.ok_swap {a b : Nat} {hp : List (Option Reg)} (ha : a < hp.length) (hb : b < hp.length) {v : SV} (h : v.ok d hp) : (v.swap a b).ok (d.swap a b) (swapH a b hp) := by
  cases v with
  | one c => exact Cell.ok_swap ha hb h
  | agg l =>
    intro c hc
    obtain ⟨c', h1, rfl⟩ := List.mem_map.1 hc
    exact Cell.ok_swap ha hb (h c' h1)
  | tup vs =>
    intro p hp c hc
    obtain ⟨q, h1, rfl⟩ := List.mem_map.1 hp
    obtain ⟨c', h2, rfl⟩ := List.mem_map.1 hc
    exact Cell.ok_swap ha hb (h q h1 c' h2)
  | any => trivial
theorem Sat.swap {S : St} {a b : Nat} {act : Act} (h : Sat X d S act w) (ha : a < S.heap.length) (hb : b < S.heap.length) (ha0 : 0 < a) (hb0 : 0 < b) : Sat X (d.swap a b) (S.swap a b) act w where
  df := h.df
  tm := ⟨by simp only [St.swap, List.length_map]; exact h.tm.len, fun t => by
    simp only [St.swap]
    rw [getT_map _ rfl]
    exact SV.is_swap (h.tm.is t), fun t => by
    simp only [St.swap]
    rw [getT_map _ rfl]
    exact SV.ok_swap ha hb (h.tm.ok t)⟩
  hp := ⟨h.hp.bl, fun id r hr => by
      simp only [St.swap] at hr
      rw [getH_swapH ha hb, Option.map_eq_some_iff] at hr
      obtain ⟨q, hq, rfl⟩ := hr
      have hreg := h.hp.reg _ _ hq
      unfold RegIs at hreg ⊢
      simp only [Reg.swap]
      cases htl : q.tl with
      | none =>
        rw [htl] at hreg
        simp only at hreg ⊢
        unfold RegIs0 at hreg ⊢
        simp only
        split
        · rename_i ho
          rw [if_pos ho] at hreg
          refine ⟨hreg.1, hreg.2.1, ?_⟩
          rw [List.map_map, show (Cell.den (d.swap a b) ∘ Cell.swap a b) = Cell.den d from funext fun c => Cell.den_swap a b c]
          exact hreg.2.2
        · rename_i ho
          rw [if_neg ho] at hreg
          refine ⟨hreg.1, fun i c hc => ?_⟩
          rw [List.getElem?_map, Option.map_eq_some_iff] at hc
          obtain ⟨c', h1, rfl⟩ := hc
          rw [Cell.den_swap]
          exact hreg.2 i c' h1
      | some p =>
        rw [htl] at hreg
        simp only at hreg ⊢
        exact ⟨by rw [hreg.1]; rfl, hreg.2⟩, fun i j ri rj hi hj oi oj hij => by
      simp only [St.swap] at hi hj
      rw [getH_swapH ha hb, Option.map_eq_some_iff] at hi hj
      obtain ⟨qi, h1, rfl⟩ := hi
      obtain ⟨qj, h2, rfl⟩ := hj
      exact h.hp.sep _ _ qi qj h1 h2 oi oj fun e => hij (by rw [← swapId_swap a b i, e, swapId_swap]), fun id r hr c hc => by
      simp only [St.swap] at hr
      rw [getH_swapH ha hb, Option.map_eq_some_iff] at hr
      obtain ⟨q, hq, rfl⟩ := hr
      simp only [Reg.swap] at hc
      obtain ⟨c', h1, rfl⟩ := List.mem_map.1 hc
      exact Cell.ok_swap ha hb (h.hp.ids _ _ hq c' h1), fun p hp1 => by
      obtain ⟨h1, h2, h3⟩ := h.hp.pin p hp1
      have e0 : swapId a b 0 = 0 := by
        unfold swapId
        have n1 : Nat.beq 0 a = false := by
          cases h : Nat.beq 0 a
          · rfl
          · exact absurd (Nat.eq_of_beq_eq_true h) (by omega)
        have n2 : Nat.beq 0 b = false := by
          cases h : Nat.beq 0 b
          · rfl
          · exact absurd (Nat.eq_of_beq_eq_true h) (by omega)
        simp only [n1, n2, cond_false]
      refine ⟨?_, ?_, ?_⟩
      · simp only [St.swap]
        rw [getH_swapH ha hb, e0, Option.isSome_map]; exact h1
      · simp only [Dn.swap, e0]; exact h2
      · simp only [Dn.swap, e0]; exact h3⟩
theorem rehome_sat {S1 : St} {act : Act} : ∀ (ids : List Nat) (S : St) (d : Dn), Sat X d S act w → ∃ d' : Dn, d'.Φ = d.Φ ∧ d'.ρ = d.ρ ∧ Sat X d' (rehome ids S1 S) act w
  | [], S, d, h => ⟨d, rfl, rfl, h⟩
  | id :: r, S, d, h => by
    unfold rehome
    split
    · rename_i b _
      cases c : ((Nat.blt id S.heap.length && Nat.blt b S.heap.length) && (Nat.blt 0 id && Nat.blt 0 b)) <;> simp only [cond_false, cond_true]
      · exact rehome_sat r S d h
      · simp only [Bool.and_eq_true, Nat.blt_eq] at c
        obtain ⟨d', e1, e2, e3⟩ := rehome_sat (S1 := S1) r _ _ (h.swap c.1.1 c.1.2 c.2.1 c.2.2)
        exact ⟨d', e1, e2, e3⟩
    · exact rehome_sat r S d h

/-! ### A round -/
/-- What a piece of code proves of its tree. -/
def Proves (X : Ctx) (Φ : Fns) (Pr : Pres) (P : Program) (c : Code) (body : Bds → St → T) : Prop :=
  ∀ (K : Ex → Bds → St → Env → Prop) (Q : Exit → Act → World → Prop), Fin X Φ K Q →
    ∀ (R : Bds) (S : St) (d : Dn) (a : Act) (w : World), d.Φ = Φ → RV d.Φ R d.ρ → Sat X d S a w → (body R S).holds Φ Pr d.ρ K → c.wp P Q a w

/-- At the head, n rounds at most ahead. -/
def Turn (X : Ctx) (Φ : Fns) (Pr : Pres) (A : Ann) (body : Bds → St → T) (ag : Ex → Bool) (K : Ex → Bds → St → Env → Prop) (n : Nat) (a : Act) (w : World) : Prop :=
  ∃ (R : Bds) (d : Dn) (S1 : St) (kss : List (List EK)) (ys : List Int) (zs : List (List Int)), d.Φ = Φ ∧ RV d.Φ R d.ρ ∧ (R.p.all fun q => q.1.sc R.i.length R.l.length) = true ∧ allHas A.rs ys ∧ allL (lrsOf kss) zs ∧
    Pr.inv A.k d.ρ ⟨ys, zs⟩ ∧ n = Pr.mu A.k d.ρ ⟨ys, zs⟩ ∧ Sat X (d.push2 ys zs) S1 a w ∧
    (∀ ys zs, StOk (d.push2 ys zs) S1) ∧ (∀ p, X.pin = some p → (getH S1.heap 0).isSome = true) ∧
    ∀ ys zs, allHas A.rs ys → allL (lrsOf kss) zs → Pr.inv A.k d.ρ ⟨ys, zs⟩ → ((body (R.push2 A.rs (lrsOf kss)) S1).seq (againT A R.i.length R.l.length kss S1 ag)).holds Φ Pr (d.ρ.push2 ys zs) K

theorem turn_enter {A : Ann} {R : Bds} {S : St} {body : Bds → St → T} {ag : Ex → Bool} {K : Ex → Bds → St → Env → Prop} (hd : d.Φ = Φ) (hR : RV d.Φ R d.ρ) (h : Sat X d S a w)
    (ht : (loopT A R S body ag).holds Φ Pr d.ρ K) : ∃ n, Turn X Φ Pr A body ag K n a w := by
  subst hd
  unfold loopT at ht
  split at ht
  · rename_i es les S1 hc
    cases c1 : scAll R S <;> simp only [c1, cond_false, cond_true] at ht
    · exact ht.elim
    · simp only [scAll, Bool.and_eq_true] at c1
      obtain ⟨c1, c2⟩ := c1
      obtain ⟨hos, ht⟩ := need_holds ht
      have c3 : ∀ p ∈ les, ((p.1.den d.Φ d.ρ).length : Int) ≤ maxLen := fun p hp => by
        have ho : OsHold d.Φ Pr d.ρ (lenOs R p.1) := fun o ho => hos o (List.mem_flatMap.2 ⟨p, hp, ho⟩)
        unfold lenOs at ho
        cases hk : lenOk R p.1
        · rw [hk] at ho
          have := must_hold ho
          rw [mkLe_den hR] at this
          exact of_decide_eq_true this
        · exact lenOk_len hR hk
      obtain ⟨_, _, _, _, hcut⟩ := cutS_split hc
      have hl := cutHs_lists h hR _ _ _ _ _ _ _ hcut (fun i r hr => ⟨i, hr⟩) c3
      exact ⟨_, R, d, S1, les.map (·.2), es.map (E.den d.Φ d.ρ), (les.map (·.1)).map (L.den d.Φ d.ρ), rfl, hR, c2, ht.1, hl, ht.2.1, rfl, cutS_enter hc hR.li hR.ll c1 h,
        fun ys zs => cutS_ok hc (Nat.le_of_eq hR.li.symm) (Nat.le_of_eq hR.ll.symm) c1 h ys zs, fun p hp1 => cutS_has hc c1 0 (h.hp.pin p hp1).1, ht.2.2⟩
  · exact ht.elim

theorem turn_round {P : Program} {c : Code} {A : Ann} {body : Bds → St → T} {ag : Ex → Bool} {K : Ex → Bds → St → Env → Prop} {Q Q' : Exit → Act → World → Prop} (hb : Proves X Φ Pr P c body) (hF : Fin X Φ K Q)
    {n : Nat} (hag : ∀ t e, ag (.pan t e) = false) (hQ : ∀ (x : Ex) (d : Dn) a w, ((ag x = true ∧ ∃ n', n' < n ∧ Turn X Φ Pr A body ag K n' a w) ∨ (ag x = false ∧ Q (x.out d) a w)) → Q' (x.out d) a w) (ht : Turn X Φ Pr A body ag K n a w) : c.wp P Q' a w := by
  obtain ⟨R, d, S1, kss, ys, zs, hd, hR, hp, h1, h1l, h2, hn, hS, ho, hpn, hB⟩ := ht
  subst hd
  have hR' : RV d.Φ (R.push2 A.rs (lrsOf kss)) (d.ρ.push2 ys zs) := hR.push2 h1 h1l hp
  refine hb _ Q' ?_ (R.push2 A.rs (lrsOf kss)) S1 (d.push2 ys zs) a w rfl hR' hS (holds_ext _ _ (seq_holds _ _ (hB ys zs h1 h1l h2)))
  intro x R' S' d' a' w' hd' hR'' hS' hk
  obtain ⟨hk, y2, z2, hz⟩ := hk
  refine hQ x d' a' w' ?_
  simp only [againT] at hk
  cases hx : ag x <;> simp only [hx, cond_false, cond_true] at hk
  · exact .inr ⟨rfl, hF x R' S' d' a' w' hd' hR'' hS' hk⟩
  · refine .inl ⟨rfl, ?_⟩
    have hS' : Sat X d' S' a' w' := by
      cases x with
      | pan t e => rw [hag] at hx; cases hx
      | normal => exact hS'
      | ret => exact hS'
      | exit _ => exact hS'
      | goto _ => exact hS'
    obtain ⟨d0, g1, g2, hS0⟩ := rehome_sat (S1 := S1) A.gs S' d' hS'
    split at hk
    · rename_i es les S2 hc
      cases c1 : ((leTs S2.tmps S1.tmps && leHs S2.heap S1.heap) && decide (les.map (·.2) = kss)) <;> simp only [c1, cond_false, cond_true] at hk
      · exact hk.elim
      · simp only [Bool.and_eq_true, decide_eq_true_eq] at c1
        obtain ⟨⟨c1, c2⟩, c3⟩ := c1
        rw [← hd'] at hk
        obtain ⟨hos, hk⟩ := need_holds hk
        have c4 : ∀ p ∈ les, ((p.1.den d'.Φ d'.ρ).length : Int) ≤ maxLen := fun p hp => by
          have ho : OsHold d'.Φ Pr d'.ρ (lenOs R' p.1) := fun o ho => hos o (List.mem_flatMap.2 ⟨p, hp, ho⟩)
          unfold lenOs at ho
          cases hk : lenOk R' p.1
          · rw [hk] at ho
            have := must_hold ho
            rw [mkLe_den hR''] at this
            exact of_decide_eq_true this
          · exact lenOk_len hR'' hk
        rw [hd'] at hk
        obtain ⟨k1, k2, k3⟩ := hk
        have e1 : d'.ρ.i = d.ρ.i ++ (ys ++ y2) := by rw [hz]; simp [Env.push2, Dn.push2]
        have e2 : d'.ρ.l = d.ρ.l ++ (zs ++ z2) := by rw [hz]; simp [Env.push2, Dn.push2]
        have e3 : d'.ρ.i.take R.i.length = d.ρ.i := by rw [e1, List.take_append_of_le_length (by rw [hR.li]; exact Nat.le_refl _), ← hR.li, List.take_length]
        have e5 : d'.ρ.l.take R.l.length = d.ρ.l := by rw [e2, List.take_append_of_le_length (by rw [hR.ll]; exact Nat.le_refl _), ← hR.ll, List.take_length]
        have e4 : (d'.ρ.i.drop R.i.length).take A.rs.length = ys := by
          have hl := allHas_length h1
          rw [e1, ← hR.li, List.drop_left, List.take_append_of_le_length (by omega), hl, List.take_length]
        have hlz : les.length = zs.length := by
          have := allL_length h1l
          rw [← this]
          simp only [lrsOf, List.length_map]
          rw [← c3, List.length_map]
        have e6 : (d'.ρ.l.drop R.l.length).take (les.map (·.1)).length = zs := by
          rw [List.length_map, hlz, e2, ← hR.ll, List.drop_left, List.take_append_of_le_length (Nat.le_refl _), List.take_length]
        rw [e3, e5] at k2 k3
        rw [e4, e6] at k3
        have hS2 := cutS_again (d := d0) hc c1 c2 hR.li hR.ll (g1.trans hd') (by rw [g2]; exact e1) (by rw [g2]; exact e2) hS0 ho hpn
        obtain ⟨_, _, _, _, hcut⟩ := cutS_split hc
        have hl := cutHs_lists (R := R') hS0 (by rw [g1, g2]; exact hR'') _ _ _ _ _ _ _ hcut (fun i r hr => ⟨i, getH_take _ _ _ _ hr⟩) (by rw [g1, g2]; exact c4)
        rw [c3] at hl
        rw [g1, g2] at hS2 hl
        rw [hd'] at hS2 hl
        subst hn
        refine ⟨_, k3, R, ⟨d.Φ, d.ρ, d0.α, d0.κ⟩, S1, kss, es.map (E.den d.Φ d'.ρ), (les.map (fun p : L × List EK => p.1)).map (L.den d.Φ d'.ρ), rfl, hR, hp, k1, hl, k2, rfl, hS2, fun ys zs => ?_, hpn, hB⟩
        have := ho ys zs
        exact ⟨fun t => SV.ok_α (this.1 t), fun i r hr c hc => Cell.ok_α (this.2 i r hr c hc)⟩
    · exact hk.elim

theorem exec_sound {F : Fn} (hm : F.C.P.follows .mixedOrders = true) (hC : CTs F.C Φ Pr)
    (hΦ : ∀ g s, sigOf F.C.sigs g = some s → ∀ xs ls, allHas ((resKds s).map Kd.iv) (norm (resKds s).length (Φ g xs ls).1)) :
    ∀ (f : Nat) (c : Code) (K : Ex → Bds → St → Env → Prop) (Q : Exit → Act → World → Prop), Fin X Φ K Q →
      ∀ (R : Bds) (S : St) (d : Dn) (a : Act) (w : World), d.Φ = Φ → RV d.Φ R d.ρ → Sat X d S a w → (exec F f c R S).holds d.Φ Pr d.ρ K → Goal F.C.P c Q a w := by
  intro f
  induction f with
  | zero => intro c K Q hF R S d a w hd hR h ht; exact ht.elim
  | succ f ih =>
    intro c K Q hF R S d a w hd hR h ht
    cases c with
    | skip => exact wp_skip (hF .normal R S d a w hd hR h ht)
    | label l => exact wp_label (hF .normal R S d a w hd hR h ht)
    | region id ops draw => exact regionT_sound (fin := .leaf .normal) (K := K) hm hC hΦ (fun R S d a w hd hR h (ht : K .normal R S d.ρ) => hF .normal R S d a w hd hR h ht) (fun t e R S d a w hd hR h1 h2 ht => hF (.pan t e) R S d a w hd hR ⟨h1, h2⟩ ht) hd hR h ht
    | seq x y =>
      subst hd
      refine wp_seq (ih x _ _ ?_ R S d a w rfl hR h (seq_holds _ _ ht)).wp
      intro e R' S' d' a' w' hd' hR' h' ht'
      cases e with
      | normal => exact (ih y K Q hF R' S' d' a' w' hd' hR' h' (by rw [hd']; exact ht')).wp
      | exit id => exact hF (.exit id) R' S' d' a' w' hd' hR' h' ht'
      | goto l => exact hF (.goto l) R' S' d' a' w' hd' hR' h' ht'
      | ret => exact hF .ret R' S' d' a' w' hd' hR' h' ht'
      | pan t e => exact hF (.pan t e) R' S' d' a' w' hd' hR' h' ht'
    | cond c x y =>
      simp only [exec] at ht
      split at ht
      · rename_i t hc
        have hv : a.eval c = .bool (t.den d.Φ d.ρ) := h.tm.reads.is c _ hc
        split at ht
        · rename_i hk
          rw [known_ok hR t true hk] at hv
          exact wp_cond_true hv (ih x K Q hF R S d a w hd hR h ht).wp
        · rename_i hk
          rw [known_ok hR t false hk] at hv
          exact wp_cond_false hv (ih y K Q hF R S d a w hd hR h ht).wp
        · refine wp_cond_split hv (fun hb => ?_) (fun hb => ?_)
          · have hR' := hR.assume t true hb
            unfold mergeL at ht
            split at ht
            · rename_i R1 S1 R2 S2 e1 e2
              split at ht
              · rename_i M hM
                refine (ih x (fun x' _ S' ρ' => x' = .normal ∧ S' = S1 ∧ ρ' = d.ρ) Q ?_ _ S d a w hd hR' h (by rw [e1]; exact ⟨rfl, rfl, rfl⟩)).wp
                rintro x' R' S' d' a' w' hd' hR'' h' ⟨rfl, rfl, hρ⟩
                have hM' := mergeS_sound (side := true) (by rw [hd', hρ, ← hd]; exact hb) hM h'
                have hΦ' : d'.Φ = d.Φ := hd'.trans hd.symm
                obtain ⟨R3, S3, d3, k1, k2, k3, _, k4⟩ := bindT_sound (Pr := Pr) (K := K) 200 R _ M d' (by rw [hΦ', hρ]; exact hR) hM' (by rw [hΦ', hρ]; exact ht)
                exact hF .normal R3 S3 d3 a' w' (k1.trans hd') k2 k3 k4
              · exact (ih x K Q hF _ S d a w hd hR' h (ht.1 hb)).wp
            · exact (ih x K Q hF _ S d a w hd hR' h (ht.1 hb)).wp
          · have hR' := hR.assume t false hb
            unfold mergeL at ht
            split at ht
            · rename_i R1 S1 R2 S2 e1 e2
              split at ht
              · rename_i M hM
                refine (ih y (fun x' _ S' ρ' => x' = .normal ∧ S' = S2 ∧ ρ' = d.ρ) Q ?_ _ S d a w hd hR' h (by rw [e2]; exact ⟨rfl, rfl, rfl⟩)).wp
                rintro x' R' S' d' a' w' hd' hR'' h' ⟨rfl, rfl, hρ⟩
                have hM' := mergeS_sound (side := false) (by rw [hd', hρ, ← hd]; exact hb) hM h'
                have hΦ' : d'.Φ = d.Φ := hd'.trans hd.symm
                obtain ⟨R3, S3, d3, k1, k2, k3, _, k4⟩ := bindT_sound (Pr := Pr) (K := K) 200 R _ M d' (by rw [hΦ', hρ]; exact hR) hM' (by rw [hΦ', hρ]; exact ht)
                exact hF .normal R3 S3 d3 a' w' (k1.trans hd') k2 k3 k4
              · exact (ih y K Q hF _ S d a w hd hR' h (ht.2 hb)).wp
            · exact (ih y K Q hF _ S d a w hd hR' h (ht.2 hb)).wp
      · exact ht.elim
    | block id x =>
      subst hd
      refine wp_block (ih x _ _ ?_ R S d a w rfl hR h (seq_holds _ _ ht)).wp
      intro e R' S' d' a' w' hd' hR' h' ht'
      cases e with
      | normal => exact hF .normal R' S' d' a' w' hd' hR' h' ht'
      | exit j =>
        simp only at ht'
        show Exit.inBlock id Q (.exit j) a' w'
        unfold Exit.inBlock
        simp only
        cases hj : Nat.beq j id <;> simp only [hj, cond_false, cond_true] at ht'
        · rw [if_neg (by intro e; subst e; simp at hj)]
          exact hF (.exit j) R' S' d' a' w' hd' hR' h' ht'
        · rw [if_pos (by simpa using hj)]
          exact hF .normal R' S' d' a' w' hd' hR' h' ht'
      | goto l => exact hF (.goto l) R' S' d' a' w' hd' hR' h' ht'
      | ret => exact hF .ret R' S' d' a' w' hd' hR' h' ht'
      | pan t e => exact hF (.pan t e) R' S' d' a' w' hd' hR' h' ht'
    | loop x =>
      subst hd
      show LoopWp _ _ _ _ _
      simp only [exec] at ht
      split at ht
      · rename_i A hA
        obtain ⟨n, hn⟩ := turn_enter rfl hR h ht
        refine LoopWp.ghost (Turn X d.Φ Pr A (exec F f x) Ex.isNormal K) (fun n a w hT => turn_round (Q := Q) (fun K' Q'' hF' R S d' a w hd' hR' h' ht' => (ih x K' Q'' hF' R S d' a w hd' hR' h' (by rw [hd']; exact ht')).wp) hF (fun _ _ => rfl) ?_ hT) n a w hn
        rintro x' d' a' w' (⟨h1, h2⟩ | ⟨h1, h2⟩)
        · cases x' <;> simp only [Ex.isNormal, Bool.false_eq_true] at h1
          exact h2
        · cases x' <;> simp only [Ex.isNormal, Bool.true_eq_false] at h1 <;> exact h2
      · refine LoopWp.round (ih x _ (Exit.then (LoopWp F.C.P x Q) Q) ?_ R S d a w rfl hR h (seq_holds _ _ ht)).wp
        intro e R' S' d' a' w' hd' hR' h' ht'
        cases e with
        | normal => exact ih (.loop x) K Q hF R' S' d' a' w' hd' hR' h' (by rw [hd']; exact ht')
        | exit id => exact hF (.exit id) R' S' d' a' w' hd' hR' h' ht'
        | goto l => exact hF (.goto l) R' S' d' a' w' hd' hR' h' ht'
        | ret => exact hF .ret R' S' d' a' w' hd' hR' h' ht'
        | pan t e => exact hF (.pan t e) R' S' d' a' w' hd' hR' h' ht'
    | scope x =>
      subst hd
      show Code.wp _ _ _ _ _
      simp only [exec] at ht
      have ht := seq_holds _ _ ht
      by_cases hl : ∃ l rest A, labelOf x = some l ∧ findLabel x l = some rest ∧ annOf F.anns (1000000 + l) = some A
      · obtain ⟨l, rest, A, h1, h2, h3⟩ := hl
        let K' : Ex → Bds → St → Env → Prop := fun x R S ρ => (noGotoT x R S).holds d.Φ Pr ρ K
        let J : Nat → Act → World → Prop := Turn X d.Φ Pr A (exec F f rest) (Ex.isGoto l) K'
        have hF' : Fin X d.Φ K' (Exit.noGoto Q) := fun x R S d' a w hd hR h ht => by
          cases x with
          | goto j => exact ht.elim
          | normal => exact hF .normal R S d' a w hd hR h ht
          | exit id => exact hF (.exit id) R S d' a w hd hR h ht
          | ret => exact hF .ret R S d' a w hd hR h ht
          | pan t e => exact hF (.pan t e) R S d' a w hd hR h ht
        refine wp_scope_jumps (P := F.C.P) (Q := Q) l (fun a w => ∃ n, J n a w) (fun a w => leastOf fun n => J n a w) h2 ?_ fun a w hJ => ?_
        · refine (ih x _ (Exit.jump l (fun a w => ∃ n, J n a w) Q) ?_ R S d a w rfl hR h ht).wp
          intro x' R' S' d' a' w' hd' hR' h' ht'
          cases x' with
          | goto j =>
            simp only [h1] at ht'
            cases hj : decide (some l = some j) <;> simp only [hj, cond_false, cond_true] at ht'
            · exact ht'.elim
            · have hj := of_decide_eq_true hj
              cases hj
              rw [h2, h3] at ht'
              have ht' := seq_holds _ _ ht'
              refine ⟨rfl, turn_enter hd' hR' h' ?_⟩
              exact ht'
          | normal => exact hF .normal R' S' d' a' w' hd' hR' h' ht'
          | exit id => exact hF (.exit id) R' S' d' a' w' hd' hR' h' ht'
          | ret => exact hF .ret R' S' d' a' w' hd' hR' h' ht'
          | pan t e => exact hF (.pan t e) R' S' d' a' w' hd' hR' h' ht'
        · refine turn_round (n := leastOf fun n => J n a w) (fun K' Q'' hF' R S d' a w hd' hR' h' ht' => (ih rest K' Q'' hF' R S d' a w hd' hR' h' (by rw [hd']; exact ht')).wp) hF' (fun _ _ => rfl) ?_ (leastOf_spec hJ).1
          rintro x' d' a' w' (⟨k1, n', k2, k3⟩ | ⟨k1, k2⟩)
          · cases x' <;> simp only [Ex.isGoto, Bool.false_eq_true, Nat.beq_eq] at k1
            exact ⟨k1, ⟨n', k3⟩, Nat.lt_of_le_of_lt ((leastOf_spec ⟨n', k3⟩).2 n' k3) k2⟩
          · cases x' <;> first | exact k2 | exact k2.elim
      · refine wp_scope_straight (ih x _ (Exit.noGoto Q) ?_ R S d a w rfl hR h ht).wp
        intro x' R' S' d' a' w' hd' hR' h' ht'
        cases x' with
        | goto j =>
          simp only at ht'
          cases hj : decide (labelOf x = some j) <;> simp only [hj, cond_false, cond_true] at ht'
          · exact ht'.elim
          · have hj := of_decide_eq_true hj
            split at ht'
            · rename_i rest A e1 e2
              exact (hl ⟨j, rest, A, hj, e1, e2⟩).elim
            · exact ht'.elim
        | normal => exact hF .normal R' S' d' a' w' hd' hR' h' ht'
        | exit id => exact hF (.exit id) R' S' d' a' w' hd' hR' h' ht'
        | ret => exact hF .ret R' S' d' a' w' hd' hR' h' ht'
        | pan t e => exact hF (.pan t e) R' S' d' a' w' hd' hR' h' ht'
    | exit id => exact wp_exit (hF (.exit id) R S d a w hd hR h ht)
    | goto l => exact wp_goto (hF (.goto l) R S d a w hd hR h ht)
    | ret => exact wp_ret (hF .ret R S d a w hd hR h ht)
    | _ => exact ht.elim

end
end Go.Proofs.YtelfpnkhdaaeoaaDoor.Sx
