/-
  The symbolic executor: what a tree asks; binding; a region in the text's order.
-/
import Derived.Test.YtelfpnkhdaaeoaaDoorSxJ
import Derived.Tactics
namespace Go.Proofs.YtelfpnkhdaaeoaaDoor.Sx
open Go Go.RowKit

/-- What a tree asks in an environment, of what is asked at its leaves. -/
def T.holds (Φ : Fns) (Pr : Pres) : T → Env → (Ex → Bds → St → Env → Prop) → Prop
  | .fail _, _, _ => False
  | .leaf x R S, ρ, K => K x R S ρ
  | .ite b t e, ρ, K => (b.den Φ ρ = true → t.holds Φ Pr ρ K) ∧ (b.den Φ ρ = false → e.holds Φ Pr ρ K)
  | .need os t, ρ, K => OsHold Φ Pr ρ os ∧ t.holds Φ Pr ρ K
  | .bind e t, ρ, K => t.holds Φ Pr (ρ.pushI [e.den Φ ρ]) K
  | .call g as n t, ρ, K => t.holds Φ Pr (ρ.pushI (norm n (Φ g (as.denE Φ ρ) (as.denL Φ ρ)).1)) K
  | .calll g as rs lrs t, ρ, K => ∀ ys zs, allHas rs ys → allL lrs zs → (ys, zs) = Φ g (as.denE Φ ρ) (as.denL Φ ρ) → t.holds Φ Pr (ρ.push2 ys zs) K
  | .again k n0 m0 rs es les, ρ, _ => allHas rs (es.map (E.den Φ ρ)) ∧ Pr.inv k ⟨ρ.i.take n0, ρ.l.take m0⟩ ⟨es.map (E.den Φ ρ), les.map (L.den Φ ρ)⟩ ∧
      Pr.mu k ⟨ρ.i.take n0, ρ.l.take m0⟩ ⟨es.map (E.den Φ ρ), les.map (L.den Φ ρ)⟩ < Pr.mu k ⟨ρ.i.take n0, ρ.l.take m0⟩ ⟨(ρ.i.drop n0).take rs.length, (ρ.l.drop m0).take les.length⟩
  | .loop k es les rs lrs t, ρ, K => allHas rs (es.map (E.den Φ ρ)) ∧ Pr.inv k ρ ⟨es.map (E.den Φ ρ), les.map (L.den Φ ρ)⟩ ∧
      ∀ ys zs, allHas rs ys → allL lrs zs → Pr.inv k ρ ⟨ys, zs⟩ → t.holds Φ Pr (ρ.push2 ys zs) K

section
variable {C : Cfg} {R : Bds} {X : Ctx} {d : Dn} {w : World} {S : St} {a : Act} {Pr : Pres} {new : Nat} {r : Res} {o : Oper}
  {Q : Exit → Act → World → Prop} {K : Ex → Bds → St → Env → Prop}

/-- d after more numbers. -/
def Dn.push (d : Dn) (ys : List Int) : Dn := ⟨d.Φ, d.ρ.pushI ys, d.α, d.κ⟩

theorem need_holds {os : List O} {t : T} {ρ : Env} (h : (needT os t).holds d.Φ Pr ρ K) : OsHold d.Φ Pr ρ os ∧ t.holds d.Φ Pr ρ K := by
  cases os with
  | nil => exact ⟨(fun _ hm => by cases hm), h⟩
  | cons x r =>
    unfold needT at h
    cases hc : (x :: r).any O.isFalse <;> simp only [hc, cond_false, cond_true] at h
    · exact h
    · exact h.elim

theorem askT_holds (hR : RV d.Φ R d.ρ) {b : B} {yes no : Bds → T} (h : (askT R b yes no).holds d.Φ Pr d.ρ K) :
    (b.den d.Φ d.ρ = true ∧ ∃ R', RV d.Φ R' d.ρ ∧ R'.i.length = R.i.length ∧ (yes R').holds d.Φ Pr d.ρ K) ∨
    (b.den d.Φ d.ρ = false ∧ ∃ R', RV d.Φ R' d.ρ ∧ R'.i.length = R.i.length ∧ (no R').holds d.Φ Pr d.ρ K) := by
  have al : ∀ v, (R.assume b v).i.length = R.i.length := fun v => refine_length _ _ _
  unfold askT at h
  split at h
  · rename_i hk
    exact .inl ⟨known_ok hR b _ hk, R, hR, rfl, h⟩
  · rename_i hk
    exact .inr ⟨known_ok hR b _ hk, R, hR, rfl, h⟩
  · cases hb : b.den d.Φ d.ρ
    · exact .inr ⟨rfl, _, hR.assume b false hb, al _, h.2 hb⟩
    · exact .inl ⟨rfl, _, hR.assume b true hb, al _, h.1 hb⟩

/-! ### More numbers -/
theorem Cell.den_pushD {n m : Nat} {ys : List Int} (hn : n ≤ d.ρ.i.length) {c : Cell} (h : c.sc n m = true) : c.den (d.push ys) = c.den d := by
  cases c <;> simp only [Cell.sc] at h <;> simp only [Cell.den, Dn.push]
  · rw [E.den_push hn _ h]
  · rw [B.den_push hn _ h]
  · rw [E.den_push hn _ h]
  · rw [L.den_push hn _ h]
  · simp only [Bool.and_eq_true] at h
    rw [E.den_push hn _ h.1, E.den_push hn _ h.2]
  · rw [E.den_push hn _ h]
  · rw [E.den_push hn _ h]
theorem Cell.ok_pushD {n m : Nat} {ys : List Int} {hp : List (Option Reg)} (hn : n ≤ d.ρ.i.length) {c : Cell} (h : c.sc n m = true) (hc : c.ok d hp) : c.ok (d.push ys) hp := by
  cases c <;> simp only [Cell.sc] at h <;> first | exact hc | skip
  · simp only [Cell.ok, Dn.push, E.den_push hn _ h]
    exact hc
  · simp only [Bool.and_eq_true] at h
    simp only [Cell.ok, Dn.push, E.den_push hn _ h.1, E.den_push hn _ h.2]
    exact hc
  · simp only [Cell.ok, Dn.push, E.den_push hn _ h]
    exact hc
theorem cells_pushD {n m : Nat} {ys : List Int} (hn : n ≤ d.ρ.i.length) {cs : List Cell} (h : cs.all (·.sc n m) = true) : cs.map (Cell.den (d.push ys)) = cs.map (Cell.den d) :=
  List.map_congr_left fun c hm => Cell.den_pushD hn (List.all_eq_true.1 h c hm)
theorem SV.is_pushD {n m : Nat} {ys : List Int} (hn : n ≤ d.ρ.i.length) {v : SV} (h : v.sc n m = true) {x : Value} (hx : v.is d x) : v.is (d.push ys) x := by
  cases v with
  | one c => simp only [SV.is] at *; rw [hx, Cell.den_pushD hn h]
  | agg cs => simp only [SV.is] at *; rw [hx, cells_pushD hn h]
  | tup vs =>
    simp only [SV.is] at *
    rw [hx]
    congr 2
    refine List.map_congr_left fun p hm => ?_
    have hp := List.all_eq_true.1 h p hm
    rw [compV_compVal, compV_compVal, cells_pushD hn hp]
  | any => trivial
theorem SV.ok_pushD {n m : Nat} {ys : List Int} {hp : List (Option Reg)} (hn : n ≤ d.ρ.i.length) {v : SV} (h : v.sc n m = true) (hv : v.ok d hp) : v.ok (d.push ys) hp := by
  cases v with
  | one c => exact Cell.ok_pushD hn h hv
  | agg cs => exact fun c hm => Cell.ok_pushD hn (List.all_eq_true.1 h c hm) (hv c hm)
  | tup vs => exact fun p hm c hc => Cell.ok_pushD hn (List.all_eq_true.1 (List.all_eq_true.1 h p hm) c hc) (hv p hm c hc)
  | any => trivial

theorem getT_mem : ∀ (l : List SV) (t : Nat), getT l t ∈ l ∨ getT l t = .undef
  | [], t => .inr (getT_nil t)
  | _ :: _, 0 => .inl List.mem_cons_self
  | _ :: r, t + 1 => (getT_mem r t).imp (List.mem_cons_of_mem _) id
theorem getH_mem : ∀ (l : List (Option Reg)) (t : Nat) (g : Reg), getH l t = some g → some g ∈ l
  | [], t, g, h => by rw [getH_nil] at h; cases h
  | _ :: _, 0, g, h => by simp only [getH] at h; subst h; exact List.mem_cons_self
  | _ :: r, t + 1, g, h => List.mem_cons_of_mem _ (getH_mem r t g h)

theorem Sat.push {n m : Nat} (h : Sat X d S a w) (hn : n ≤ d.ρ.i.length) (hs : S.sc n m = true) (ys : List Int) : Sat X (d.push ys) S a w := by
  simp only [St.sc, Bool.and_eq_true, List.all_eq_true] at hs
  have ht : ∀ t, (getT S.tmps t).sc n m = true := fun t => by
    rcases getT_mem S.tmps t with h' | h'
    · exact hs.1 _ h'
    · rw [h']; rfl
  have hh0 : ∀ id g, getH S.heap id = some g → regSc n m (some g) = true := fun id g hg => hs.2 _ (getH_mem _ _ _ hg)
  have hh : ∀ id g, getH S.heap id = some g → g.cs.all (·.sc n m) = true := fun id g hg => by
    have := hh0 id g hg
    simp only [regSc, Bool.and_eq_true] at this
    exact this.1
  refine ⟨h.df, ⟨h.tm.len, fun t => SV.is_pushD hn (ht t) (h.tm.is t), fun t => SV.ok_pushD hn (ht t) (h.tm.ok t)⟩, ⟨h.hp.bl, fun id g hg => ?_, h.hp.sep, fun id g hg c hc => ?_, h.hp.pin⟩⟩
  · have hc := hh0 id g hg
    simp only [regSc, Bool.and_eq_true] at hc
    refine (h.hp.reg id g hg).move rfl rfl rfl rfl (cells_pushD hn hc.1) ?_ fun _ => rfl
    cases htl : g.tl with
    | none => trivial
    | some p =>
      have hq := hc.2
      rw [htl] at hq
      exact ⟨rfl, L.den_push hn _ hq⟩
  · exact Cell.ok_pushD hn (List.all_eq_true.1 (hh id g hg) c hc) (h.hp.ids id g hg c hc)

/-! ### Other cells for the same values -/
/-- Two cells that stand for the same, and are both sound. -/
def SameC (d : Dn) (c c' : Cell) : Prop := c'.den d = c.den d ∧ ∀ hp, c.ok d hp → c'.ok d hp
def SameCs (d : Dn) : List Cell → List Cell → Prop
  | [], [] => True
  | c :: r, c' :: r' => SameC d c c' ∧ SameCs d r r'
  | _, _ => False

theorem SameC.refl (d : Dn) (c : Cell) : SameC d c c := ⟨rfl, fun _ h => h⟩
theorem SameCs.refl (d : Dn) : ∀ cs, SameCs d cs cs
  | [] => trivial
  | c :: r => ⟨SameC.refl d c, SameCs.refl d r⟩
theorem SameCs.map : ∀ {cs cs' : List Cell}, SameCs d cs cs' → cs'.map (Cell.den d) = cs.map (Cell.den d)
  | [], [], _ => rfl
  | c :: r, c' :: r', h => by simp [h.1.1, SameCs.map h.2]
  | [], _ :: _, h => h.elim
  | _ :: _, [], h => h.elim
theorem SameCs.ok {hp : List (Option Reg)} : ∀ {cs cs' : List Cell}, SameCs d cs cs' → (∀ c ∈ cs, c.ok d hp) → ∀ c ∈ cs', c.ok d hp
  | [], [], _, _, _, hm => by cases hm
  | c :: r, c' :: r', h, hc, x, hm => by
    cases hm with
    | head => exact h.1.2 hp (hc c List.mem_cons_self)
    | tail _ hm => exact SameCs.ok h.2 (fun c hc' => hc c (List.mem_cons_of_mem _ hc')) x hm
  | [], _ :: _, h, _, _, _ => h.elim
  | _ :: _, [], h, _, _, _ => h.elim

theorem Sat.setT' (h : Sat X d S a w) {t : Nat} {v : SV} (hi : ∀ x, (getT S.tmps t).is d x → v.is d x) (ho : (getT S.tmps t).ok d S.heap → v.ok d S.heap) :
    Sat X d { S with tmps := setT S.tmps t v } a w := by
  refine ⟨h.df, ⟨by rw [setT_length]; exact h.tm.len, fun k => ?_, fun k => ?_⟩, h.hp⟩
  · by_cases hk : t = k
    · subst hk
      rcases Nat.lt_or_ge t S.tmps.length with hl | hl
      · rw [getT_setT_same _ _ _ hl]; exact hi _ (h.tm.is t)
      · rw [getT_ge _ _ (by rw [setT_length]; exact hl)]
        have := h.tm.is t
        rw [getT_ge _ _ hl] at this; exact this
    · rw [getT_setT_ne _ _ _ _ hk]; exact h.tm.is k
  · by_cases hk : t = k
    · subst hk
      rcases Nat.lt_or_ge t S.tmps.length with hl | hl
      · rw [getT_setT_same _ _ _ hl]; exact ho (h.tm.ok t)
      · rw [getT_ge _ _ (by rw [setT_length]; exact hl)]; exact undef_ok d _
    · rw [getT_setT_ne _ _ _ _ hk]; exact h.tm.ok k

/-- The same blocks are there. -/
def SameH (hp hp' : List (Option Reg)) : Prop := hp'.length = hp.length ∧ ∀ k, (getH hp' k).isSome = (getH hp k).isSome
theorem SameH.refl (hp : List (Option Reg)) : SameH hp hp := ⟨rfl, fun _ => rfl⟩
theorem SameH.trans {x y z : List (Option Reg)} (h : SameH x y) (k : SameH y z) : SameH x z := ⟨k.1.trans h.1, fun i => (k.2 i).trans (h.2 i)⟩
theorem SameH.has {x y : List (Option Reg)} (h : SameH x y) : Has x y := fun k hk => by rw [h.2 k]; exact hk

theorem Sat.setH' (h : Sat X d S a w) {id : Nat} {g : Reg} (hg : getH S.heap id = some g) {cs : List Cell} (hs : SameCs d g.cs cs) :
    Sat X d { S with heap := setH S.heap id (some { g with cs := cs }) } a w ∧ SameH S.heap (setH S.heap id (some { g with cs := cs })) := by
  have hsame : SameH S.heap (setH S.heap id (some { g with cs := cs })) := ⟨setH_length _ _ _, fun k => by
    by_cases hk : id = k
    · subst hk; rw [getH_setH_same _ _ _ (getH_lt hg), hg]; rfl
    · rw [getH_setH_ne _ _ _ _ hk]⟩
  have get : ∀ k q, getH (setH S.heap id (some { g with cs := cs })) k = some q → ∃ q', getH S.heap k = some q' ∧ q'.own = q.own ∧ (q'.ty = q.ty ∧ q'.tl = q.tl) ∧ SameCs d q'.cs q.cs := fun k q hq => by
    by_cases hk : id = k
    · subst hk
      rw [getH_setH_same _ _ _ (getH_lt hg)] at hq
      cases hq
      exact ⟨g, hg, rfl, ⟨rfl, rfl⟩, hs⟩
    · rw [getH_setH_ne _ _ _ _ hk] at hq
      exact ⟨q, hq, rfl, ⟨rfl, rfl⟩, SameCs.refl d _⟩
  refine ⟨⟨h.df, ⟨h.tm.len, h.tm.is, fun t => SV.ok_mono hsame.has (h.tm.ok t)⟩, ⟨h.hp.bl, fun k q hq => ?_, fun i j ri rj hi hj oi oj hij => ?_, fun k q hq c hc => ?_, h.hp.pin.agree (Agree.refl _ _) hsame.has⟩⟩, hsame⟩
  · obtain ⟨q', h1, h2, h3, h4⟩ := get k q hq
    exact (h.hp.reg k q' h1).move h2.symm h3.1.symm rfl rfl h4.map (by rw [h3.2]; exact SameTl.refl _ _) fun _ => rfl
  · obtain ⟨qi, h1, h2, _, _⟩ := get i ri hi
    obtain ⟨qj, h3, h4, _, _⟩ := get j rj hj
    exact h.hp.sep i j qi qj h1 h3 (h2.trans oi) (h4.trans oj) hij
  · obtain ⟨q', h1, _, _, h4⟩ := get k q hq
    exact Cell.ok_mono hsame.has (h4.ok (h.hp.ids k q' h1) c hc)

/-! ### Binding -/
theorem cut_spec (hR : RV d.Φ R d.ρ) {c c' : Cell} {e : E} {iv : Iv} (h : c.cut R R.i.length = some (e, iv, c')) (hs : c.sc R.i.length R.l.length = true) :
    iv.has (e.den d.Φ d.ρ) ∧ SameC (d.push [e.den d.Φ d.ρ]) c c' := by
  have hn : R.i.length ≤ d.ρ.i.length := by rw [hR.li]; exact Nat.le_refl _
  have hvar : ∀ x : Int, (d.ρ.pushI [x]).i.getD R.i.length 0 = x := fun x => by
    have := getD_append_right (xs := d.ρ.i) (ys := [x]) (n := 0)
    rw [Nat.add_zero, hR.li] at this
    exact this
  unfold Cell.cut at h
  split at h
  · rename_i k x
    cases c1 : x.small <;> simp only [c1, cond_false, cond_true] at h
    · simp only [Option.map_eq_some_iff, Prod.mk.injEq] at h
      obtain ⟨iv', h1, rfl, rfl, rfl⟩ := h
      refine ⟨E.iv_ok hR _ h1, ?_, fun _ _ => trivial⟩
      rw [Cell.den_pushD hn hs]
      simp only [Cell.den, Dn.push, E.den, hvar]
    · cases h
  · rename_i b
    cases c1 : b.small <;> simp only [c1, cond_false, cond_true] at h
    · split at h
      · rename_i iv' h1
        cases c2 : (ile 0 iv'.lo && ile iv'.hi 1) <;> simp only [c2, cond_false, cond_true] at h
        · cases h
        · cases h
          refine ⟨E.iv_ok hR _ h1, ?_, fun _ _ => trivial⟩
          rw [Cell.den_pushD hn hs]
          simp only [Cell.den, Dn.push, B.den, ofB_den hR]
          congr 1
          have : ∀ x : Int, decide (E.den d.Φ (d.ρ.pushI [x]) (E.var R.i.length) = E.den d.Φ (d.ρ.pushI [x]) (E.lit 1)) = decide (x = 1) := fun x => by
            simp only [E.den, hvar]
          rw [this]
          cases b.den d.Φ d.ρ <;> rfl
      · cases h
    · cases h
  · cases h

theorem cutCells_spec (hR : RV d.Φ R d.ρ) : ∀ {cs cs' : List Cell} {e : E} {iv : Iv}, cutCells R R.i.length cs = some (e, iv, cs') → cs.all (·.sc R.i.length R.l.length) = true →
    iv.has (e.den d.Φ d.ρ) ∧ SameCs (d.push [e.den d.Φ d.ρ]) cs cs'
  | [], _, _, _, h, _ => by cases h
  | c :: cs, cs', e, iv, h, hs => by
    simp only [List.all_cons, Bool.and_eq_true] at hs
    simp only [cutCells] at h
    split at h
    · rename_i e' iv' c' hc
      cases h
      have := cut_spec hR hc hs.1
      exact ⟨this.1, this.2, SameCs.refl _ _⟩
    · simp only [Option.map_eq_some_iff, Prod.mk.injEq] at h
      obtain ⟨⟨e', iv', cs''⟩, h1, rfl, rfl, rfl⟩ := h
      have := cutCells_spec hR h1 hs.2
      exact ⟨this.1, SameC.refl _ _, this.2⟩

theorem cutPl_spec (hR : RV d.Φ R d.ρ) (h : Sat X d S a w) {p : Pl} {e : E} {iv : Iv} {S' : St} (hc : cutPl R R.i.length S p = some (e, iv, S')) (hs : S.sc R.i.length R.l.length = true) :
    iv.has (e.den d.Φ d.ρ) ∧ Sat X (d.push [e.den d.Φ d.ρ]) S' a w ∧ SameH S.heap S'.heap := by
  have hn : R.i.length ≤ d.ρ.i.length := by rw [hR.li]; exact Nat.le_refl _
  have hP := h.push hn hs [e.den d.Φ d.ρ]
  have hs' := hs
  simp only [St.sc, Bool.and_eq_true, List.all_eq_true] at hs'
  unfold cutPl at hc
  split at hc
  · rename_i t
    have hst : (getT S.tmps t).sc R.i.length R.l.length = true := by
      rcases getT_mem S.tmps t with h' | h'
      · exact hs'.1 _ h'
      · rw [h']; rfl
    split at hc
    · rename_i c ht
      rw [ht] at hst
      simp only [Option.map_eq_some_iff, Prod.mk.injEq] at hc
      obtain ⟨⟨e', iv', c'⟩, h1, rfl, rfl, rfl⟩ := hc
      obtain ⟨k1, k2⟩ := cut_spec hR h1 hst
      refine ⟨k1, hP.setT' (fun x hx => ?_) (fun ho => ?_), SameH.refl _⟩
      · rw [ht] at hx; simp only [SV.is] at hx ⊢; rw [hx, k2.1]
      · rw [ht] at ho; exact k2.2 _ ho
    · rename_i cs ht
      rw [ht] at hst
      simp only [Option.map_eq_some_iff, Prod.mk.injEq] at hc
      obtain ⟨⟨e', iv', cs'⟩, h1, rfl, rfl, rfl⟩ := hc
      obtain ⟨k1, k2⟩ := cutCells_spec hR h1 hst
      refine ⟨k1, hP.setT' (fun x hx => ?_) (fun ho => ?_), SameH.refl _⟩
      · rw [ht] at hx; simp only [SV.is] at hx ⊢; rw [hx, k2.map]
      · rw [ht] at ho; exact k2.ok ho
    · cases hc
  · rename_i id
    split at hc
    · rename_i g hg
      simp only [Option.map_eq_some_iff, Prod.mk.injEq] at hc
      obtain ⟨⟨e', iv', cs'⟩, h1, rfl, rfl, rfl⟩ := hc
      obtain ⟨k1, k2⟩ := cutCells_spec hR h1 (by
        have := hs'.2 _ (getH_mem _ _ _ hg)
        simp only [regSc, Bool.and_eq_true] at this
        exact this.1)
      exact ⟨k1, hP.setH' hg k2⟩
    · cases hc

/-- A step of the tree that has come to 'fin'. -/
def Comes' (X : Ctx) (Pr : Pres) (d : Dn) (S : St) (a : Act) (w : World) (fin : Bds → St → T) (K : Ex → Bds → St → Env → Prop) : Prop :=
  ∃ R' S' d', d'.Φ = d.Φ ∧ RV d'.Φ R' d'.ρ ∧ Sat X d' S' a w ∧ SameH S.heap S'.heap ∧ (fin R' S').holds d'.Φ Pr d'.ρ K

theorem bindT_sound {fin : Bds → St → T} : ∀ (f : Nat) (R : Bds) (ps : List Pl) (S : St) (d : Dn), RV d.Φ R d.ρ → Sat X d S a w → (bindT fin f R ps S).holds d.Φ Pr d.ρ K →
    Comes' X Pr d S a w fin K
  | 0, R, _, S, d, hR, h, ht => ⟨R, S, d, rfl, hR, h, SameH.refl _, ht⟩
  | f + 1, R, [], S, d, hR, h, ht => ⟨R, S, d, rfl, hR, h, SameH.refl _, ht⟩
  | f + 1, R, p :: ps, S, d, hR, h, ht => by
    simp only [bindT] at ht
    split at ht
    · rename_i e iv S' hc
      cases c1 : (e.sc R.i.length R.l.length && scAll R S) <;> simp only [c1, cond_false, cond_true] at ht
      · exact ⟨R, S, d, rfl, hR, h, SameH.refl _, ht⟩
      · simp only [Bool.and_eq_true, scAll] at c1
        obtain ⟨k1, k2, k3⟩ := cutPl_spec hR h hc c1.2.1
        have hR' : RV d.Φ (R.push [iv]) (d.ρ.pushI [e.den d.Φ d.ρ]) := hR.push ⟨k1, trivial⟩ c1.2.2
        obtain ⟨R', S'', d', e1, e2, e3, e4, e5⟩ := bindT_sound f (R.push [iv]) (p :: ps) S' (d.push [e.den d.Φ d.ρ]) hR' k2 ht
        exact ⟨R', S'', d', e1, e2, e3, k3.trans e4, e5⟩
    · exact bindT_sound f R ps S d hR h ht

/-! ### More numbers and lists -/
/-- d after more numbers and lists. -/
def Dn.push2 (d : Dn) (ys : List Int) (zs : List (List Int)) : Dn := ⟨d.Φ, d.ρ.push2 ys zs, d.α, d.κ⟩

theorem Cell.den_push2 {n m : Nat} {ys : List Int} {zs : List (List Int)} (hn : n ≤ d.ρ.i.length) (hm : m ≤ d.ρ.l.length) {c : Cell} (h : c.sc n m = true) : c.den (d.push2 ys zs) = c.den d := by
  have e := fun (x : E) hx => E.den_ext (Φ := d.Φ) (push2_i (ys := ys) (zs := zs) hn) (push2_l hm) x hx
  have b := fun (x : B) hx => B.den_ext (Φ := d.Φ) (push2_i (ys := ys) (zs := zs) hn) (push2_l hm) x hx
  have l := fun (x : L) hx => L.den_ext (Φ := d.Φ) (push2_i (ys := ys) (zs := zs) hn) (push2_l hm) x hx
  cases c <;> simp only [Cell.sc] at h <;> simp only [Cell.den, Dn.push2]
  · rw [e _ h]
  · rw [b _ h]
  · rw [e _ h]
  · rw [l _ h]
  · simp only [Bool.and_eq_true] at h
    rw [e _ h.1, e _ h.2]
  · rw [e _ h]
  · rw [e _ h]
theorem Cell.ok_push2 {n m : Nat} {ys : List Int} {zs : List (List Int)} {hp : List (Option Reg)} (hn : n ≤ d.ρ.i.length) (hm : m ≤ d.ρ.l.length) {c : Cell} (h : c.sc n m = true) : c.ok (d.push2 ys zs) hp ↔ c.ok d hp := by
  have e := fun (x : E) hx => E.den_ext (Φ := d.Φ) (push2_i (ys := ys) (zs := zs) hn) (push2_l hm) x hx
  cases c <;> simp only [Cell.sc] at h <;> first | exact Iff.rfl | skip
  · simp only [Cell.ok, Dn.push2, e _ h]
  · simp only [Bool.and_eq_true] at h
    simp only [Cell.ok, Dn.push2, e _ h.1, e _ h.2]
  · simp only [Cell.ok, Dn.push2, e _ h]
theorem cells_push2 {n m : Nat} {ys : List Int} {zs : List (List Int)} (hn : n ≤ d.ρ.i.length) (hm : m ≤ d.ρ.l.length) {cs : List Cell} (h : cs.all (·.sc n m) = true) : cs.map (Cell.den (d.push2 ys zs)) = cs.map (Cell.den d) :=
  List.map_congr_left fun c hm' => Cell.den_push2 hn hm (List.all_eq_true.1 h c hm')
theorem SV.is_push2 {n m : Nat} {ys : List Int} {zs : List (List Int)} (hn : n ≤ d.ρ.i.length) (hm : m ≤ d.ρ.l.length) {v : SV} (h : v.sc n m = true) {x : Value} : v.is (d.push2 ys zs) x ↔ v.is d x := by
  cases v with
  | one c => simp only [SV.is]; rw [Cell.den_push2 hn hm h]
  | agg cs => simp only [SV.is]; rw [cells_push2 hn hm h]
  | tup vs =>
    simp only [SV.is]
    have : vs.map (compV (d.push2 ys zs)) = vs.map (compV d) := List.map_congr_left fun p hp => by
      rw [compV_compVal, compV_compVal, cells_push2 hn hm (List.all_eq_true.1 h p hp)]
    rw [this]
  | any => exact Iff.rfl
theorem SV.ok_push2 {n m : Nat} {ys : List Int} {zs : List (List Int)} {hp : List (Option Reg)} (hn : n ≤ d.ρ.i.length) (hm : m ≤ d.ρ.l.length) {v : SV} (h : v.sc n m = true) (hv : v.ok d hp) : v.ok (d.push2 ys zs) hp := by
  cases v with
  | one c => exact (Cell.ok_push2 hn hm h).2 hv
  | agg cs => exact fun c hc => (Cell.ok_push2 hn hm (List.all_eq_true.1 h c hc)).2 (hv c hc)
  | tup vs => exact fun p hp' c hc => (Cell.ok_push2 hn hm (List.all_eq_true.1 (List.all_eq_true.1 h p hp') c hc)).2 (hv p hp' c hc)
  | any => trivial

theorem Sat.push2 {n m : Nat} (h : Sat X d S a w) (hn : n ≤ d.ρ.i.length) (hm : m ≤ d.ρ.l.length) (hs : S.sc n m = true) (ys : List Int) (zs : List (List Int)) : Sat X (d.push2 ys zs) S a w := by
  simp only [St.sc, Bool.and_eq_true, List.all_eq_true] at hs
  have ht : ∀ t, (getT S.tmps t).sc n m = true := fun t => by
    rcases getT_mem S.tmps t with h' | h'
    · exact hs.1 _ h'
    · rw [h']; rfl
  have hh0 : ∀ id g, getH S.heap id = some g → regSc n m (some g) = true := fun id g hg => hs.2 _ (getH_mem _ _ _ hg)
  have hh : ∀ id g, getH S.heap id = some g → g.cs.all (·.sc n m) = true := fun id g hg => by
    have := hh0 id g hg
    simp only [regSc, Bool.and_eq_true] at this
    exact this.1
  refine ⟨h.df, ⟨h.tm.len, fun t => (SV.is_push2 hn hm (ht t)).2 (h.tm.is t), fun t => SV.ok_push2 hn hm (ht t) (h.tm.ok t)⟩, ⟨h.hp.bl, fun id g hg => ?_, h.hp.sep, fun id g hg c hc => ?_, h.hp.pin⟩⟩
  · have hc := hh0 id g hg
    simp only [regSc, Bool.and_eq_true] at hc
    refine (h.hp.reg id g hg).move rfl rfl rfl rfl (cells_push2 hn hm hc.1) ?_ fun _ => rfl
    cases htl : g.tl with
    | none => trivial
    | some p =>
      have hq := hc.2
      rw [htl] at hq
      exact ⟨rfl, L.den_ext (Φ := d.Φ) (push2_i (ys := ys) (zs := zs) hn) (push2_l hm) _ hq⟩
  · exact (Cell.ok_push2 hn hm (List.all_eq_true.1 (hh id g hg) c hc)).2 (h.hp.ids id g hg c hc)

end
end Go.Proofs.YtelfpnkhdaaeoaaDoor.Sx
