/-
  The symbolic executor: contracts of functions by functions on lists of numbers.
-/
import Derived.Test.YtaknnjlkpepgaaaSxQ
namespace Go.Proofs.Ytaknnjlkpepgaaa.Sx
open Go Go.RowKit

/-- A number within its bounds. -/
def clamp1 (iv : Iv) (x : Int) : Int := if iv.lo ≤ x ∧ x ≤ iv.hi then x else 0
def clamp (ivs : List Iv) (xs : List Int) : List Int := match ivs with
  | [] => []
  | iv :: r => clamp1 iv (xs.headD 0) :: clamp r xs.tail

theorem kd_zero (k : Kd) : k.iv.lo ≤ 0 ∧ 0 ≤ k.iv.hi := by
  cases k with
  | b => exact ⟨by decide, by decide⟩
  | i k => cases k <;> exact ⟨by decide, by decide⟩
  | n k lo hi => exact ⟨(imin_le lo 0).2, (le_imax hi 0).2⟩

theorem clamp_has : ∀ (ks : List Kd) (xs : List Int), allHas (ks.map Kd.iv) (clamp (ks.map Kd.iv) xs)
  | [], _ => trivial
  | k :: ks, xs => by
    refine ⟨?_, clamp_has ks _⟩
    unfold clamp1
    split
    · assumption
    · exact kd_zero k

theorem clamp_id : ∀ {ivs : List Iv} {xs : List Int}, allHas ivs xs → clamp ivs xs = xs
  | [], [], _ => rfl
  | iv :: r, x :: xs, h => by
    have h1 : iv.lo ≤ x ∧ x ≤ iv.hi := h.1
    simp [clamp, clamp1, h1, clamp_id h.2]
  | [], _ :: _, h => h.elim
  | _ :: _, [], h => h.elim

theorem norm_id : ∀ {n : Nat} {xs : List Int}, xs.length = n → norm n xs = xs
  | 0, [], _ => rfl
  | n + 1, x :: xs, h => by simp [norm, norm_id (n := n) (xs := xs) (by simpa using h)]
  | 0, _ :: _, h => by cases h
  | _ + 1, [], h => by cases h

theorem norm_clamp (ks : List Kd) (xs : List Int) : norm ks.length (clamp (ks.map Kd.iv) xs) = clamp (ks.map Kd.iv) xs :=
  norm_id (by have := allHas_length (clamp_has ks xs); simpa using this.symm)

/-- A table of functions on numbers: what each function that is called returns, within its results' kinds. -/
structure Tab where
  sig : Nat → Option Sig
  fn : Nat → List Int → List Int

def Tab.fns (T : Tab) : Fns := fun g xs _ => (match T.sig g with
  | some s => clamp ((resKds s).map Kd.iv) (T.fn g xs)
  | none => [], [])

theorem Tab.fns_of {T : Tab} {g : Nat} {s : Sig} (h : T.sig g = some s) (xs : List Int) (ls : List (List Int)) : (T.fns g xs ls).1 = clamp ((resKds s).map Kd.iv) (T.fn g xs) := by
  simp only [Tab.fns, h]

theorem Tab.bounded {T : Tab} {sigs : List (Nat × Sig)} (hs : ∀ g s, sigOf sigs g = some s → T.sig g = some s) : ∀ g s, sigOf sigs g = some s → ∀ xs ls, allHas ((resKds s).map Kd.iv) (norm (resKds s).length (T.fns g xs ls).1) := fun g s h xs ls => by
  rw [T.fns_of (hs g s h), norm_clamp]
  exact clamp_has _ _

/-- A function does what the table says. -/
theorem Tab.ct {T : Tab} {F : Fn} {fuel g : Nat} {fn : Func} {s : Sig} {Pr : Pres} {v : VC} (hm : F.C.P.follows .mixedOrders = true)
    (hs : ∀ g s, sigOf F.C.sigs g = some s → T.sig g = some s) (hg : T.sig g = some s) (hC : CTs F.C T.fns Pr) (hf : F.C.P.funcs[g]? = some fn)
    (hv : vcOf F fuel fn s = v) (h : ∀ xs, allHas (parIvs s.params) xs → Pr g xs [] → v.holds T.fns Pr (fun ys => ys = T.fn g xs) ⟨xs, []⟩) : CT F.C.P T.fns Pr g s := by
  intro w xs args hx ha hp
  subst hv
  refine (vc_sound hm hC (T.bounded hs) hf hx ha (h xs hx hp)).mono fun e w' ⟨ys, h1, h2, h3, h4⟩ => ⟨?_, h4⟩
  rw [T.fns_of hg, h3]
  subst h1
  rw [clamp_id h2]

/-! ### What is asked, with a name for each number on the way -/
def VC.asks (Φ : Fns) (Pr : Pres) (post : List Int → Prop) : VC → Env → Prop
  | .fail _, _ => False
  | .fin as, ρ => post (as.denE Φ ρ)
  | .ite b t e, ρ => (b.den Φ ρ = true → t.asks Φ Pr post ρ) ∧ (b.den Φ ρ = false → e.asks Φ Pr post ρ)
  | .need os t, ρ => OsHold Φ Pr ρ os ∧ (OsHold Φ Pr ρ os → t.asks Φ Pr post ρ)
  | .bind e t, ρ => ∀ y, y = e.den Φ ρ → t.asks Φ Pr post (ρ.pushI [y])
  | .call g as n t, ρ => ∀ ys, ys = norm n (Φ g (as.denE Φ ρ) (as.denL Φ ρ)).1 → t.asks Φ Pr post (ρ.pushI ys)
  | .again k n0 rs es, ρ => ∀ ys, ys = es.map (E.den Φ ρ) → allHas rs ys ∧ Pr.inv k (ρ.i.take n0) ys ∧ Pr.mu k (ρ.i.take n0) ys < Pr.mu k (ρ.i.take n0) ((ρ.i.drop n0).take rs.length)
  | .loop k es rs t, ρ => (∀ ys, ys = es.map (E.den Φ ρ) → allHas rs ys ∧ Pr.inv k ρ.i ys) ∧ ∀ ys, allHas rs ys → Pr.inv k ρ.i ys → t.asks Φ Pr post (ρ.pushI ys)

theorem asks_holds {Φ : Fns} {Pr : Pres} {post : List Int → Prop} : ∀ (t : VC) (ρ : Env), t.asks Φ Pr post ρ → t.holds Φ Pr post ρ
  | .fail _, _, h => h
  | .fin _, _, h => h
  | .ite _ t e, ρ, h => ⟨fun hb => asks_holds t ρ (h.1 hb), fun hb => asks_holds e ρ (h.2 hb)⟩
  | .need _ t, ρ, h => ⟨h.1, asks_holds t ρ (h.2 h.1)⟩
  | .bind _ t, _, h => asks_holds t _ (h _ rfl)
  | .call _ _ _ t, _, h => asks_holds t _ (h _ rfl)
  | .again _ _ _ _, _, h => h _ rfl
  | .loop _ _ _ t, _, h => ⟨(h.1 _ rfl).1, (h.1 _ rfl).2, fun ys h1 h2 => asks_holds t _ (h.2 ys h1 h2)⟩

def SubSig (T : Tab) : List (Nat × Sig) → Prop
  | [] => True
  | p :: r => T.sig p.1 = some p.2 ∧ SubSig T r
theorem SubSig.of {T : Tab} : ∀ {l : List (Nat × Sig)}, SubSig T l → ∀ g s, sigOf l g = some s → T.sig g = some s
  | [], _, g, s, h => by cases h
  | p :: r, hl, g, s, h => by
    simp only [sigOf] at h
    cases hg : Nat.beq p.1 g <;> simp only [hg, cond_false, cond_true] at h
    · exact SubSig.of hl.2 g s h
    · cases h
      rw [← Nat.eq_of_beq_eq_true hg]
      exact hl.1

def CtAll (P : Program) (Φ : Fns) (Pr : Pres) : List (Nat × Sig) → Prop
  | [] => True
  | p :: r => CT P Φ Pr p.1 p.2 ∧ CtAll P Φ Pr r
theorem CtAll.of {P : Program} {Φ : Fns} {Pr : Pres} : ∀ {l : List (Nat × Sig)}, CtAll P Φ Pr l → ∀ g s, sigOf l g = some s → CT P Φ Pr g s
  | [], _, g, s, h => by cases h
  | p :: r, hl, g, s, h => by
    simp only [sigOf] at h
    cases hg : Nat.beq p.1 g <;> simp only [hg, cond_false, cond_true] at h
    · exact CtAll.of hl.2 g s h
    · cases h
      rw [← Nat.eq_of_beq_eq_true hg]
      exact hl.1

/-- No function asks anything of its numbers. -/
def free : Pres := ⟨fun _ _ _ => True, fun _ _ _ => False, fun _ _ _ => 0⟩
/-- The same, with what holds in loops. -/
def loops (inv : Nat → List Int → List Int → Prop) (mu : Nat → List Int → List Int → Nat) : Pres := ⟨fun _ _ _ => True, inv, mu⟩

theorem ctsFree {C : Cfg} {Φ : Fns} (h : CtAll C.P Φ free C.sigs) : CTs C Φ free := ⟨h.of, fun _ _ _ _ _ _ => trivial⟩

theorem CtAll.loops {P : Program} {Φ : Fns} {inv : Nat → List Int → List Int → Prop} {mu : Nat → List Int → List Int → Nat} : ∀ {l : List (Nat × Sig)}, CtAll P Φ free l → CtAll P Φ (loops inv mu) l
  | [], _ => trivial
  | _ :: _, h => ⟨h.1, CtAll.loops h.2⟩

theorem ctsLoops {C : Cfg} {Φ : Fns} {inv : Nat → List Int → List Int → Prop} {mu : Nat → List Int → List Int → Nat} (h : CtAll C.P Φ free C.sigs) : CTs C Φ (loops inv mu) :=
  ⟨h.loops.of, fun _ _ _ _ _ _ => trivial⟩

theorem Tab.call {T : Tab} {g : Nat} {s : Sig} (h : T.sig g = some s) {n : Nat} (hn : (resKds s).length = n) {xs : List Int} {ls : List (List Int)} {ys : List Int} (hy : ys = norm n (T.fns g xs ls).1) :
    ys = clamp ((resKds s).map Kd.iv) (T.fn g xs) := by
  subst hn
  rw [hy, T.fns_of h, norm_clamp]

theorem Tab.call_id {T : Tab} {g : Nat} {s : Sig} (h : T.sig g = some s) {n : Nat} (hn : (resKds s).length = n) {xs : List Int} {ls : List (List Int)} {ys : List Int} (hy : ys = norm n (T.fns g xs ls).1)
    (hr : allHas ((resKds s).map Kd.iv) (T.fn g xs)) : ys = T.fn g xs := by
  rw [T.call h hn hy, clamp_id hr]

/-- A function does what the table says. -/
theorem Tab.cta {T : Tab} {F : Fn} {fuel g : Nat} {fn : Func} {s : Sig} {v : VC} (hv : vcOf F fuel fn s = v) (hm : F.C.P.follows .mixedOrders = true)
    (hs : SubSig T F.C.sigs) (hg : T.sig g = some s) (hC : CtAll F.C.P T.fns free F.C.sigs) (hf : F.C.P.funcs[g]? = some fn)
    (h : ∀ xs, allHas (parIvs s.params) xs → v.asks T.fns free (fun ys => ys = T.fn g xs) ⟨xs, []⟩) : CT F.C.P T.fns free g s :=
  T.ct hm hs.of hg (ctsFree hC) hf hv fun xs hx _ => asks_holds _ _ (h xs hx)

/-- The same of a function with loops, by what holds in them. -/
theorem Tab.ctl {T : Tab} {F : Fn} {fuel g : Nat} {fn : Func} {s : Sig} {v : VC} (hv : vcOf F fuel fn s = v) (hm : F.C.P.follows .mixedOrders = true)
    (hs : SubSig T F.C.sigs) (hg : T.sig g = some s) (hC : CtAll F.C.P T.fns free F.C.sigs) (hf : F.C.P.funcs[g]? = some fn)
    (inv : Nat → List Int → List Int → Prop) (mu : Nat → List Int → List Int → Nat)
    (h : ∀ xs, allHas (parIvs s.params) xs → v.asks T.fns (loops inv mu) (fun ys => ys = T.fn g xs) ⟨xs, []⟩) : CT F.C.P T.fns free g s :=
  show CT F.C.P T.fns (loops inv mu) g s from T.ct hm hs.of hg (ctsLoops hC) hf hv fun xs hx _ => asks_holds _ _ (h xs hx)

/-! ### Functions that ask something of their numbers -/
theorem CT.w {P : Program} {Φ : Fns} {Pr : Pres} {g : Nat} {s : Sig} (h : CT P Φ free g s) : CT P Φ Pr g s := fun w xs args hx ha _ => h w xs args hx ha trivial

def lookPre : List (Nat × (List Int → Prop)) → Nat → List Int → Prop
  | [], _ => fun _ => True
  | (h, f) :: r, g => bif Nat.beq h g then f else lookPre r g

def presL (pre : Nat → List Int → Prop) (inv : Nat → List Int → List Int → Prop) (mu : Nat → List Int → List Int → Nat) : Pres := ⟨fun g xs _ => pre g xs, inv, mu⟩
def pres (pre : Nat → List Int → Prop) : Pres := presL pre (fun _ _ _ => False) (fun _ _ _ => 0)

def Tot (pre : Nat → List Int → Prop) : List (Nat × Sig) → Prop
  | [] => True
  | p :: r => (p.2.total = true → ∀ xs, pre p.1 xs) ∧ Tot pre r
theorem Tot.of {pre : Nat → List Int → Prop} : ∀ {l : List (Nat × Sig)}, Tot pre l → ∀ g s, sigOf l g = some s → s.total = true → ∀ xs, pre g xs
  | [], _, g, s, h => by cases h
  | p :: r, hl, g, s, h => by
    simp only [sigOf] at h
    cases hg : Nat.beq p.1 g <;> simp only [hg, cond_false, cond_true] at h
    · exact Tot.of hl.2 g s h
    · cases h
      rw [← Nat.eq_of_beq_eq_true hg]
      exact hl.1

theorem CtAll.presL {P : Program} {Φ : Fns} {pre : Nat → List Int → Prop} {inv : Nat → List Int → List Int → Prop} {mu : Nat → List Int → List Int → Nat} : ∀ {l : List (Nat × Sig)}, CtAll P Φ (pres pre) l → CtAll P Φ (presL pre inv mu) l
  | [], _ => trivial
  | _ :: _, h => ⟨h.1, CtAll.presL h.2⟩

/-- A function with loops, that asks something of its numbers, as may those that it calls. -/
theorem Tab.ctp {T : Tab} {F : Fn} {fuel g : Nat} {fn : Func} {s : Sig} {v : VC} {pre : Nat → List Int → Prop} (hv : vcOf F fuel fn s = v) (hm : F.C.P.follows .mixedOrders = true)
    (hs : SubSig T F.C.sigs) (ht : Tot pre F.C.sigs) (hg : T.sig g = some s) (hC : CtAll F.C.P T.fns (pres pre) F.C.sigs) (hf : F.C.P.funcs[g]? = some fn)
    (inv : Nat → List Int → List Int → Prop) (mu : Nat → List Int → List Int → Nat)
    (h : ∀ xs, allHas (parIvs s.params) xs → pre g xs → v.asks T.fns (presL pre inv mu) (fun ys => ys = T.fn g xs) ⟨xs, []⟩) : CT F.C.P T.fns (pres pre) g s :=
  show CT F.C.P T.fns (presL pre inv mu) g s from T.ct hm hs.of hg ⟨hC.presL.of, fun g s h1 h2 xs _ => ht.of g s h1 h2 xs⟩ hf hv fun xs hx hp => asks_holds _ _ (h xs hx hp)

/-! ### What is asked, as a plain sentence on numbers -/
def Curry : Nat → (List Int → Prop) → Prop
  | 0, p => p []
  | n + 1, p => ∀ y, Curry n fun ys => p (y :: ys)
theorem Curry.at : ∀ {n : Nat} {p : List Int → Prop}, Curry n p → ∀ ys : List Int, ys.length = n → p ys
  | 0, _, h, [], _ => h
  | n + 1, p, h, y :: ys, hl => Curry.at (p := fun ys => p (y :: ys)) (h y) ys (by simpa using hl)
  | 0, _, _, _ :: _, hl => by cases hl
  | _ + 1, _, _, [], hl => by cases hl

def OAll (Φ : Fns) (Pr : Pres) (ρ : Env) : List O → Prop
  | [] => True
  | [o] => o.holds Φ Pr ρ
  | o :: r => o.holds Φ Pr ρ ∧ OAll Φ Pr ρ r
theorem OAll.all {Φ : Fns} {Pr : Pres} {ρ : Env} : ∀ {os : List O}, OAll Φ Pr ρ os → OsHold Φ Pr ρ os
  | [], _, _, h => by cases h
  | [o], h, x, hx => by
    simp only [List.mem_singleton] at hx
    subst hx; exact h
  | o :: q :: r, h, x, hx => by
    cases hx with
    | head => exact h.1
    | tail _ hx => exact OAll.all h.2 x hx

/-- What a called function returns. -/
def Tab.out (T : Tab) (g n : Nat) (xs : List Int) : List Int := norm n (T.fns g xs []).1

def VC.plain (T : Tab) (Pr : Pres) (post : List Int → Prop) : VC → Env → Prop
  | .fail _, _ => False
  | .fin as, ρ => post (as.denE T.fns ρ)
  | .ite b t e, ρ => (b.den T.fns ρ = true → t.plain T Pr post ρ) ∧ (b.den T.fns ρ = false → e.plain T Pr post ρ)
  | .need os t, ρ => OAll T.fns Pr ρ os ∧ (OAll T.fns Pr ρ os → t.plain T Pr post ρ)
  | .bind e t, ρ => ∀ y, y = e.den T.fns ρ → t.plain T Pr post (ρ.pushI [y])
  | .call g as n t, ρ => Curry n fun ys => ys = T.out g n (as.denE T.fns ρ) → t.plain T Pr post (ρ.pushI ys)
  | .again k n0 rs es, ρ => allHas rs (es.map (E.den T.fns ρ)) ∧ Pr.inv k (ρ.i.take n0) (es.map (E.den T.fns ρ)) ∧ Pr.mu k (ρ.i.take n0) (es.map (E.den T.fns ρ)) < Pr.mu k (ρ.i.take n0) ((ρ.i.drop n0).take rs.length)
  | .loop k es rs t, ρ => (allHas rs (es.map (E.den T.fns ρ)) ∧ Pr.inv k ρ.i (es.map (E.den T.fns ρ))) ∧ Curry rs.length fun ys => allHas rs ys → Pr.inv k ρ.i ys → t.plain T Pr post (ρ.pushI ys)

theorem plain_holds {T : Tab} {Pr : Pres} {post : List Int → Prop} : ∀ (t : VC) (ρ : Env), t.plain T Pr post ρ → t.holds T.fns Pr post ρ
  | .fail _, _, h => h
  | .fin _, _, h => h
  | .ite _ t e, ρ, h => ⟨fun hb => plain_holds t ρ (h.1 hb), fun hb => plain_holds e ρ (h.2 hb)⟩
  | .need _ t, ρ, h => ⟨h.1.all, plain_holds t ρ (h.2 h.1)⟩
  | .bind _ t, _, h => plain_holds t _ (h _ rfl)
  | .call _ _ n t, _, h => plain_holds t _ (h.at _ (norm_length n _) rfl)
  | .again _ _ _ _, _, h => h
  | .loop _ _ _ t, _, h => ⟨h.1.1, h.1.2, fun ys h1 h2 => plain_holds t _ (h.2.at ys (allHas_length h1).symm h1 h2)⟩

theorem Tab.out_eq {T : Tab} {g : Nat} {s : Sig} (h : T.sig g = some s) {n : Nat} (hn : (resKds s).length = n) {xs : List Int} (hr : allHas ((resKds s).map Kd.iv) (T.fn g xs)) : T.out g n xs = T.fn g xs := by
  subst hn
  unfold Tab.out
  rw [T.fns_of h, norm_clamp, clamp_id hr]

/-- A FUNCTION DOES WHAT THE TABLE SAYS, from a plain sentence. -/
theorem Tab.ctq {T : Tab} {F : Fn} {ivs : List Iv} {fuel g : Nat} {fn : Func} {s : Sig} {v : VC} {pre : Nat → List Int → Prop} (hv : vcOfI F ivs fuel fn s = v) (hm : F.C.P.follows .mixedOrders = true)
    (hs : SubSig T F.C.sigs) (ht : Tot pre F.C.sigs) (hg : T.sig g = some s) (hC : CtAll F.C.P T.fns (pres pre) F.C.sigs) (hf : F.C.P.funcs[g]? = some fn)
    (inv : Nat → List Int → List Int → Prop) (mu : Nat → List Int → List Int → Nat) (hi : ∀ xs, allHas (parIvs s.params) xs → pre g xs → allHas ivs xs)
    (h : ∀ xs, allHas ivs xs → pre g xs → v.plain T (presL pre inv mu) (fun ys => ys = T.fn g xs) ⟨xs, []⟩) : CT F.C.P T.fns (pres pre) g s := by
  show CT F.C.P T.fns (presL pre inv mu) g s
  intro w xs args hx ha hp
  subst hv
  have hI := hi xs hx hp
  refine (vc_soundI hm ⟨hC.presL.of, fun g s h1 h2 xs _ => ht.of g s h1 h2 xs⟩ (T.bounded hs.of) hf hx hI ha (plain_holds _ _ (h xs hI hp))).mono fun e w' ⟨ys, h1, h2, h3, h4⟩ => ⟨?_, h4⟩
  rw [T.fns_of hg, h3]
  subst h1
  rw [clamp_id h2]

end Go.Proofs.Ytaknnjlkpepgaaa.Sx
