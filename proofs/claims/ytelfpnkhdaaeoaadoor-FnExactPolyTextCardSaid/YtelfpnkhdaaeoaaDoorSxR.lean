/-
  The symbolic executor: contracts of functions by functions on lists of numbers.
-/
import Derived.Test.YtelfpnkhdaaeoaaDoorSxQ
namespace Go.Proofs.YtelfpnkhdaaeoaaDoor.Sx
open Go Go.RowKit

/-- A number within its bounds. -/
def clamp1 (iv : Iv) (x : Int) : Int := if iv.lo ≤ x ∧ x ≤ iv.hi then x else 0
def clamp (ivs : List Iv) (xs : List Int) : List Int := match ivs with
  | [] => []
  | iv :: r => clamp1 iv (xs.headD 0) :: clamp r xs.tail

theorem kd_zero (k : Kd) : k.iv.lo ≤ 0 ∧ 0 ≤ k.iv.hi := by
  cases k with
  | b => exact ⟨by decide, by decide⟩
  | i k => cases k <;> exact ⟨by decide, by decide⟩
  | n k lo hi => exact ⟨(imin_le lo 0).2, (le_imax hi 0).2⟩

theorem clamp_has : ∀ (ks : List Kd) (xs : List Int), allHas (ks.map Kd.iv) (clamp (ks.map Kd.iv) xs)
  | [], _ => trivial
  | k :: ks, xs => by
    refine ⟨?_, clamp_has ks _⟩
    unfold clamp1
    split
    · assumption
    · exact kd_zero k

theorem clamp_id : ∀ {ivs : List Iv} {xs : List Int}, allHas ivs xs → clamp ivs xs = xs
  | [], [], _ => rfl
  | iv :: r, x :: xs, h => by
    have h1 : iv.lo ≤ x ∧ x ≤ iv.hi := h.1
    simp [clamp, clamp1, h1, clamp_id h.2]
  | [], _ :: _, h => h.elim
  | _ :: _, [], h => h.elim

theorem norm_id : ∀ {n : Nat} {xs : List Int}, xs.length = n → norm n xs = xs
  | 0, [], _ => rfl
  | n + 1, x :: xs, h => by simp [norm, norm_id (n := n) (xs := xs) (by simpa using h)]
  | 0, _ :: _, h => by cases h
  | _ + 1, [], h => by cases h

theorem norm_clamp (ks : List Kd) (xs : List Int) : norm ks.length (clamp (ks.map Kd.iv) xs) = clamp (ks.map Kd.iv) xs :=
  norm_id (by have := allHas_length (clamp_has ks xs); simpa using this.symm)

/-- A table of functions on numbers: what each function that is called returns, within its results' kinds. -/
structure Tab where
  sig : Nat → Option Sig
  fn : Nat → List Int → List Int
  /-- the functions of numbers and lists -/
  fl : Nat → Option (List Int → List (List Int) → List Int)
  /-- the functions that return lists, too -/
  ll : Nat → Option (List Int → List (List Int) → List Int × List (List Int)) := fun _ => none

def Tab.app (T : Tab) (g : Nat) (xs : List Int) (ls : List (List Int)) : List Int := match T.fl g with
  | some f => f xs ls
  | none => T.fn g xs
theorem Tab.app_n {T : Tab} {g : Nat} (h : T.fl g = none) (xs : List Int) (ls : List (List Int)) : T.app g xs ls = T.fn g xs := by
  unfold Tab.app; rw [h]
theorem Tab.app_l {T : Tab} {g : Nat} {f : List Int → List (List Int) → List Int} (h : T.fl g = some f) (xs : List Int) (ls : List (List Int)) : T.app g xs ls = f xs ls := by
  unfold Tab.app; rw [h]

def Tab.fns (T : Tab) : Fns := fun g xs ls => match T.sig g with
  | some s => (clamp ((resKds s).map Kd.iv) (T.app g xs ls), [])
  | none => match T.ll g with
    | some f => f xs ls
    | none => ([], [])
theorem Tab.fns_ll {T : Tab} {g : Nat} {f : List Int → List (List Int) → List Int × List (List Int)} (h : T.ll g = some f) (hs : T.sig g = none) (xs : List Int) (ls : List (List Int)) : T.fns g xs ls = f xs ls := by
  simp only [Tab.fns, hs, h]

theorem Tab.fns_app {T : Tab} {g : Nat} {s : Sig} (h : T.sig g = some s) (xs : List Int) (ls : List (List Int)) : (T.fns g xs ls).1 = clamp ((resKds s).map Kd.iv) (T.app g xs ls) := by
  simp only [Tab.fns, h]
theorem Tab.fns_of {T : Tab} {g : Nat} {s : Sig} (h : T.sig g = some s) (xs : List Int) (ls : List (List Int)) (hn : T.fl g = none := by rfl) : (T.fns g xs ls).1 = clamp ((resKds s).map Kd.iv) (T.fn g xs) := by
  rw [T.fns_app h, T.app_n hn]

theorem Tab.bounded {T : Tab} {sigs : List (Nat × Sig)} (hs : ∀ g s, sigOf sigs g = some s → T.sig g = some s) : ∀ g s, sigOf sigs g = some s → ∀ xs ls, allHas ((resKds s).map Kd.iv) (norm (resKds s).length (T.fns g xs ls).1) := fun g s h xs ls => by
  rw [T.fns_app (hs g s h), norm_clamp]
  exact clamp_has _ _

/-- A function does what the table says. -/
theorem Tab.ct {T : Tab} {F : Fn} {fuel g : Nat} {fn : Func} {s : Sig} {Pr : Pres} {v : VC} (hm : F.C.P.follows .mixedOrders = true)
    (hs : ∀ g s, sigOf F.C.sigs g = some s → T.sig g = some s) (hg : T.sig g = some s) (hC : CTs F.C T.fns Pr) (hf : F.C.P.funcs[g]? = some fn)
    (hv : vcOf F fuel fn s = v) (h : ∀ xs ls, allHas (parIvs s.params) xs → allL (parLvs s.params) ls → Pr g xs ls → v.holds T.fns Pr (fun ys _ => ys = T.app g xs ls) ⟨xs, ls⟩) : CT F.C.P T.fns Pr g s := by
  intro w xs ls args hx hl ha hp
  subst hv
  refine (vc_sound hm hC (T.bounded hs) hf hx hl ha (h xs ls hx hl hp)).mono fun e w' ⟨ys, h1, h2, h3, h4⟩ => ⟨?_, h4⟩
  rw [T.fns_app hg, h3]
  subst h1
  rw [clamp_id h2]

def SubSig (T : Tab) : List (Nat × Sig) → Prop
  | [] => True
  | p :: r => T.sig p.1 = some p.2 ∧ SubSig T r
theorem SubSig.of {T : Tab} : ∀ {l : List (Nat × Sig)}, SubSig T l → ∀ g s, sigOf l g = some s → T.sig g = some s
  | [], _, g, s, h => by cases h
  | p :: r, hl, g, s, h => by
    simp only [sigOf] at h
    cases hg : Nat.beq p.1 g <;> simp only [hg, cond_false, cond_true] at h
    · exact SubSig.of hl.2 g s h
    · cases h
      rw [← Nat.eq_of_beq_eq_true hg]
      exact hl.1

def CtAll (P : Program) (Φ : Fns) (Pr : Pres) (pfs : List Nat) (pty : TypeId) (cls : List (Nat × Nat)) : List (Nat × Sig) → Prop
  | [] => True
  | p :: r => CTq P Φ Pr pfs pty cls p.1 p.2 ∧ CtAll P Φ Pr pfs pty cls r
theorem CtAll.of {P : Program} {Φ : Fns} {Pr : Pres} {pfs : List Nat} {pty : TypeId} {cls : List (Nat × Nat)} : ∀ {l : List (Nat × Sig)}, CtAll P Φ Pr pfs pty cls l → ∀ g s, sigOf l g = some s → CTq P Φ Pr pfs pty cls g s
  | [], _, g, s, h => by cases h
  | p :: r, hl, g, s, h => by
    simp only [sigOf] at h
    cases hg : Nat.beq p.1 g <;> simp only [hg, cond_false, cond_true] at h
    · exact CtAll.of hl.2 g s h
    · cases h
      rw [← Nat.eq_of_beq_eq_true hg]
      exact hl.1

/-- No function asks anything of its numbers. -/
def free : Pres := ⟨fun _ _ _ => True, fun _ _ _ => False, fun _ _ _ => 0⟩

def CpAll (P : Program) : List (Nat × PSh × List TypeId) → Prop
  | [] => True
  | p :: r => CTC P p.1 p.2.1 p.2.2 ∧ CpAll P r
theorem CpAll.of {P : Program} : ∀ {l : List (Nat × PSh × List TypeId)}, CpAll P l → ∀ g p tys, cpOf l g = some (p, tys) → CTC P g p tys
  | [], _, g, p, tys, h => by cases h
  | q :: r, hl, g, p, tys, h => by
    simp only [cpOf] at h
    cases hg : Nat.beq q.1 g <;> simp only [hg, cond_false, cond_true] at h
    · exact CpAll.of hl.2 g p tys h
    · have h1 := hl.1
      rw [Option.some.inj h, Nat.eq_of_beq_eq_true hg] at h1
      exact h1

/-- The functions that return lists do what the table says. -/
def LfAll (P : Program) (Φ : Fns) (Pr : Pres) : List (Nat × LSig) → Prop
  | [] => True
  | p :: r => (CTL P Φ Pr p.1 p.2 ∧ (p.2.total = true → ∀ xs ls, Pr p.1 xs ls)) ∧ LfAll P Φ Pr r
theorem LfAll.of {P : Program} {Φ : Fns} {Pr : Pres} : ∀ {l : List (Nat × LSig)}, LfAll P Φ Pr l → ∀ g s, lfOf l g = some s → CTL P Φ Pr g s ∧ (s.total = true → ∀ xs ls, Pr g xs ls)
  | [], _, g, s, h => by cases h
  | p :: r, hl, g, s, h => by
    simp only [lfOf] at h
    cases hg : Nat.beq p.1 g <;> simp only [hg, cond_false, cond_true] at h
    · exact LfAll.of hl.2 g s h
    · cases h
      rw [← Nat.eq_of_beq_eq_true hg]
      exact hl.1

def WfAll (P : Program) (Φ : Fns) (Pr : Pres) : List (Nat × WSig) → Prop
  | [] => True
  | p :: r => (CTW P Φ Pr p.1 p.2 ∧ (p.2.total = true → ∀ xs ls, Pr p.1 xs ls)) ∧ WfAll P Φ Pr r
theorem WfAll.of {P : Program} {Φ : Fns} {Pr : Pres} : ∀ {l : List (Nat × WSig)}, WfAll P Φ Pr l → ∀ g s, wfOf l g = some s → CTW P Φ Pr g s ∧ (s.total = true → ∀ xs ls, Pr g xs ls)
  | [], _, g, s, h => by cases h
  | p :: r, hl, g, s, h => by
    simp only [wfOf] at h
    cases hg : Nat.beq p.1 g <;> simp only [hg, cond_false, cond_true] at h
    · exact WfAll.of hl.2 g s h
    · cases h
      rw [← Nat.eq_of_beq_eq_true hg]
      exact hl.1

def SfAll (P : Program) (Φ : Fns) (Pr : Pres) : List (Nat × SSig) → Prop
  | [] => True
  | p :: r => (CTS P Φ Pr p.1 p.2 ∧ (p.2.total = true → ∀ xs ls, Pr p.1 xs ls)) ∧ SfAll P Φ Pr r
theorem SfAll.of {P : Program} {Φ : Fns} {Pr : Pres} : ∀ {l : List (Nat × SSig)}, SfAll P Φ Pr l → ∀ g s, sfOf l g = some s → CTS P Φ Pr g s ∧ (s.total = true → ∀ xs ls, Pr g xs ls)
  | [], _, g, s, h => by cases h
  | p :: r, hl, g, s, h => by
    simp only [sfOf] at h
    cases hg : Nat.beq p.1 g <;> simp only [hg, cond_false, cond_true] at h
    · exact SfAll.of hl.2 g s h
    · cases h
      rw [← Nat.eq_of_beq_eq_true hg]
      exact hl.1

theorem Tab.call {T : Tab} {g : Nat} {s : Sig} (h : T.sig g = some s) {n : Nat} (hn : (resKds s).length = n) {xs : List Int} {ls : List (List Int)} {ys : List Int} (hy : ys = norm n (T.fns g xs ls).1) (hl : T.fl g = none := by rfl) :
    ys = clamp ((resKds s).map Kd.iv) (T.fn g xs) := by
  subst hn
  rw [hy, T.fns_of h _ _ hl, norm_clamp]

theorem Tab.call_id {T : Tab} {g : Nat} {s : Sig} (h : T.sig g = some s) {n : Nat} (hn : (resKds s).length = n) {xs : List Int} {ls : List (List Int)} {ys : List Int} (hy : ys = norm n (T.fns g xs ls).1)
    (hr : allHas ((resKds s).map Kd.iv) (T.fn g xs)) (hl : T.fl g = none := by rfl) : ys = T.fn g xs := by
  rw [T.call h hn hy hl, clamp_id hr]

/-! ### Functions that ask something of their numbers -/
theorem CT.w {P : Program} {Φ : Fns} {Pr : Pres} {g : Nat} {s : Sig} (h : CT P Φ free g s) : CT P Φ Pr g s := fun w xs ls args hx hl ha _ => h w xs ls args hx hl ha trivial

def lookPre : List (Nat × (List Int → Prop)) → Nat → List Int → Prop
  | [], _ => fun _ => True
  | (h, f) :: r, g => bif Nat.beq h g then f else lookPre r g

def presL (pre : Nat → List Int → Prop) (inv : Nat → List Int → List Int → Prop) (mu : Nat → List Int → List Int → Nat) : Pres := ⟨fun g xs _ => pre g xs, fun k ρ σ => inv k ρ.i σ.i, fun k ρ σ => mu k ρ.i σ.i⟩
def pres (pre : Nat → List Int → Prop) : Pres := presL pre (fun _ _ _ => False) (fun _ _ _ => 0)

def Tot (pre : Nat → List Int → Prop) : List (Nat × Sig) → Prop
  | [] => True
  | p :: r => (p.2.total = true → ∀ xs, pre p.1 xs) ∧ Tot pre r
theorem Tot.of {pre : Nat → List Int → Prop} : ∀ {l : List (Nat × Sig)}, Tot pre l → ∀ g s, sigOf l g = some s → s.total = true → ∀ xs, pre g xs
  | [], _, g, s, h => by cases h
  | p :: r, hl, g, s, h => by
    simp only [sigOf] at h
    cases hg : Nat.beq p.1 g <;> simp only [hg, cond_false, cond_true] at h
    · exact Tot.of hl.2 g s h
    · cases h
      rw [← Nat.eq_of_beq_eq_true hg]
      exact hl.1

theorem CtAll.presL {P : Program} {Φ : Fns} {pre : Nat → List Int → Prop} {inv : Nat → List Int → List Int → Prop} {mu : Nat → List Int → List Int → Nat} {pfs : List Nat} {pty : TypeId} {cls : List (Nat × Nat)} : ∀ {l : List (Nat × Sig)}, CtAll P Φ (pres pre) pfs pty cls l → CtAll P Φ (presL pre inv mu) pfs pty cls l
  | [], _ => trivial
  | _ :: _, h => ⟨h.1, CtAll.presL h.2⟩

/-- The same, of numbers and lists. -/
def presG (pre : Nat → List Int → List (List Int) → Prop) (inv : Nat → Env → Env → Prop) (mu : Nat → Env → Env → Nat) : Pres := ⟨pre, inv, mu⟩
def presQ (pre : Nat → List Int → List (List Int) → Prop) : Pres := presG pre (fun _ _ _ => False) (fun _ _ _ => 0)
def TotG (pre : Nat → List Int → List (List Int) → Prop) : List (Nat × Sig) → Prop
  | [] => True
  | p :: r => (p.2.total = true → ∀ xs ls, pre p.1 xs ls) ∧ TotG pre r
theorem TotG.of {pre : Nat → List Int → List (List Int) → Prop} : ∀ {l : List (Nat × Sig)}, TotG pre l → ∀ g s, sigOf l g = some s → s.total = true → ∀ xs ls, pre g xs ls
  | [], _, g, s, h => by cases h
  | p :: r, hl, g, s, h => by
    simp only [sigOf] at h
    cases hg : Nat.beq p.1 g <;> simp only [hg, cond_false, cond_true] at h
    · exact TotG.of hl.2 g s h
    · cases h
      rw [← Nat.eq_of_beq_eq_true hg]
      exact hl.1
theorem CtAll.presG {P : Program} {Φ : Fns} {pre : Nat → List Int → List (List Int) → Prop} {inv : Nat → Env → Env → Prop} {mu : Nat → Env → Env → Nat} {pfs : List Nat} {pty : TypeId} {cls : List (Nat × Nat)} : ∀ {l : List (Nat × Sig)}, CtAll P Φ (presQ pre) pfs pty cls l → CtAll P Φ (presG pre inv mu) pfs pty cls l
  | [], _ => trivial
  | _ :: _, h => ⟨h.1, CtAll.presG h.2⟩

theorem LfAll.presL {P : Program} {Φ : Fns} {pre : Nat → List Int → Prop} {inv : Nat → List Int → List Int → Prop} {mu : Nat → List Int → List Int → Nat} : ∀ {l : List (Nat × LSig)}, LfAll P Φ (pres pre) l → LfAll P Φ (presL pre inv mu) l
  | [], _ => trivial
  | _ :: _, h => ⟨h.1, LfAll.presL h.2⟩
theorem LfAll.presG {P : Program} {Φ : Fns} {pre : Nat → List Int → List (List Int) → Prop} {inv : Nat → Env → Env → Prop} {mu : Nat → Env → Env → Nat} : ∀ {l : List (Nat × LSig)}, LfAll P Φ (presQ pre) l → LfAll P Φ (presG pre inv mu) l
  | [], _ => trivial
  | _ :: _, h => ⟨h.1, LfAll.presG h.2⟩

theorem WfAll.presL {P : Program} {Φ : Fns} {pre : Nat → List Int → Prop} {inv : Nat → List Int → List Int → Prop} {mu : Nat → List Int → List Int → Nat} : ∀ {l : List (Nat × WSig)}, WfAll P Φ (pres pre) l → WfAll P Φ (presL pre inv mu) l
  | [], _ => trivial
  | _ :: _, h => ⟨h.1, WfAll.presL h.2⟩
theorem WfAll.presG {P : Program} {Φ : Fns} {pre : Nat → List Int → List (List Int) → Prop} {inv : Nat → Env → Env → Prop} {mu : Nat → Env → Env → Nat} : ∀ {l : List (Nat × WSig)}, WfAll P Φ (presQ pre) l → WfAll P Φ (presG pre inv mu) l
  | [], _ => trivial
  | _ :: _, h => ⟨h.1, WfAll.presG h.2⟩

theorem SfAll.presL {P : Program} {Φ : Fns} {pre : Nat → List Int → Prop} {inv : Nat → List Int → List Int → Prop} {mu : Nat → List Int → List Int → Nat} : ∀ {l : List (Nat × SSig)}, SfAll P Φ (pres pre) l → SfAll P Φ (presL pre inv mu) l
  | [], _ => trivial
  | _ :: _, h => ⟨h.1, SfAll.presL h.2⟩
theorem SfAll.presG {P : Program} {Φ : Fns} {pre : Nat → List Int → List (List Int) → Prop} {inv : Nat → Env → Env → Prop} {mu : Nat → Env → Env → Nat} : ∀ {l : List (Nat × SSig)}, SfAll P Φ (presQ pre) l → SfAll P Φ (presG pre inv mu) l
  | [], _ => trivial
  | _ :: _, h => ⟨h.1, SfAll.presG h.2⟩

/-! ### What is asked, as a plain sentence on numbers -/
def Curry : Nat → (List Int → Prop) → Prop
  | 0, p => p []
  | n + 1, p => ∀ y, Curry n fun ys => p (y :: ys)
theorem Curry.at : ∀ {n : Nat} {p : List Int → Prop}, Curry n p → ∀ ys : List Int, ys.length = n → p ys
  | 0, _, h, [], _ => h
  | n + 1, p, h, y :: ys, hl => Curry.at (p := fun ys => p (y :: ys)) (h y) ys (by simpa using hl)
  | 0, _, _, _ :: _, hl => by cases hl
  | _ + 1, _, _, [], hl => by cases hl

def OAll (Φ : Fns) (Pr : Pres) (ρ : Env) : List O → Prop
  | [] => True
  | [o] => o.holds Φ Pr ρ
  | o :: r => o.holds Φ Pr ρ ∧ OAll Φ Pr ρ r
theorem OAll.all {Φ : Fns} {Pr : Pres} {ρ : Env} : ∀ {os : List O}, OAll Φ Pr ρ os → OsHold Φ Pr ρ os
  | [], _, _, h => by cases h
  | [o], h, x, hx => by
    simp only [List.mem_singleton] at hx
    subst hx; exact h
  | o :: q :: r, h, x, hx => by
    cases hx with
    | head => exact h.1
    | tail _ hx => exact OAll.all h.2 x hx

/-- What a called function returns. -/
def Tab.out (T : Tab) (g n : Nat) (xs : List Int) : List Int := norm n (T.fns g xs []).1
def Tab.outL (T : Tab) (g n : Nat) (xs : List Int) (ls : List (List Int)) : List Int := norm n (T.fns g xs ls).1
/-- A list among the arguments. -/
def AS.hasL : AS → Bool
  | .nil => false
  | .e _ as => as.hasL
  | .l _ _ => true
theorem AS.denL_nil {Φ : Fns} {ρ : Env} : ∀ {as : AS}, as.hasL = false → as.denL Φ ρ = []
  | .nil, _ => rfl
  | .e _ as, h => AS.denL_nil (as := as) h
  | .l _ _, h => by cases h
def Tab.outA (T : Tab) (g n : Nat) (as : AS) (ρ : Env) : List Int := match as.hasL with
  | false => T.out g n (as.denE T.fns ρ)
  | true => T.outL g n (as.denE T.fns ρ) (as.denL T.fns ρ)
theorem Tab.outA_eq (T : Tab) (g n : Nat) (as : AS) (ρ : Env) : T.outA g n as ρ = norm n (T.fns g (as.denE T.fns ρ) (as.denL T.fns ρ)).1 := by
  unfold Tab.outA
  cases h : as.hasL
  · simp only [Tab.out]
    rw [AS.denL_nil h]
  · rfl

def CurryL : Nat → (List (List Int) → Prop) → Prop
  | 0, p => p []
  | n + 1, p => ∀ y, CurryL n fun ys => p (y :: ys)
theorem CurryL.at : ∀ {n : Nat} {p : List (List Int) → Prop}, CurryL n p → ∀ ys : List (List Int), ys.length = n → p ys
  | 0, _, h, [], _ => h
  | n + 1, p, h, y :: ys, hl => CurryL.at (p := fun ys => p (y :: ys)) (h y) ys (by simpa using hl)
  | 0, _, _, _ :: _, hl => by cases hl
  | _ + 1, _, _, [], hl => by cases hl

def VC.plain (T : Tab) (Pr : Pres) (post : List Int → List (List Int) → Prop) : VC → Env → Prop
  | .fail _, _ => False
  | .fin as, ρ => post (as.denE T.fns ρ) (as.denL T.fns ρ)
  | .ite b t e, ρ => (b.den T.fns ρ = true → t.plain T Pr post ρ) ∧ (b.den T.fns ρ = false → e.plain T Pr post ρ)
  | .need os t, ρ => OAll T.fns Pr ρ os ∧ (OAll T.fns Pr ρ os → t.plain T Pr post ρ)
  | .bind e t, ρ => ∀ y, y = e.den T.fns ρ → t.plain T Pr post (ρ.pushI [y])
  | .call g as n t, ρ => Curry n fun ys => ys = T.outA g n as ρ → t.plain T Pr post (ρ.pushI ys)
  | .calll g as rs lrs t, ρ => Curry rs.length fun ys => CurryL lrs.length fun zs => allHas rs ys → allL lrs zs → (ys, zs) = T.fns g (as.denE T.fns ρ) (as.denL T.fns ρ) → t.plain T Pr post (ρ.push2 ys zs)
  | .again k n0 m0 rs es les, ρ => allHas rs (es.map (E.den T.fns ρ)) ∧ Pr.inv k ⟨ρ.i.take n0, ρ.l.take m0⟩ ⟨es.map (E.den T.fns ρ), les.map (L.den T.fns ρ)⟩ ∧
      Pr.mu k ⟨ρ.i.take n0, ρ.l.take m0⟩ ⟨es.map (E.den T.fns ρ), les.map (L.den T.fns ρ)⟩ < Pr.mu k ⟨ρ.i.take n0, ρ.l.take m0⟩ ⟨(ρ.i.drop n0).take rs.length, (ρ.l.drop m0).take les.length⟩
  | .loop k es [] rs [] t, ρ => (allHas rs (es.map (E.den T.fns ρ)) ∧ Pr.inv k ρ ⟨es.map (E.den T.fns ρ), []⟩) ∧ Curry rs.length fun ys => allHas rs ys → Pr.inv k ρ ⟨ys, []⟩ → t.plain T Pr post (ρ.pushI ys)
  | .loop k es les rs lrs t, ρ => (allHas rs (es.map (E.den T.fns ρ)) ∧ Pr.inv k ρ ⟨es.map (E.den T.fns ρ), les.map (L.den T.fns ρ)⟩) ∧
      Curry rs.length fun ys => CurryL lrs.length fun zs => allHas rs ys → allL lrs zs → Pr.inv k ρ ⟨ys, zs⟩ → t.plain T Pr post (ρ.push2 ys zs)

theorem plain_holds {T : Tab} {Pr : Pres} {post : List Int → List (List Int) → Prop} : ∀ (t : VC) (ρ : Env), t.plain T Pr post ρ → t.holds T.fns Pr post ρ
  | .fail _, _, h => h
  | .fin _, _, h => h
  | .ite _ t e, ρ, h => ⟨fun hb => plain_holds t ρ (h.1 hb), fun hb => plain_holds e ρ (h.2 hb)⟩
  | .need _ t, ρ, h => ⟨h.1.all, plain_holds t ρ (h.2 h.1)⟩
  | .bind _ t, _, h => plain_holds t _ (h _ rfl)
  | .call _ _ n t, _, h => plain_holds t _ (h.at _ (norm_length n _) (Tab.outA_eq _ _ _ _ _).symm)
  | .calll _ _ _ _ t, _, h => fun ys zs h1 hz h2 => plain_holds t _ (CurryL.at (h.at ys (allHas_length h1).symm) zs (allL_length hz).symm h1 hz h2)
  | .again _ _ _ _ _ _, _, h => h
  | .loop k es [] rs [] t, ρ, h => ⟨h.1.1, h.1.2, fun ys zs h1 hz h2 => by
    cases zs with
    | nil =>
      have := plain_holds t _ (h.2.at ys (allHas_length h1).symm h1 h2)
      have e : ρ.push2 ys [] = ρ.pushI ys := by simp [Env.push2, Env.pushI]
      rw [e]; exact this
    | cons _ _ => exact hz.elim⟩
  | .loop k es (a :: b) rs lrs t, ρ, h => ⟨h.1.1, h.1.2, fun ys zs h1 hz h2 => plain_holds t _ (CurryL.at (h.2.at ys (allHas_length h1).symm) zs (allL_length hz).symm h1 hz h2)⟩
  | .loop k es [] rs (a :: b) t, ρ, h => ⟨h.1.1, h.1.2, fun ys zs h1 hz h2 => plain_holds t _ (CurryL.at (h.2.at ys (allHas_length h1).symm) zs (allL_length hz).symm h1 hz h2)⟩

theorem Tab.out_eq {T : Tab} {g : Nat} {s : Sig} (h : T.sig g = some s) {n : Nat} (hn : (resKds s).length = n) {xs : List Int} (hr : allHas ((resKds s).map Kd.iv) (T.fn g xs)) (hl : T.fl g = none := by rfl) : T.out g n xs = T.fn g xs := by
  subst hn
  unfold Tab.out
  rw [T.fns_of h _ _ hl, norm_clamp, clamp_id hr]
theorem Tab.outL_eq {T : Tab} {g : Nat} {s : Sig} {f : List Int → List (List Int) → List Int} (h : T.sig g = some s) {n : Nat} (hn : (resKds s).length = n) (hl : T.fl g = some f) {xs : List Int} {ls : List (List Int)} (hr : allHas ((resKds s).map Kd.iv) (f xs ls)) : T.outL g n xs ls = f xs ls := by
  subst hn
  unfold Tab.outL
  rw [T.fns_app h, T.app_l hl, norm_clamp, clamp_id hr]

theorem allL_nil {ps : List PSh} {ls : List (List Int)} (h : parLvs ps = []) (hl : allL (parLvs ps) ls) : ls = [] := by
  rw [h] at hl
  cases ls with
  | nil => rfl
  | cons _ _ => exact hl.elim

/-- A FUNCTION DOES WHAT THE TABLE SAYS, from a plain sentence. -/
theorem Tab.ctq {T : Tab} {F : Fn} {ivs : List Iv} {fuel g : Nat} {fn : Func} {s : Sig} {v : VC} {pre : Nat → List Int → Prop} (hv : vcOfI F ivs (parLvs s.params) fuel fn s = v) (hm : F.C.P.follows .mixedOrders = true)
    (hs : SubSig T F.C.sigs) (ht : Tot pre F.C.sigs) (hg : T.sig g = some s) (hC : CtAll F.C.P T.fns (pres pre) F.C.pfs F.C.pty F.C.cls F.C.sigs) (hk : CpAll F.C.P F.C.cps) (hf : F.C.P.funcs[g]? = some fn)
    (inv : Nat → List Int → List Int → Prop) (mu : Nat → List Int → List Int → Nat) (hi : ∀ xs, allHas (parIvs s.params) xs → pre g xs → allHas ivs xs)
    (h : ∀ xs, allHas ivs xs → pre g xs → v.plain T (presL pre inv mu) (fun ys _ => ys = T.fn g xs) ⟨xs, []⟩) (hn : T.fl g = none) (hz : parLvs s.params = [])
    (hlf : LfAll F.C.P T.fns (pres pre) F.C.lfs := by trivial) (hwf : WfAll F.C.P T.fns (pres pre) F.C.wfs := by trivial) (hsf : SfAll F.C.P T.fns (pres pre) F.C.sfs := by trivial) : CT F.C.P T.fns (pres pre) g s := by
  show CT F.C.P T.fns (presL pre inv mu) g s
  intro w xs ls args hx hl ha hp
  have := allL_nil hz hl
  subst this
  subst hv
  have hI := hi xs hx hp
  refine (vc_soundI hm ⟨hC.presL.of, fun g s h1 h2 xs _ => ht.of g s h1 h2 xs, hk.of, fun g s h => (hlf.presL.of g s h).1, fun g s h => (hlf.presL.of g s h).2, hwf.presL.of, hsf.presL.of⟩ (T.bounded hs.of) hf hx hI hl ha (plain_holds _ _ (h xs hI hp))).mono fun e w' ⟨ys, h1, h2, h3, h4⟩ => ⟨?_, h4⟩
  rw [T.fns_of hg _ _ hn, h3]
  subst h1
  rw [clamp_id h2]

/-- The same of numbers and lists. -/
theorem Tab.ctg {T : Tab} {F : Fn} {ivs : List Iv} {lvs : List (Iv × Int)} {fuel g : Nat} {fn : Func} {s : Sig} {v : VC} {pre : Nat → List Int → List (List Int) → Prop} (hv : vcOfI F ivs lvs fuel fn s = v) (hm : F.C.P.follows .mixedOrders = true)
    (hs : SubSig T F.C.sigs) (ht : TotG pre F.C.sigs) (hg : T.sig g = some s) (hC : CtAll F.C.P T.fns (presQ pre) F.C.pfs F.C.pty F.C.cls F.C.sigs) (hk : CpAll F.C.P F.C.cps) (hf : F.C.P.funcs[g]? = some fn)
    (inv : Nat → Env → Env → Prop) (mu : Nat → Env → Env → Nat) (hi : ∀ xs ls, allHas (parIvs s.params) xs → allL (parLvs s.params) ls → pre g xs ls → allHas ivs xs ∧ allL lvs ls)
    (h : ∀ xs ls, allHas ivs xs → allL lvs ls → pre g xs ls → v.plain T (presG pre inv mu) (fun ys _ => ys = T.app g xs ls) ⟨xs, ls⟩)
    (hlf : LfAll F.C.P T.fns (presQ pre) F.C.lfs := by trivial) (hwf : WfAll F.C.P T.fns (presQ pre) F.C.wfs := by trivial) (hsf : SfAll F.C.P T.fns (presQ pre) F.C.sfs := by trivial) : CT F.C.P T.fns (presQ pre) g s := by
  intro w xs ls args hx hl ha hp
  subst hv
  obtain ⟨hI, hL⟩ := hi xs ls hx hl hp
  refine (vc_soundI (Pr := presG pre inv mu) hm ⟨hC.presG.of, fun g s h1 h2 xs ls => ht.of g s h1 h2 xs ls, hk.of, fun g s h => (hlf.presG.of g s h).1, fun g s h => (hlf.presG.of g s h).2, hwf.presG.of, hsf.presG.of⟩ (T.bounded hs.of) hf hx hI hL ha (plain_holds _ _ (h xs ls hI hL hp))).mono fun e w' ⟨ys, h1, h2, h3, h4⟩ => ⟨?_, h4⟩
  rw [T.fns_app hg, h3]
  subst h1
  rw [clamp_id h2]

end Go.Proofs.YtelfpnkhdaaeoaaDoor.Sx
