/-
  The symbolic executor: equality of expressions, an environment that grows, called results by variables.
-/
import Derived.Test.YtelfpnkhdaaeoaaDoorSxB
namespace Go.Proofs.YtelfpnkhdaaeoaaDoor.Sx
open Go

/-! ## Equality -/
mutual
theorem E.eqb_eq : ∀ (a b : E), a.eqb b = true → a = b
  | .lit _, b, h => by cases b <;> simp_all [E.eqb]
  | .var _, b, h => by cases b <;> simp_all [E.eqb]
  | .add a c, b, h => by
    cases b <;> simp only [E.eqb, Bool.and_eq_true, Bool.false_eq_true] at h
    rw [E.eqb_eq a _ h.1, E.eqb_eq c _ h.2]
  | .sub a c, b, h => by
    cases b <;> simp only [E.eqb, Bool.and_eq_true, Bool.false_eq_true] at h
    rw [E.eqb_eq a _ h.1, E.eqb_eq c _ h.2]
  | .mul a c, b, h => by
    cases b <;> simp only [E.eqb, Bool.and_eq_true, Bool.false_eq_true] at h
    rw [E.eqb_eq a _ h.1, E.eqb_eq c _ h.2]
  | .div a c, b, h => by
    cases b <;> simp only [E.eqb, Bool.and_eq_true, Bool.false_eq_true] at h
    rw [E.eqb_eq a _ h.1, E.eqb_eq c _ h.2]
  | .mod a c, b, h => by
    cases b <;> simp only [E.eqb, Bool.and_eq_true, Bool.false_eq_true] at h
    rw [E.eqb_eq a _ h.1, E.eqb_eq c _ h.2]
  | .tdiv a c, b, h => by
    cases b <;> simp only [E.eqb, Bool.and_eq_true, Bool.false_eq_true] at h
    rw [E.eqb_eq a _ h.1, E.eqb_eq c _ h.2]
  | .tmod a c, b, h => by
    cases b <;> simp only [E.eqb, Bool.and_eq_true, Bool.false_eq_true] at h
    rw [E.eqb_eq a _ h.1, E.eqb_eq c _ h.2]
  | .pow2 a, b, h => by
    cases b <;> simp only [E.eqb, Bool.false_eq_true] at h
    rw [E.eqb_eq a _ h]
  | .wrap k a, b, h => by
    cases b <;> simp only [E.eqb, Bool.and_eq_true, decide_eq_true_eq, Bool.false_eq_true] at h
    rw [h.1, E.eqb_eq a _ h.2]
  | .bits o k a c, b, h => by
    cases b <;> simp only [E.eqb, Bool.and_eq_true, decide_eq_true_eq, Bool.false_eq_true] at h
    rw [h.1, h.2.1, E.eqb_eq a _ h.2.2.1, E.eqb_eq c _ h.2.2.2]
  | .ite c x y, b, h => by
    cases b <;> simp only [E.eqb, Bool.and_eq_true, Bool.false_eq_true] at h
    rw [B.eqb_eq c _ h.1, E.eqb_eq x _ h.2.1, E.eqb_eq y _ h.2.2]
  | .app g i as, b, h => by
    cases b <;> simp only [E.eqb, Bool.and_eq_true, Bool.false_eq_true] at h
    rw [Nat.eq_of_beq_eq_true h.1, Nat.eq_of_beq_eq_true h.2.1, AS.eqb_eq as _ h.2.2]
  | .len l, b, h => by
    cases b <;> simp only [E.eqb, Bool.false_eq_true] at h
    rw [L.eqb_eq l _ h]
  | .at l i, b, h => by
    cases b <;> simp only [E.eqb, Bool.and_eq_true, Bool.false_eq_true] at h
    rw [L.eqb_eq l _ h.1, E.eqb_eq i _ h.2]
theorem B.eqb_eq : ∀ (a b : B), a.eqb b = true → a = b
  | .lit x, b, h => by
    cases b <;> simp only [B.eqb, Bool.false_eq_true] at h
    rename_i y; cases x <;> cases y <;> simp_all
  | .lt a c, b, h => by
    cases b <;> simp only [B.eqb, Bool.and_eq_true, Bool.false_eq_true] at h
    rw [E.eqb_eq a _ h.1, E.eqb_eq c _ h.2]
  | .le a c, b, h => by
    cases b <;> simp only [B.eqb, Bool.and_eq_true, Bool.false_eq_true] at h
    rw [E.eqb_eq a _ h.1, E.eqb_eq c _ h.2]
  | .eq a c, b, h => by
    cases b <;> simp only [B.eqb, Bool.and_eq_true, Bool.false_eq_true] at h
    rw [E.eqb_eq a _ h.1, E.eqb_eq c _ h.2]
  | .not a, b, h => by
    cases b <;> simp only [B.eqb, Bool.false_eq_true] at h
    rw [B.eqb_eq a _ h]
  | .and a c, b, h => by
    cases b <;> simp only [B.eqb, Bool.and_eq_true, Bool.false_eq_true] at h
    rw [B.eqb_eq a _ h.1, B.eqb_eq c _ h.2]
  | .or a c, b, h => by
    cases b <;> simp only [B.eqb, Bool.and_eq_true, Bool.false_eq_true] at h
    rw [B.eqb_eq a _ h.1, B.eqb_eq c _ h.2]
  | .beq a c, b, h => by
    cases b <;> simp only [B.eqb, Bool.and_eq_true, Bool.false_eq_true] at h
    rw [B.eqb_eq a _ h.1, B.eqb_eq c _ h.2]
  | .leq a c, b, h => by
    cases b <;> simp only [B.eqb, Bool.and_eq_true, Bool.false_eq_true] at h
    rw [L.eqb_eq a _ h.1, L.eqb_eq c _ h.2]
theorem L.eqb_eq : ∀ (a b : L), a.eqb b = true → a = b
  | .lit _, b, h => by cases b <;> simp_all [L.eqb]
  | .var _, b, h => by cases b <;> simp_all [L.eqb]
  | .cat a c, b, h => by
    cases b <;> simp only [L.eqb, Bool.and_eq_true, Bool.false_eq_true] at h
    rw [L.eqb_eq a _ h.1, L.eqb_eq c _ h.2]
  | .one e, b, h => by
    cases b <;> simp only [L.eqb, Bool.false_eq_true] at h
    rw [E.eqb_eq e _ h]
  | .zeros e, b, h => by
    cases b <;> simp only [L.eqb, Bool.false_eq_true] at h
    rw [E.eqb_eq e _ h]
  | .take a e, b, h => by
    cases b <;> simp only [L.eqb, Bool.and_eq_true, Bool.false_eq_true] at h
    rw [L.eqb_eq a _ h.1, E.eqb_eq e _ h.2]
  | .drop a e, b, h => by
    cases b <;> simp only [L.eqb, Bool.and_eq_true, Bool.false_eq_true] at h
    rw [L.eqb_eq a _ h.1, E.eqb_eq e _ h.2]
  | .set a i v, b, h => by
    cases b <;> simp only [L.eqb, Bool.and_eq_true, Bool.false_eq_true] at h
    rw [L.eqb_eq a _ h.1, E.eqb_eq i _ h.2.1, E.eqb_eq v _ h.2.2]
  | .app g i as, b, h => by
    cases b <;> simp only [L.eqb, Bool.and_eq_true, Bool.false_eq_true] at h
    rw [Nat.eq_of_beq_eq_true h.1, Nat.eq_of_beq_eq_true h.2.1, AS.eqb_eq as _ h.2.2]
theorem AS.eqb_eq : ∀ (a b : AS), a.eqb b = true → a = b
  | .nil, b, h => by cases b <;> simp_all [AS.eqb]
  | .e a as, b, h => by
    cases b <;> simp only [AS.eqb, Bool.and_eq_true, Bool.false_eq_true] at h
    rw [E.eqb_eq a _ h.1, AS.eqb_eq as _ h.2]
  | .l a as, b, h => by
    cases b <;> simp only [AS.eqb, Bool.and_eq_true, Bool.false_eq_true] at h
    rw [L.eqb_eq a _ h.1, AS.eqb_eq as _ h.2]
end

/-! ## A greater environment -/
def Env.pushI (ρ : Env) (ys : List Int) : Env := ⟨ρ.i ++ ys, ρ.l⟩

theorem getD_append_left {xs ys : List Int} {n : Nat} (h : n < xs.length) : (xs ++ ys).getD n 0 = xs.getD n 0 := by
  simp [List.getD_eq_getElem?_getD, List.getElem?_append_left h]
theorem getD_append_right {xs ys : List Int} {n : Nat} : (xs ++ ys).getD (xs.length + n) 0 = ys.getD n 0 := by
  rw [List.getD_eq_getElem?_getD, List.getElem?_append_right (by omega), Nat.add_sub_cancel_left, List.getD_eq_getElem?_getD]

section
variable {Φ : Fns} {ρ : Env} {n m : Nat} {ys : List Int}

mutual
theorem E.den_push (hn : n ≤ ρ.i.length) : ∀ (e : E), e.sc n m = true → e.den Φ (ρ.pushI ys) = e.den Φ ρ
  | .lit _, _ => rfl
  | .var i, h => by
    simp only [E.sc, Nat.blt_eq] at h
    simp only [E.den, Env.pushI]
    exact getD_append_left (by omega)
  | .add a b, h | .sub a b, h | .mul a b, h | .div a b, h | .mod a b, h | .tdiv a b, h | .tmod a b, h | .bits _ _ a b, h => by
    simp only [E.sc, Bool.and_eq_true] at h
    simp only [E.den, E.den_push hn a h.1, E.den_push hn b h.2]
  | .pow2 a, h | .wrap _ a, h => by
    simp only [E.sc] at h
    simp only [E.den, E.den_push hn a h]
  | .ite c a b, h => by
    simp only [E.sc, Bool.and_eq_true] at h
    simp only [E.den, B.den_push hn c h.1, E.den_push hn a h.2.1, E.den_push hn b h.2.2]
  | .app g i as, h => by
    simp only [E.sc] at h
    simp only [E.den, AS.denE_push hn as h, AS.denL_push hn as h]
  | .len l, h => by
    simp only [E.sc] at h
    simp only [E.den, L.den_push hn l h]
  | .at l i, h => by
    simp only [E.sc, Bool.and_eq_true] at h
    simp only [E.den, L.den_push hn l h.1, E.den_push hn i h.2]
theorem B.den_push (hn : n ≤ ρ.i.length) : ∀ (b : B), b.sc n m = true → b.den Φ (ρ.pushI ys) = b.den Φ ρ
  | .lit _, _ => rfl
  | .lt a b, h | .le a b, h | .eq a b, h => by
    simp only [B.sc, Bool.and_eq_true] at h
    simp only [B.den, E.den_push hn a h.1, E.den_push hn b h.2]
  | .not b, h => by
    simp only [B.sc] at h
    simp only [B.den, B.den_push hn b h]
  | .and a b, h | .or a b, h | .beq a b, h => by
    simp only [B.sc, Bool.and_eq_true] at h
    simp only [B.den, B.den_push hn a h.1, B.den_push hn b h.2]
  | .leq a b, h => by
    simp only [B.sc, Bool.and_eq_true] at h
    simp only [B.den, L.den_push hn a h.1, L.den_push hn b h.2]
theorem L.den_push (hn : n ≤ ρ.i.length) : ∀ (l : L), l.sc n m = true → l.den Φ (ρ.pushI ys) = l.den Φ ρ
  | .lit _, _ => rfl
  | .var _, _ => rfl
  | .cat a b, h => by
    simp only [L.sc, Bool.and_eq_true] at h
    simp only [L.den, L.den_push hn a h.1, L.den_push hn b h.2]
  | .one e, h | .zeros e, h => by
    simp only [L.sc] at h
    simp only [L.den, E.den_push hn e h]
  | .take l e, h | .drop l e, h => by
    simp only [L.sc, Bool.and_eq_true] at h
    simp only [L.den, L.den_push hn l h.1, E.den_push hn e h.2]
  | .set l i v, h => by
    simp only [L.sc, Bool.and_eq_true] at h
    simp only [L.den, L.den_push hn l h.1, E.den_push hn i h.2.1, E.den_push hn v h.2.2]
  | .app g i as, h => by
    simp only [L.sc] at h
    simp only [L.den, AS.denE_push hn as h, AS.denL_push hn as h]
theorem AS.denE_push (hn : n ≤ ρ.i.length) : ∀ (as : AS), as.sc n m = true → as.denE Φ (ρ.pushI ys) = as.denE Φ ρ
  | .nil, _ => rfl
  | .e a as, h => by
    simp only [AS.sc, Bool.and_eq_true] at h
    simp only [AS.denE, E.den_push hn a h.1, AS.denE_push hn as h.2]
  | .l a as, h => by
    simp only [AS.sc, Bool.and_eq_true] at h
    simp only [AS.denE, AS.denE_push hn as h.2]
theorem AS.denL_push (hn : n ≤ ρ.i.length) : ∀ (as : AS), as.sc n m = true → as.denL Φ (ρ.pushI ys) = as.denL Φ ρ
  | .nil, _ => rfl
  | .e a as, h => by
    simp only [AS.sc, Bool.and_eq_true] at h
    simp only [AS.denL, AS.denL_push hn as h.2]
  | .l a as, h => by
    simp only [AS.sc, Bool.and_eq_true] at h
    simp only [AS.denL, L.den_push hn a h.1, AS.denL_push hn as h.2]
end

section
variable {σ : Env}
mutual
theorem E.den_ext (hi : ∀ j, j < n → σ.i.getD j 0 = ρ.i.getD j 0) (hl : ∀ j, j < m → σ.l.getD j [] = ρ.l.getD j []) : ∀ (e : E), e.sc n m = true → e.den Φ σ = e.den Φ ρ
  | .lit _, _ => rfl
  | .var i, h => by
    simp only [E.sc, Nat.blt_eq] at h
    exact hi i h
  | .add a b, h | .sub a b, h | .mul a b, h | .div a b, h | .mod a b, h | .tdiv a b, h | .tmod a b, h | .bits _ _ a b, h => by
    simp only [E.sc, Bool.and_eq_true] at h
    simp only [E.den, E.den_ext hi hl a h.1, E.den_ext hi hl b h.2]
  | .pow2 a, h | .wrap _ a, h => by
    simp only [E.sc] at h
    simp only [E.den, E.den_ext hi hl a h]
  | .ite c a b, h => by
    simp only [E.sc, Bool.and_eq_true] at h
    simp only [E.den, B.den_ext hi hl c h.1, E.den_ext hi hl a h.2.1, E.den_ext hi hl b h.2.2]
  | .app g i as, h => by
    simp only [E.sc] at h
    simp only [E.den, AS.denE_ext hi hl as h, AS.denL_ext hi hl as h]
  | .len l, h => by
    simp only [E.sc] at h
    simp only [E.den, L.den_ext hi hl l h]
  | .at l i, h => by
    simp only [E.sc, Bool.and_eq_true] at h
    simp only [E.den, L.den_ext hi hl l h.1, E.den_ext hi hl i h.2]
theorem B.den_ext (hi : ∀ j, j < n → σ.i.getD j 0 = ρ.i.getD j 0) (hl : ∀ j, j < m → σ.l.getD j [] = ρ.l.getD j []) : ∀ (b : B), b.sc n m = true → b.den Φ σ = b.den Φ ρ
  | .lit _, _ => rfl
  | .lt a b, h | .le a b, h | .eq a b, h => by
    simp only [B.sc, Bool.and_eq_true] at h
    simp only [B.den, E.den_ext hi hl a h.1, E.den_ext hi hl b h.2]
  | .not b, h => by
    simp only [B.sc] at h
    simp only [B.den, B.den_ext hi hl b h]
  | .and a b, h | .or a b, h | .beq a b, h => by
    simp only [B.sc, Bool.and_eq_true] at h
    simp only [B.den, B.den_ext hi hl a h.1, B.den_ext hi hl b h.2]
  | .leq a b, h => by
    simp only [B.sc, Bool.and_eq_true] at h
    simp only [B.den, L.den_ext hi hl a h.1, L.den_ext hi hl b h.2]
theorem L.den_ext (hi : ∀ j, j < n → σ.i.getD j 0 = ρ.i.getD j 0) (hl : ∀ j, j < m → σ.l.getD j [] = ρ.l.getD j []) : ∀ (l : L), l.sc n m = true → l.den Φ σ = l.den Φ ρ
  | .lit _, _ => rfl
  | .var i, h => by
    simp only [L.sc, Nat.blt_eq] at h
    exact hl i h
  | .cat a b, h => by
    simp only [L.sc, Bool.and_eq_true] at h
    simp only [L.den, L.den_ext hi hl a h.1, L.den_ext hi hl b h.2]
  | .one e, h | .zeros e, h => by
    simp only [L.sc] at h
    simp only [L.den, E.den_ext hi hl e h]
  | .take l e, h | .drop l e, h => by
    simp only [L.sc, Bool.and_eq_true] at h
    simp only [L.den, L.den_ext hi hl l h.1, E.den_ext hi hl e h.2]
  | .set l i v, h => by
    simp only [L.sc, Bool.and_eq_true] at h
    simp only [L.den, L.den_ext hi hl l h.1, E.den_ext hi hl i h.2.1, E.den_ext hi hl v h.2.2]
  | .app g i as, h => by
    simp only [L.sc] at h
    simp only [L.den, AS.denE_ext hi hl as h, AS.denL_ext hi hl as h]
theorem AS.denE_ext (hi : ∀ j, j < n → σ.i.getD j 0 = ρ.i.getD j 0) (hl : ∀ j, j < m → σ.l.getD j [] = ρ.l.getD j []) : ∀ (as : AS), as.sc n m = true → as.denE Φ σ = as.denE Φ ρ
  | .nil, _ => rfl
  | .e a as, h => by
    simp only [AS.sc, Bool.and_eq_true] at h
    simp only [AS.denE, E.den_ext hi hl a h.1, AS.denE_ext hi hl as h.2]
  | .l a as, h => by
    simp only [AS.sc, Bool.and_eq_true] at h
    simp only [AS.denE, AS.denE_ext hi hl as h.2]
theorem AS.denL_ext (hi : ∀ j, j < n → σ.i.getD j 0 = ρ.i.getD j 0) (hl : ∀ j, j < m → σ.l.getD j [] = ρ.l.getD j []) : ∀ (as : AS), as.sc n m = true → as.denL Φ σ = as.denL Φ ρ
  | .nil, _ => rfl
  | .e a as, h => by
    simp only [AS.sc, Bool.and_eq_true] at h
    simp only [AS.denL, AS.denL_ext hi hl as h.2]
  | .l a as, h => by
    simp only [AS.sc, Bool.and_eq_true] at h
    simp only [AS.denL, L.den_ext hi hl a h.1, AS.denL_ext hi hl as h.2]
end
end

/-- More numbers and lists. -/
def Env.push2 (ρ : Env) (ys : List Int) (zs : List (List Int)) : Env := ⟨ρ.i ++ ys, ρ.l ++ zs⟩
theorem getL_append_left {xs ys : List (List Int)} {n : Nat} (h : n < xs.length) : (xs ++ ys).getD n [] = xs.getD n [] := by
  simp [List.getD_eq_getElem?_getD, List.getElem?_append_left h]
theorem getL_append_right {xs ys : List (List Int)} {n : Nat} : (xs ++ ys).getD (xs.length + n) [] = ys.getD n [] := by
  rw [List.getD_eq_getElem?_getD, List.getElem?_append_right (by omega), Nat.add_sub_cancel_left, List.getD_eq_getElem?_getD]
theorem push2_i {zs : List (List Int)} (hn : n ≤ ρ.i.length) : ∀ j, j < n → (ρ.push2 ys zs).i.getD j 0 = ρ.i.getD j 0 := fun j hj => getD_append_left (by omega)
theorem push2_l {zs : List (List Int)} (hm : m ≤ ρ.l.length) : ∀ j, j < m → (ρ.push2 ys zs).l.getD j [] = ρ.l.getD j [] := fun j hj => getL_append_left (by omega)

/-! ## Called results by variables -/
/-- Exactly n of them. -/
def norm : Nat → List Int → List Int
  | 0, _ => []
  | n + 1, xs => xs.headD 0 :: norm n xs.tail

theorem norm_length : ∀ (n : Nat) (xs : List Int), (norm n xs).length = n
  | 0, _ => rfl
  | n + 1, xs => by simp [norm, norm_length n]

theorem norm_getD : ∀ (n : Nat) (xs : List Int) (j : Nat), j < n → (norm n xs).getD j 0 = xs.getD j 0
  | 0, _, _, h => by omega
  | n + 1, xs, 0, _ => by cases xs <;> simp [norm]
  | n + 1, xs, j + 1, h => by
    have := norm_getD n xs.tail j (by omega)
    cases xs <;> simpa [norm] using this

mutual
theorem E.den_rep {g : Nat} {as : AS} (hv : ∀ j, j < m → ρ.i.getD (n + j) 0 = (Φ g (as.denE Φ ρ) (as.denL Φ ρ)).1.getD j 0) :
    ∀ (e : E), (e.rep g as n m).den Φ ρ = e.den Φ ρ
  | .lit _ => rfl
  | .var _ => rfl
  | .add a b | .sub a b | .mul a b | .div a b | .mod a b | .tdiv a b | .tmod a b | .bits _ _ a b => by
    simp only [E.rep, E.den, E.den_rep hv a, E.den_rep hv b]
  | .pow2 a | .wrap _ a => by simp only [E.rep, E.den, E.den_rep hv a]
  | .ite c a b => by simp only [E.rep, E.den, B.den_rep hv c, E.den_rep hv a, E.den_rep hv b]
  | .app h j bs => by
    simp only [E.rep]
    cases c : (Nat.blt j m && (Nat.beq h g && bs.eqb as)) <;> simp only [cond_false, cond_true]
    · simp only [E.den, AS.denE_rep hv bs, AS.denL_rep hv bs]
    · simp only [Bool.and_eq_true, Nat.blt_eq] at c
      have e1 := Nat.eq_of_beq_eq_true c.2.1
      have e2 := AS.eqb_eq bs as c.2.2
      subst e1 e2
      simp only [E.den]
      exact hv j c.1
  | .len l => by simp only [E.rep, E.den, L.den_rep hv l]
  | .at l i => by simp only [E.rep, E.den, L.den_rep hv l, E.den_rep hv i]
theorem B.den_rep {g : Nat} {as : AS} (hv : ∀ j, j < m → ρ.i.getD (n + j) 0 = (Φ g (as.denE Φ ρ) (as.denL Φ ρ)).1.getD j 0) :
    ∀ (b : B), (b.rep g as n m).den Φ ρ = b.den Φ ρ
  | .lit _ => rfl
  | .lt a b | .le a b | .eq a b => by simp only [B.rep, B.den, E.den_rep hv a, E.den_rep hv b]
  | .not b => by simp only [B.rep, B.den, B.den_rep hv b]
  | .and a b | .or a b | .beq a b => by simp only [B.rep, B.den, B.den_rep hv a, B.den_rep hv b]
  | .leq a b => by simp only [B.rep, B.den, L.den_rep hv a, L.den_rep hv b]
theorem L.den_rep {g : Nat} {as : AS} (hv : ∀ j, j < m → ρ.i.getD (n + j) 0 = (Φ g (as.denE Φ ρ) (as.denL Φ ρ)).1.getD j 0) :
    ∀ (l : L), (l.rep g as n m).den Φ ρ = l.den Φ ρ
  | .lit _ => rfl
  | .var _ => rfl
  | .cat a b => by simp only [L.rep, L.den, L.den_rep hv a, L.den_rep hv b]
  | .one e => by simp only [L.rep, L.den, E.den_rep hv e]
  | .zeros e => by simp only [L.rep, L.den, E.den_rep hv e]
  | .take l e | .drop l e => by simp only [L.rep, L.den, L.den_rep hv l, E.den_rep hv e]
  | .set l i v => by simp only [L.rep, L.den, L.den_rep hv l, E.den_rep hv i, E.den_rep hv v]
  | .app h j bs => by simp only [L.rep, L.den, AS.denE_rep hv bs, AS.denL_rep hv bs]
theorem AS.denE_rep {g : Nat} {as : AS} (hv : ∀ j, j < m → ρ.i.getD (n + j) 0 = (Φ g (as.denE Φ ρ) (as.denL Φ ρ)).1.getD j 0) :
    ∀ (bs : AS), (AS.rep g as n m bs).denE Φ ρ = bs.denE Φ ρ
  | .nil => rfl
  | .e a bs => by simp only [AS.rep, AS.denE, E.den_rep hv a, AS.denE_rep hv bs]
  | .l a bs => by simp only [AS.rep, AS.denE, AS.denE_rep hv bs]
theorem AS.denL_rep {g : Nat} {as : AS} (hv : ∀ j, j < m → ρ.i.getD (n + j) 0 = (Φ g (as.denE Φ ρ) (as.denL Φ ρ)).1.getD j 0) :
    ∀ (bs : AS), (AS.rep g as n m bs).denL Φ ρ = bs.denL Φ ρ
  | .nil => rfl
  | .e a bs => by simp only [AS.rep, AS.denL, AS.denL_rep hv bs]
  | .l a bs => by simp only [AS.rep, AS.denL, L.den_rep hv a, AS.denL_rep hv bs]
end
end

/-! ## Bounds of a greater environment; of a path -/
section
variable {Φ : Fns} {R : Bds} {ρ : Env}

theorem ivs_append_left : ∀ (a b : List Iv) (n : Nat), n < a.length → ivs (a ++ b) n = ivs a n
  | [], _, _, h => by simp at h
  | x :: a, b, 0, _ => rfl
  | x :: a, b, n + 1, h => by simpa [ivs] using ivs_append_left a b n (by simpa using h)
theorem ivs_append_right : ∀ (a b : List Iv) (n : Nat), ivs (a ++ b) (a.length + n) = ivs b n
  | [], _, _ => by simp
  | x :: a, b, n => by
    have := ivs_append_right a b n
    rw [show (x :: a).length + n = (a.length + n) + 1 by simp; omega]
    simpa [ivs] using this
theorem ivs_lt : ∀ (a : List Iv) (n : Nat) (iv : Iv), ivs a n = some iv → n < a.length
  | [], _, _, h => by simp [ivs] at h
  | _ :: _, 0, _, _ => by simp
  | x :: a, n + 1, iv, h => by have := ivs_lt a n iv (by simpa [ivs] using h); simp; omega

/-- All within. -/
def allHas : List Iv → List Int → Prop
  | [], [] => True
  | a :: r, x :: s => a.has x ∧ allHas r s
  | _, _ => False

theorem allHas_length : ∀ {a : List Iv} {xs : List Int}, allHas a xs → a.length = xs.length
  | [], [], _ => rfl
  | _ :: _, _ :: _, h => by simp [allHas_length h.2]
  | [], _ :: _, h => h.elim
  | _ :: _, [], h => h.elim
theorem allHas_get : ∀ {a : List Iv} {xs : List Int}, allHas a xs → ∀ n iv, ivs a n = some iv → iv.has (xs.getD n 0)
  | [], _, _, n, iv, h => by simp [ivs] at h
  | a :: r, [], h, _, _, _ => h.elim
  | a :: r, x :: s, h, 0, iv, hi => by simp only [ivs, Option.some.injEq] at hi; subst hi; simpa using h.1
  | a :: r, x :: s, h, n + 1, iv, hi => by
    simp only [ivs] at hi
    simpa using allHas_get h.2 n iv hi

theorem RV.push (hR : RV Φ R ρ) {ivs' : List Iv} {ys : List Int} (h : allHas ivs' ys) (hp : R.p.all (fun q => q.1.sc R.i.length R.l.length) = true) :
    RV Φ (R.push ivs') (ρ.pushI ys) where
  li := by simp [Env.pushI, Bds.push, hR.li, allHas_length h]
  ll := hR.ll
  i := fun n iv hn => by
    simp only [Bds.push] at hn
    simp only [Env.pushI]
    rcases Nat.lt_or_ge n R.i.length with h1 | h1
    · rw [ivs_append_left _ _ _ h1] at hn
      rw [getD_append_left (by rw [hR.li]; exact h1)]
      exact hR.i n iv hn
    · obtain ⟨k, rfl⟩ : ∃ k, n = R.i.length + k := ⟨n - R.i.length, by omega⟩
      rw [ivs_append_right] at hn
      rw [← hR.li, getD_append_right]
      exact allHas_get h k iv hn
  l := hR.l
  f := hR.f
  p := fun q hq => by
    have := List.all_eq_true.1 hp q hq
    rw [B.den_push (by rw [hR.li]; exact Nat.le_refl _) q.1 this]
    exact hR.p q hq

theorem lvs_append_left : ∀ (a b : List (Iv × Int)) (n : Nat), n < a.length → lvs (a ++ b) n = lvs a n
  | [], _, _, h => by simp at h
  | _ :: _, _, 0, _ => rfl
  | _ :: a, b, n + 1, h => lvs_append_left a b n (by simpa using h)
theorem lvs_append_right : ∀ (a b : List (Iv × Int)) (n : Nat), lvs (a ++ b) (a.length + n) = lvs b n
  | [], _, _ => by simp
  | _ :: a, b, n => by
    rw [List.length_cons, show a.length + 1 + n = (a.length + n) + 1 by omega]
    exact lvs_append_right a b n
/-- Lists within bounds. -/
def allL : List (Iv × Int) → List (List Int) → Prop
  | [], [] => True
  | p :: r, l :: s => ((∀ x ∈ l, p.1.has x) ∧ (l.length : Int) ≤ p.2) ∧ allL r s
  | _, _ => False
theorem allL_length : ∀ {a : List (Iv × Int)} {ls : List (List Int)}, allL a ls → a.length = ls.length
  | [], [], _ => rfl
  | _ :: _, _ :: _, h => by simp [allL_length h.2]
  | [], _ :: _, h => h.elim
  | _ :: _, [], h => h.elim
theorem allL_get : ∀ {a : List (Iv × Int)} {ls : List (List Int)}, allL a ls → ∀ n p, lvs a n = some p → (∀ x ∈ ls.getD n [], p.1.has x) ∧ ((ls.getD n []).length : Int) ≤ p.2
  | [], _, _, _, _, hn => by cases hn
  | _ :: _, [], h, _, _, _ => h.elim
  | _ :: _, _ :: _, h, 0, p, hn => by
    simp only [lvs, Option.some.injEq] at hn
    subst hn
    exact h.1
  | _ :: _, _ :: _, h, n + 1, p, hn => allL_get h.2 n p hn

theorem RV.push2 (hR : RV Φ R ρ) {ivs' : List Iv} {ys : List Int} {lvs' : List (Iv × Int)} {zs : List (List Int)} (h : allHas ivs' ys) (hz : allL lvs' zs) (hp : R.p.all (fun q => q.1.sc R.i.length R.l.length) = true) :
    RV Φ (R.push2 ivs' lvs') (ρ.push2 ys zs) where
  li := by simp [Env.push2, Bds.push2, hR.li, allHas_length h]
  ll := by simp [Env.push2, Bds.push2, hR.ll, allL_length hz]
  i := fun n iv hn => by
    simp only [Bds.push2] at hn
    simp only [Env.push2]
    rcases Nat.lt_or_ge n R.i.length with h1 | h1
    · rw [ivs_append_left _ _ _ h1] at hn
      rw [getD_append_left (by rw [hR.li]; exact h1)]
      exact hR.i n iv hn
    · obtain ⟨k, rfl⟩ : ∃ k, n = R.i.length + k := ⟨n - R.i.length, by omega⟩
      rw [ivs_append_right] at hn
      rw [← hR.li, getD_append_right]
      exact allHas_get h k iv hn
  l := fun n p hn => by
    simp only [Bds.push2] at hn
    simp only [Env.push2]
    rcases Nat.lt_or_ge n R.l.length with h1 | h1
    · rw [lvs_append_left _ _ _ h1] at hn
      rw [getL_append_left (by rw [hR.ll]; exact h1)]
      exact hR.l n p hn
    · obtain ⟨k, rfl⟩ : ∃ k, n = R.l.length + k := ⟨n - R.l.length, by omega⟩
      rw [lvs_append_right] at hn
      rw [← hR.ll, getL_append_right]
      exact allL_get hz k p hn
  f := hR.f
  p := fun q hq => by
    have := List.all_eq_true.1 hp q hq
    rw [B.den_ext (push2_i (by rw [hR.li]; exact Nat.le_refl _)) (push2_l (by rw [hR.ll]; exact Nat.le_refl _)) q.1 this]
    exact hR.p q hq

theorem canon_den : ∀ (b : B), b.den Φ ρ = if (canon b).2 then (canon b).1.den Φ ρ else !(canon b).1.den Φ ρ
  | .not b => by
    have := canon_den b
    rw [show (canon (.not b)) = ((canon b).1, !(canon b).2) from rfl]
    simp only [B.den, this]
    cases (canon b).2 <;> simp
  | .le a b => by simp only [canon, B.den]; simp [← decide_not]
  | .lit _ | .lt _ _ | .eq _ _ | .and _ _ | .or _ _ | .beq _ _ | .leq _ _ => by simp [canon]

theorem lookP_ok (b : B) : ∀ (p : List (B × Bool)), (∀ q ∈ p, q.1.den Φ ρ = q.2) → ∀ v, lookP b p = some v → b.den Φ ρ = v
  | [], _, _, h => by simp [lookP] at h
  | (c, v) :: r, hp, w, h => by
    simp only [lookP] at h
    cases e : b.eqb c <;> simp only [e, cond_false, cond_true] at h
    · exact lookP_ok b r (fun q hq => hp q (List.mem_cons_of_mem _ hq)) w h
    · cases h
      rw [B.eqb_eq b c e]
      exact hp (c, v) List.mem_cons_self

theorem known_ok (hR : RV Φ R ρ) (b : B) (v : Bool) (h : known R.p b = some v) : b.den Φ ρ = v := by
  unfold known at h
  split at h
  · cases h; rfl
  · simp only [Option.map_eq_some_iff] at h
    obtain ⟨w, hw, h⟩ := h
    rw [canon_den, lookP_ok _ _ hR.p w hw]
    revert h
    cases (canon b).2 <;> simp

theorem setIv_length : ∀ (l : List Iv) (n : Nat) (f : Iv → Iv), (setIv l n f).length = l.length
  | [], _, _ => rfl
  | _ :: _, 0, _ => rfl
  | _ :: r, n + 1, f => by simp [setIv, setIv_length r n f]
theorem setIv_get : ∀ (l : List Iv) (n : Nat) (f : Iv → Iv) (k : Nat) (iv : Iv), ivs (setIv l n f) k = some iv →
    ∃ iv0, ivs l k = some iv0 ∧ ((k = n ∧ iv = f iv0) ∨ iv = iv0)
  | [], _, _, _, _, h => by simp [setIv, ivs] at h
  | a :: r, 0, f, 0, iv, h => by simp only [setIv, ivs, Option.some.injEq] at h; exact ⟨a, rfl, .inl ⟨rfl, h.symm⟩⟩
  | a :: r, 0, f, k + 1, iv, h => by simp only [setIv, ivs] at h; exact ⟨iv, h, .inr rfl⟩
  | a :: r, n + 1, f, 0, iv, h => by simp only [setIv, ivs, Option.some.injEq] at h; exact ⟨a, rfl, .inr h.symm⟩
  | a :: r, n + 1, f, k + 1, iv, h => by
    simp only [setIv, ivs] at h
    obtain ⟨iv0, h0, h1⟩ := setIv_get r n f k iv h
    exact ⟨iv0, h0, h1.imp (fun ⟨x, y⟩ => ⟨by omega, y⟩) id⟩

theorem refine_set (hi : ∀ n iv, ivs R.i n = some iv → iv.has (ρ.i.getD n 0)) {x : Nat} {f : Iv → Iv} (hf : ∀ iv, iv.has (ρ.i.getD x 0) → (f iv).has (ρ.i.getD x 0)) :
    ∀ n iv, ivs (setIv R.i x f) n = some iv → iv.has (ρ.i.getD n 0) := fun n iv h => by
  obtain ⟨iv0, h0, h1⟩ := setIv_get _ _ _ _ _ h
  rcases h1 with ⟨rfl, rfl⟩ | rfl
  · exact hf _ (hi _ _ h0)
  · exact hi _ _ h0

theorem refine_ok (hi : ∀ n iv, ivs R.i n = some iv → iv.has (ρ.i.getD n 0)) (b : B) (v : Bool) (h : b.den Φ ρ = v) :
    ∀ n iv, ivs (refine b v R.i) n = some iv → iv.has (ρ.i.getD n 0) := by
  have L1 (x : Nat) (k : Int) (h : ρ.i.getD x 0 < k) : ∀ n iv, ivs (setIv R.i x fun a => ⟨a.lo, imin a.hi (k - 1)⟩) n = some iv → iv.has (ρ.i.getD n 0) := by
    refine refine_set hi fun iv hv => ⟨hv.1, ?_⟩
    have := hv.2
    show _ ≤ imin _ _
    rcases imin_cases iv.hi (k - 1) with e | e <;> rw [e] <;> omega
  have L2 (x : Nat) (k : Int) (h : ¬ ρ.i.getD x 0 < k) : ∀ n iv, ivs (setIv R.i x fun a => ⟨imax a.lo k, a.hi⟩) n = some iv → iv.has (ρ.i.getD n 0) := by
    refine refine_set hi fun iv hv => ⟨?_, hv.2⟩
    have := hv.1
    show imax _ _ ≤ _
    rcases imax_cases iv.lo k with e | e <;> rw [e] <;> omega
  have L3 (x : Nat) (k : Int) (h : k < ρ.i.getD x 0) : ∀ n iv, ivs (setIv R.i x fun a => ⟨imax a.lo (k + 1), a.hi⟩) n = some iv → iv.has (ρ.i.getD n 0) := by
    refine refine_set hi fun iv hv => ⟨?_, hv.2⟩
    have := hv.1
    show imax _ _ ≤ _
    rcases imax_cases iv.lo (k + 1) with e | e <;> rw [e] <;> omega
  have L4 (x : Nat) (k : Int) (h : ¬ k < ρ.i.getD x 0) : ∀ n iv, ivs (setIv R.i x fun a => ⟨a.lo, imin a.hi k⟩) n = some iv → iv.has (ρ.i.getD n 0) := by
    refine refine_set hi fun iv hv => ⟨hv.1, ?_⟩
    have := hv.2
    show _ ≤ imin _ _
    rcases imin_cases iv.hi k with e | e <;> rw [e] <;> omega
  have L5 (x : Nat) (k : Int) (h : ρ.i.getD x 0 = k) : ∀ n iv, ivs (setIv R.i x fun a => ⟨imax a.lo k, imin a.hi k⟩) n = some iv → iv.has (ρ.i.getD n 0) := by
    refine refine_set hi fun iv hv => ⟨?_, ?_⟩
    · have := hv.1
      show imax _ _ ≤ _
      rcases imax_cases iv.lo k with e | e <;> rw [e] <;> omega
    · have := hv.2
      show _ ≤ imin _ _
      rcases imin_cases iv.hi k with e | e <;> rw [e] <;> omega
  have L6 (x : Nat) (k : Int) (h : ¬ ρ.i.getD x 0 = k) : ∀ n iv, ivs (setIv R.i x fun a => ⟨bif ile a.lo k && ile k a.lo then k + 1 else a.lo, bif ile a.hi k && ile k a.hi then k - 1 else a.hi⟩) n = some iv → iv.has (ρ.i.getD n 0) := by
    refine refine_set hi fun iv hv => ⟨?_, ?_⟩
    · have := hv.1
      show (bif ile iv.lo k && ile k iv.lo then k + 1 else iv.lo) ≤ _
      cases e : (ile iv.lo k && ile k iv.lo) <;> simp only [cond_false, cond_true]
      · omega
      · simp only [Bool.and_eq_true, ile_iff] at e; omega
    · have := hv.2
      show _ ≤ (bif ile iv.hi k && ile k iv.hi then k - 1 else iv.hi)
      cases e : (ile iv.hi k && ile k iv.hi) <;> simp only [cond_false, cond_true]
      · omega
      · simp only [Bool.and_eq_true, ile_iff] at e; omega
  cases b with
  | lt a b =>
    simp only [B.den] at h
    cases a with
    | var x => cases b with
      | lit k =>
        simp only [E.den] at h
        cases v
        · exact L2 x k (by simpa using h)
        · exact L1 x k (by simpa using h)
      | _ => exact hi
    | lit k => cases b with
      | var x =>
        simp only [E.den] at h
        cases v
        · exact L4 x k (by simpa using h)
        · exact L3 x k (by simpa using h)
      | _ => exact hi
    | _ => exact hi
  | eq a b =>
    simp only [B.den] at h
    cases a with
    | var x => cases b with
      | lit k =>
        simp only [E.den] at h
        cases v
        · exact L6 x k (by simpa using h)
        · exact L5 x k (by simpa using h)
      | _ => exact hi
    | _ => exact hi
  | _ => exact hi

theorem refine_length (b : B) (v : Bool) (i : List Iv) : (refine b v i).length = i.length := by
  unfold refine; split <;> simp [setIv_length]

theorem RV.assume (hR : RV Φ R ρ) (b : B) (v : Bool) (h : b.den Φ ρ = v) : RV Φ (R.assume b v) ρ := by
  have hc : (canon b).1.den Φ ρ = (bif (canon b).2 then v else !v) := by
    have := canon_den (Φ := Φ) (ρ := ρ) b
    rw [h] at this
    revert this
    cases (canon b).2 <;> cases v <;> simp <;> intro h <;> simp [h]
  unfold Bds.assume
  exact {
    li := by rw [hR.li]; exact (refine_length _ _ _).symm
    ll := hR.ll
    i := refine_ok hR.i _ _ hc
    l := hR.l
    f := hR.f
    p := fun q hq => by
      cases hq with
      | head => exact hc
      | tail _ hq => exact hR.p q hq }
end
end Go.Proofs.YtelfpnkhdaaeoaaDoor.Sx
