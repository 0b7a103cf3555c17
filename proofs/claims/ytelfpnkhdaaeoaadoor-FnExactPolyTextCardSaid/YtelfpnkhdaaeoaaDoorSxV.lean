/-
  The symbolic executor: lists that grow.
-/
import Derived.Test.YtelfpnkhdaaeoaaDoorSxU
import Derived.Test.YtelfpnkhdaaeoaaDoorSxI
import Derived.Laws.AppendOwn
namespace Go.Proofs.YtelfpnkhdaaeoaaDoor.Sx
open Go Go.RowKit

section
variable {C : Cfg} {R : Bds} {X : Ctx} {d : Dn} {w : World} {hp : List (Option Reg)} {v : Operand → Option SV} {e : Operand → Value} {Pr : Pres} {rd : Nat → Option Reg} {r : Res} {o : Oper} {new : Nat}

theorem two_args {v : Operand → Option SV} {e : Operand → Value} {hp : List (Option Reg)} {l : List Operand} {x y : SV} (hv : Reads d hp v e) (h : svs v l = some [x, y]) : ∃ p q, l = [p, q] ∧ x.is d (e p) ∧ y.is d (e q) := by
  obtain ⟨l1, l2, _⟩ := svs_spec hv h
  match l, l1 with
  | [p, q], _ => exact ⟨p, q, rfl, l2 0 x (e p) rfl (by simp), l2 1 y (e q) rfl (by simp)⟩
  | [], l1 => simp at l1
  | [_], l1 => simp at l1
  | _ :: _ :: _ :: _, l1 => simp at l1

/-- The old number of a block stands for nothing any more. -/
theorem HP.dead (hP : HP X d hp w) {id : Nat} {g : Reg} (hg : getH hp id = some g) {ks : List EK} {ty : TypeId} : HP X d (setH hp id (some ⟨[], false, ty, some (ks, .lit [])⟩)) w where
  bl := hP.bl
  pin := hP.pin.agree (Agree.refl _ _) (Has.setH id _)
  reg := fun k q hq => by
    by_cases h : id = k
    · subst h
      rw [getH_setH_same _ _ _ (getH_lt hg)] at hq
      cases hq
      unfold RegIs
      refine ⟨rfl, ⟨fun i x hx => (by simp [L.den] at hx), by simp [L.den]⟩, fun _ => rfl, ?_⟩
      show (if false = true then _ else _)
      rw [if_neg (by decide)]
      exact fun hne => absurd rfl hne
    · rw [getH_setH_ne _ _ _ _ h] at hq
      exact hP.reg _ _ hq
  sep := fun i j ri rj hi hj oi oj hij => by
    have get : ∀ k q, getH (setH hp id (some ⟨[], false, ty, some (ks, .lit [])⟩)) k = some q → q.own = true → getH hp k = some q := fun k q hq hqo => by
      by_cases h : id = k
      · subst h
        rw [getH_setH_same _ _ _ (getH_lt hg)] at hq
        cases hq; cases hqo
      · rwa [getH_setH_ne _ _ _ _ h] at hq
    exact hP.sep i j ri rj (get i ri hi oi) (get j rj hj oj) oi oj hij
  ids := fun k q hq c hc => by
    by_cases h : id = k
    · subst h
      rw [getH_setH_same _ _ _ (getH_lt hg)] at hq
      cases hq; cases hc
    · rw [getH_setH_ne _ _ _ _ h] at hq
      exact Cell.ok_mono (Has.setH id _) (hP.ids _ _ hq c hc)
/-- A block of the call's own that no number stands for is changed. -/
theorem HP.cutFree (hP : HP X d hp w) {b : Nat} (hb : X.Mine b) (hf : ∀ i ri, getH hp i = some ri → ri.own = true → (d.α i).1 ≠ b) {w' : World} {ob : Obj} (hw : Cut w w' b ob) : HP X d hp w' where
  bl := hP.bl.step hw.os hw.tape hw.output (by rw [hw.size]; exact Nat.le_refl _) (fun k hk => hw.other k (fun e => hk (by rw [e]; exact hb)))
  reg := fun k q hq => (hP.reg _ _ hq).move rfl rfl rfl rfl rfl (SameTl.refl _ _) fun ho => hw.other _ (hf k q hq ho)
  sep := hP.sep
  ids := hP.ids
  pin := hP.pin

theorem mkCat_den (Φ : Fns) (ρ : Env) (a b : L) : (mkCat a b).den Φ ρ = a.den Φ ρ ++ b.den Φ ρ := by
  unfold mkCat
  split <;> simp [L.den]
theorem cellsL_spec (hR : RV d.Φ R d.ρ) {ks : List EK} : ∀ {cs : List Cell} {i : Nat} {l : L}, cellsL R ks i cs = some l → cs.map (Cell.den d) = (l.den d.Φ d.ρ).mapIdx (fun j x => evl (kindAt ks (i + j)) x) ∧ ∀ j x, (l.den d.Φ d.ρ)[j]? = some x → (eiv (kindAt ks (i + j))).has x
  | [], i, l, h => by
    simp only [cellsL, Option.some.injEq] at h
    subst h
    exact ⟨rfl, fun j x hx => (by simp [L.den] at hx)⟩
  | c :: r, i, l, h => by
    simp only [cellsL] at h
    split at h
    · rename_i x l' hx hl
      cases h
      obtain ⟨k1, k2⟩ := kdE_spec hR hx
      obtain ⟨i1, i2⟩ := cellsL_spec hR hl
      rw [mkCat_den]
      have e1 : (L.one x).den d.Φ d.ρ ++ l'.den d.Φ d.ρ = x.den d.Φ d.ρ :: l'.den d.Φ d.ρ := rfl
      rw [e1]
      have e2 : ∀ j, i + 1 + j = i + (j + 1) := fun j => by omega
      refine ⟨?_, fun j y hy => ?_⟩
      · simp only [List.map_cons, i1, List.mapIdx_cons, Nat.add_zero, e2, k1]
        rfl
      · cases j with
        | zero =>
          simp only [List.getElem?_cons_zero, Option.some.injEq] at hy
          subst hy
          exact k2
        | succ j =>
          simp only [List.getElem?_cons_succ] at hy
          have := i2 j y hy
          rwa [e2] at this
    · cases h
theorem kindAt_add {ks : List EK} {a i : Nat} (h : a % ks.length = 0) : kindAt ks (i + a) = kindAt ks i := by
  unfold kindAt
  rw [Nat.add_mod, h, Nat.add_zero, Nat.mod_mod]
theorem numsV_append {ks : List EK} {a b : List Int} (h : a.length % ks.length = 0) : numsV ks (a ++ b) = numsV ks a ++ numsV ks b := by
  unfold numsV
  rw [List.mapIdx_append]
  simp only [kindAt_add h]
theorem numsV_len (ks : List EK) (a : List Int) : (numsV ks a).length = a.length := by simp [numsV]
theorem Kinds.append {ks : List EK} {a b : List Int} (ha : Kinds ks a) (hb : Kinds ks b) : Kinds ks (a ++ b) := by
  refine ⟨fun i x hx => ?_, by rw [List.length_append, Nat.add_mod, ha.2, hb.2]; simp⟩
  rw [List.getElem?_append] at hx
  split at hx
  · exact ha.1 i x hx
  · rename_i hi
    have := hb.1 _ x hx
    have e : kindAt ks i = kindAt ks (i - a.length) := by
      have := kindAt_add (i := i - a.length) ha.2
      rwa [Nat.sub_add_cancel (by omega)] at this
    rw [e]; exact this
theorem numsV_one (k : EK) (xs : List Int) : numsV [k] xs = xs.map (evl k) := by
  unfold numsV
  apply List.ext_getElem?
  intro i
  rw [List.getElem?_mapIdx, List.getElem?_map]
  simp [kindAt, Nat.mod_one]
theorem kinds_one {k : EK} {xs : List Int} (h : ∀ x ∈ xs, (eiv k).has x) : Kinds [k] xs :=
  ⟨fun i x hx => by simp only [kindAt, List.length_singleton, Nat.mod_one, List.getD_cons_zero]; exact h x (List.mem_of_getElem? hx), by simp [Nat.mod_one]⟩
theorem Kinds.one {k : EK} {xs : List Int} (h : Kinds [k] xs) : ∀ x ∈ xs, (eiv k).has x := fun x hx => by
  obtain ⟨i, hi, rfl⟩ := List.getElem_of_mem hx
  have := h.1 i _ (List.getElem?_eq_getElem hi)
  simpa [kindAt, Nat.mod_one] using this

theorem addr_add (b o i : Nat) : (Addr.mk b o none).add i = ⟨b, o + i, none⟩ := by
  unfold Addr.add
  split
  · rename_i e0; rw [e0]; rfl
  · rfl

/-- What is appended lies somewhere, and is not nothing. -/
theorem appNew_spec (hR : RV d.Φ R d.ρ) (hP : HP X d hp w) (hrd : ∀ id r, rd id = some r → getH hp id = some r) {ks : List EK} (hs0 : 0 < ks.length) {em : Bool} {x : Cell} {ln : L} {os : List O}
    (h : appNew R rd ks em x = some (ln, os)) (hos : OsHold d.Φ Pr d.ρ os) : ∃ (ad : Addr) (n cap : Nat), x.den d = .slice (some ad) n cap ∧ (em = false → 1 ≤ n) ∧ (ln.den d.Φ d.ρ).length = n * ks.length ∧ Kinds ks (ln.den d.Φ d.ρ) ∧
      ∀ j u, (numsV ks (ln.den d.Φ d.ρ))[j]? = some u → w.cell? (ad.add j) = some u := by
  unfold appNew at h
  split at h
  · rename_i id' off n cap
    split at h
    rotate_left
    · cases h
    rename_i g' hg'
    cases c1 : (g'.tl.isNone && (Nat.ble 1 n && Nat.ble (off + n * ks.length) g'.cs.length)) <;> simp only [c1, cond_false, cond_true] at h
    · cases h
    simp only [Bool.and_eq_true] at c1
    obtain ⟨_, c2, c3⟩ := c1
    have c2 := Nat.le_of_ble_eq_true c2
    have c3 := Nat.le_of_ble_eq_true c3
    have hg' := hrd _ _ hg'
    simp only [Option.map_eq_some_iff] at h
    obtain ⟨_, hnew, h⟩ := h
    cases h
    obtain ⟨n1, n2⟩ := cellsL_spec hR hnew
    simp only [Nat.zero_add] at n1 n2
    have n1 : ((g'.cs.drop off).take (n * ks.length)).map (Cell.den d) = numsV ks (ln.den d.Φ d.ρ) := n1
    have nlen : (ln.den d.Φ d.ρ).length = n * ks.length := by
      have := congrArg List.length n1
      simp only [List.length_map, List.length_take, List.length_drop, numsV_len] at this
      omega
    have nk : Kinds ks (ln.den d.Φ d.ρ) := ⟨n2, by rw [nlen, Nat.mul_mod_left]⟩
    refine ⟨⟨(d.α id').1, (d.α id').2 + off, none⟩, n, cap, rfl, fun _ => c2, nlen, nk, fun j u hu => ?_⟩
    rw [← n1, List.getElem?_map, Option.map_eq_some_iff] at hu
    obtain ⟨cl, hcl, rfl⟩ := hu
    have := drop_take_get hcl
    rw [addr_add, Nat.add_assoc]
    exact (hP.reg _ _ hg').cell hP.bl this.1
  · rename_i id s off len
    split at h
    rotate_left
    · cases h
    rename_i g hg
    split at h
    rotate_left
    · cases h
    rename_i ks' l htl
    cases c1 : (decide (ks' = ks) && (Nat.beq s ks.length && (off.eqb (.lit 0) && len.eqb (nelE l s)))) <;> simp only [c1, cond_false, cond_true] at h
    · cases h
    cases h
    simp only [Bool.and_eq_true, decide_eq_true_eq] at c1
    obtain ⟨e1, e2, e3, e4⟩ := c1
    have e2 := Nat.eq_of_beq_eq_true e2
    have e3 := E.eqb_eq _ _ e3
    have e4 := E.eqb_eq _ _ e4
    subst e1 e2 e3 e4
    have hlt : (em && g.own) = false → (0 : Int) < (ln.den d.Φ d.ρ).length := fun he => by
      rw [he] at hos
      have hlt := must_hold hos
      rw [mkLt_den hR] at hlt
      have hlt := of_decide_eq_true hlt
      simpa only [E.den] using hlt
    have hg := hrd _ _ hg
    have hreg := hP.reg _ _ hg
    unfold RegIs at hreg
    rw [htl] at hreg
    obtain ⟨_, hK, hno, hreg⟩ := hreg
    simp only at hK hno hreg
    have hown : d.κ id = none → g.own = false := fun hκ => by
      cases ho : g.own with
      | false => rfl
      | true =>
        rw [if_pos ho] at hreg
        obtain ⟨_, _, _, _, _, h, _⟩ := hreg
        rw [hκ] at h; cases h
    obtain ⟨p, hp'⟩ : ∃ p, (ln.den d.Φ d.ρ).length = p * ks'.length := ⟨(ln.den d.Φ d.ρ).length / ks'.length, by
      have := Nat.div_add_mod (ln.den d.Φ d.ρ).length ks'.length
      rw [hK.2, Nat.add_zero, Nat.mul_comm] at this
      exact this.symm⟩
    have hp1 : em = false → 1 ≤ p := fun he => by
      have hlt := hlt (by rw [he]; rfl)
      rcases Nat.eq_zero_or_pos p with h0 | h0
      · rw [h0, Nat.zero_mul] at hp'; omega
      · exact h0
    have hnel : (nelE ln ks'.length).den d.Φ d.ρ = (p : Int) := by rw [nelE_nat, hp', Nat.mul_div_cancel _ hs0]
    cases hκ : d.κ id with
    | none =>
      have hlt := hlt (by rw [hown hκ, Bool.and_false])
      rw [hno hκ] at hlt; simp at hlt
    | some cp =>
      refine ⟨⟨(d.α id).1, (d.α id).2, none⟩, p, cp, ?_, hp1, hp', hK, ?_⟩
      · simp only [Cell.den, hκ, E.den, hnel]
        simp
      · intro j u hu
        have hj : ∃ x, (ln.den d.Φ d.ρ)[j]? = some x ∧ u = evl (kindAt ks' j) x := by
          unfold numsV at hu
          rw [List.getElem?_mapIdx, Option.map_eq_some_iff] at hu
          obtain ⟨x, h1, h2⟩ := hu
          exact ⟨x, h1, h2.symm⟩
        obtain ⟨x, hx, rfl⟩ := hj
        rw [addr_add]
        cases ho : g.own with
        | true =>
          rw [if_pos ho] at hreg
          obtain ⟨h0, _, rest, e, hb, _, _⟩ := hreg
          rw [h0, Nat.zero_add]
          have hjl : j < (numsV ks' (ln.den d.Φ d.ρ)).length := (List.getElem?_eq_some_iff.1 hu).1
          simp only [World.cell?, hb]
          rw [List.getElem?_toArray, List.getElem?_append_left hjl, hu]
          rfl
        | false =>
          rw [if_neg (by rw [ho]; exact Bool.false_ne_true)] at hreg
          have hne : ln.den d.Φ d.ρ ≠ [] := fun e => by
            have hlt := hlt (by rw [ho, Bool.and_false])
            rw [e] at hlt; simp at hlt
          obtain ⟨hm, hc, _⟩ := hreg hne
          have := hc j x hx
          rw [← hP.bl.cell (p := ⟨(d.α id).1, (d.α id).2 + j, none⟩) hm] at this
          exact this
  · cases h

theorem op_app (hR : RV d.Φ R d.ρ) (hos : OsHold d.Φ Pr d.ρ r.os) (hP : HP X d hp w) (hv : Reads d hp v e) (hrd : ∀ id r, rd id = some r → getH hp id = some r)
    {c : Call} (ho : appOp o.op = some c) (h : appRun C R v rd new c = some r) (hn : getH hp new = none) (hl : new < hp.length) :
    ∃ q w', (execOp e o).run C.P w = .ok (.value q) w' ∧ Aft X d hp (wrAll hp r.wr) r.val q w' := by
  have hop : o.op = .call c ∧ c.callee = .builtin .append := by
    unfold appOp at ho
    split at ho
    · rename_i c' hop
      split at ho
      · rename_i hc
        cases ho
        exact ⟨hop, hc⟩
      · cases ho
    · cases ho
  obtain ⟨hop, hc⟩ := hop
  unfold appRun at h
  split at h
  · rename_i s x t t' hs hts
    cases ct : Nat.beq t t' <;> simp only [ct, cond_false, cond_true] at h
    · cases h
    have ct := Nat.eq_of_beq_eq_true ct
    subst ct
    split at h
    · rename_i el ks bytes hmk
      split at h
      · rename_i ln osn l old hnew hold
        cases cb : Nat.ble bytes 128 <;> simp only [cb, cond_false, cond_true] at h
        · cases h
        have cb := Nat.le_of_ble_eq_true cb
        cases h
        have hlen := must_hold hos.right
        rw [mkLe_den hR] at hlen
        have hlen := of_decide_eq_true hlen
        simp only [E.den, mkCat_den] at hlen
        have hlen : (((l.den d.Φ d.ρ) ++ (ln.den d.Φ d.ρ)).length : Int) ≤ 1099511627776 := hlen
        -- the types
        unfold makeKs at hmk
        split at hmk
        rotate_left
        · cases hmk
        rename_i el' hu
        split at hmk
        rotate_left
        · cases hmk
        rename_i i hi
        split at hmk
        rotate_left
        · cases hmk
        rename_i z hz
        split at hmk
        rotate_left
        · cases hmk
        rename_i ks' hks
        cases cc : (Nat.beq i.size ks'.length && Nat.blt 0 ks'.length) <;> simp only [cc, cond_false, cond_true] at hmk
        · cases hmk
        cases hmk
        simp only [Bool.and_eq_true, Nat.beq_eq, Nat.blt_eq] at cc
        obtain ⟨cc1, cc2⟩ := cc
        have hs0 : 0 < ks.length := cc2
        obtain ⟨hosn, hos⟩ := (⟨hos.left, hos.right⟩ : OsHold d.Φ Pr d.ρ osn ∧ _)
        obtain ⟨ad, n, cap, nx, c2, nlen, nk, hnews⟩ := appNew_spec hR hP hrd hs0 hnew hosn
        have isz : i.size = ks.length := cc1
        have hzs : z.cells.size = ks.length := by
          have := congrArg List.length (zeroKs_spec hks)
          simpa using this
        obtain ⟨y, q, ha, h1, h2⟩ := two_args hv hs
        obtain ⟨l1, l2, l3⟩ := svs_spec hv hs
        have hsok : (SV.one s).ok d hp := l3 _ (by simp)
        simp only [SV.is, nx] at h1 h2
        simp only [Cell.den] at h1
        have hargs : c.args = #[y, q] := by rw [← Array.toArray_toList (xs := c.args), ha]
        have hty : c.argTypes = #[t, t] := by rw [← Array.toArray_toList (xs := c.argTypes), hts]
        have hm : c.args.map e = #[e y, e q] := by rw [hargs]; simp
        have hnl : (numsV ks (ln.den d.Φ d.ρ)).length = n * i.size := by rw [numsV_len, nlen, isz]
        have run : ∀ q' w', (Builtin.append_ #[t, t] o.type #[e y, e q]).run C.P w = .ok q' w' → (execOp e o).run C.P w = .ok (.value q') w' := fun q' w' hr => by
          simp only [execOp, hop, resolve, hc, Sem.run_bind, Sem.run_pure, Result.andThen_ok, invoke, builtin, hm, hty, hr]
        have zl : ∀ m, (Builtin.zeroCells z.cells m).toList.length = m * ks.length := fun m => by
          rw [Array.length_toList, size_zeroCells, hzs]
        have nle : n ≤ n * ks.length := Nat.le_mul_of_pos_right n hs0
        -- a new block
        have fresh : ∀ (hp1 : List (Option Reg)) (l1 : L) (w1 : World) (cp m : Nat), HP X d hp1 w → getH hp1 new = none → new < hp1.length → (∀ i ri, getH hp1 i = some ri → ri.own = true → (d.α i).1 < w.heap.size) →
            Kinds ks (l1.den d.Φ d.ρ) → (l1.den d.Φ d.ρ).length = m * ks.length → m ≤ cp → w1 = w.drew.alloc (.cells ((numsV ks (l1.den d.Φ d.ρ)).toArray ++ Builtin.zeroCells z.cells (cp - m)) el) →
            ∃ d', Agree hp1 d d' ∧ Has hp1 (setH hp1 new (some ⟨[], true, el, some (ks, l1)⟩)) ∧ HP X d' (setH hp1 new (some ⟨[], true, el, some (ks, l1)⟩)) w1 ∧ d'.α new = (w.heap.size, 0) ∧ d'.κ new = some cp := fun hp1 l1 w1 cp m hP1 hn1 hl1 hlt hk1 hm1 hcp hw1 => by
          subst hw1
          have hP' := hP1.regs (w' := w.drew.alloc (.cells ((numsV ks (l1.den d.Φ d.ρ)).toArray ++ Builtin.zeroCells z.cells (cp - m)) el)) (((Below.refl w.heap.size w).drew).alloc (Nat.le_refl _) _)
          refine hP'.addL (new := new) (b := w.heap.size) (c := cp) (ks := ks) (l := l1) (ty := el) hn1 hl1 hk1 (.inl hP.bl.size) (fun j rj hj oj => by have := hlt j rj hj oj; omega)
            (rest := (Builtin.zeroCells z.cells (cp - m)).toList) ?_ ?_
          · show (w.drew.heap.push _)[w.heap.size]? = _
            rw [Array.getElem?_push]
            have : w.heap.size = w.drew.heap.size := rfl
            rw [if_pos this]
            congr 2
            apply Array.ext'
            simp
          · rw [zl, hm1, ← Nat.add_mul, Nat.add_sub_cancel' hcp]
        have fin : ∀ (hp1 : List (Option Reg)) (m cp : Nat) (b : Nat) (d' : Dn), ((mkCat l ln).den d.Φ d.ρ).length = m * ks.length → Agree hp1 d d' → d'.α new = (b, 0) → d'.κ new = some cp → getH (setH hp1 new (some ⟨[], true, el, some (ks, mkCat l ln)⟩)) new = some ⟨[], true, el, some (ks, mkCat l ln)⟩ →
            SV.is d' (.one (.sl new ks.length (.lit 0) (nelE (mkCat l ln) ks.length))) (.slice (some ⟨b, 0, none⟩) m cp) ∧ SV.ok d' (setH hp1 new (some ⟨[], true, el, some (ks, mkCat l ln)⟩)) (.one (.sl new ks.length (.lit 0) (nelE (mkCat l ln) ks.length))) := fun hp1 m cp b d' hl1 ag a4 a5 hgn => by
          have hnel : (nelE (mkCat l ln) ks.length).den d'.Φ d'.ρ = (m : Int) := by
            rw [nelE_nat, ag.Φ, ag.ρ, hl1, Nat.mul_div_cancel _ hs0]
          refine ⟨?_, ?_, Int.le_refl _, ?_⟩
          · simp only [SV.is, Cell.den, hnel, a4, a5, Int.toNat_natCast, E.den]
            simp
          · rw [hgn]; rfl
          · rw [nelE_nat]; exact Int.natCast_nonneg _
        unfold appOld at hold
        split at hold
        · -- to a nil slice
          cases hold
          have c2 := c2 rfl
          have e0 : mkCat (.lit []) ln = ln := by unfold mkCat; rfl
          have hrun := run_append_nil (P := C.P) w t o.type el i z hu hi hz ad n cap _ hnl hnews (by omega) (by simp only [List.length_append] at hlen; omega) (by
            have h3 : n * i.bytes ≤ 1099511627776 * 128 := Nat.mul_le_mul (by simp only [List.length_append] at hlen; omega) cb
            omega)
          have hy : e y = .slice none 0 0 := h1
          rw [← hy, ← h2] at hrun
          have hge := grownCap_ge w n 0 el
          have e4 : ((mkCat (.lit []) ln).den d.Φ d.ρ) = ln.den d.Φ d.ρ := by rw [e0]
          obtain ⟨d', a1, a2, a3, a4, a5⟩ := fresh hp (mkCat (.lit []) ln) _ (grownCap w n 0 el) n hP hn hl (fun j rj hj oj => hP.lt hj oj) (by rw [e4]; exact nk) (by rw [e4, nlen]) hge rfl
          obtain ⟨f1, f2⟩ := fin hp n _ _ d' (by rw [e4, nlen]) a1 a4 a5 (getH_setH_same _ _ _ hl)
          refine ⟨_, _, run _ _ hrun, d', a1, a2, ?_, f1, f2⟩
          rw [e4] at a3
          exact a3
        · -- to a list of the call's own
          rename_i id s' off' len'
          split at hold
          rotate_left
          · cases hold
          rename_i g hg
          split at hold
          rotate_left
          · cases hold
          rename_i ks2 lo htl
          cases c4 : (g.own && (Nat.beq g.ty el && (decide (ks2 = ks) && (Nat.beq s' ks.length && (off'.eqb (.lit 0) && len'.eqb (nelE lo s')))))) <;> simp only [c4, cond_false, cond_true] at hold
          · cases hold
          cases hold
          simp only [Bool.and_eq_true, decide_eq_true_eq] at c4
          obtain ⟨o1, o2, o3, o4, o5, o6⟩ := c4
          have o2 := Nat.eq_of_beq_eq_true o2
          have o4 := Nat.eq_of_beq_eq_true o4
          have o5 := E.eqb_eq _ _ o5
          have o6 := E.eqb_eq _ _ o6
          have o3 := o3.symm
          subst o3 o4 o5 o6
          have hg := hrd _ _ hg
          have hreg := hP.reg _ _ hg
          have hat := hreg.at o1
          unfold RegIs at hreg
          rw [htl] at hreg
          obtain ⟨_, hK, _, hreg⟩ := hreg
          rw [if_pos o1] at hreg
          obtain ⟨ha0, hb0, rest, cp, hb, hκ, hcap⟩ := hreg
          simp only at hb hK hcap
          rw [o2] at hb
          obtain ⟨p, hp'⟩ : ∃ p, (l.den d.Φ d.ρ).length = p * ks.length := ⟨(l.den d.Φ d.ρ).length / ks.length, by
            have := Nat.div_add_mod (l.den d.Φ d.ρ).length ks.length
            rw [hK.2, Nat.add_zero, Nat.mul_comm] at this
            exact this.symm⟩
          have hpcp : p ≤ cp := Nat.le_of_mul_le_mul_right (show p * ks.length ≤ cp * ks.length by omega) hs0
          have hy : e y = .slice (some ⟨(d.α id).1, 0, none⟩) p cp := by
            rw [h1]
            simp only [hκ, E.den, ha0]
            have : (nelE l ks.length).den d.Φ d.ρ = (p : Int) := by rw [nelE_nat, hp', Nat.mul_div_cancel _ hs0]
            rw [this]
            simp
          have hne : id ≠ new := fun h => by rw [← h, hg] at hn; cases hn
          let hp1 := setH hp id (some (⟨[], false, el, some (ks, .lit [])⟩ : Reg))
          have hP1 : HP X d hp1 w := hP.dead hg
          have hn1 : getH hp1 new = none := by rw [getH_setH_ne _ _ _ _ hne]; exact hn
          have hl1 : new < hp1.length := by rw [setH_length]; exact hl
          have some1 : ∀ k, (getH hp1 k).isSome = (getH hp k).isSome := fun k => by
            by_cases h : id = k
            · subst h
              rw [getH_setH_same _ _ _ (getH_lt hg), hg]; rfl
            · rw [getH_setH_ne _ _ _ _ h]
          have own1 : ∀ j rj, getH hp1 j = some rj → rj.own = true → getH hp j = some rj ∧ j ≠ id := fun j rj hj oj => by
            by_cases h : id = j
            · subst h
              rw [getH_setH_same _ _ _ (getH_lt hg)] at hj
              cases hj; cases oj
            · rw [getH_setH_ne _ _ _ _ h] at hj
              exact ⟨hj, fun e => h e.symm⟩
          have back : ∀ d', Agree hp1 d d' → Agree hp d d' := fun d' ag => ⟨ag.Φ, ag.ρ, fun j hj => ag.α j (by rw [some1]; exact hj), fun j hj => ag.κ j (by rw [some1]; exact hj)⟩
          have hasb : Has hp (wrAll hp ([(id, (⟨[], false, el, some (ks, .lit [])⟩ : Reg))] ++ [(new, (⟨[], true, el, some (ks, mkCat l ln)⟩ : Reg))])) := fun j hj => by
            show (getH (setH hp1 new _) j).isSome = true
            by_cases h : new = j
            · subst h; rw [getH_setH_same _ _ _ hl1]; rfl
            · rw [getH_setH_ne _ _ _ _ h, some1]; exact hj
          have hcat : (mkCat l ln).den d.Φ d.ρ = l.den d.Φ d.ρ ++ ln.den d.Φ d.ρ := mkCat_den _ _ _ _
          have hclen : ((mkCat l ln).den d.Φ d.ρ).length = (p + n) * ks.length := by rw [hcat, List.length_append, nlen, hp', Nat.add_mul]
          have hpn : p + n ≤ (p + n) * ks.length := Nat.le_mul_of_pos_right _ hs0
          have hlen' : (p + n) * ks.length ≤ 1099511627776 := by
            have e5 : (l.den d.Φ d.ρ ++ ln.den d.Φ d.ρ).length = (p + n) * ks.length := by rw [← hcat, hclen]
            rw [e5] at hlen
            omega
          have hkc : Kinds ks ((mkCat l ln).den d.Φ d.ρ) := by rw [hcat]; exact hK.append nk
          by_cases hroom : p + n ≤ cp
          · -- in place
            have hrl : n * ks.length ≤ rest.length := by
              have : (p + n) * ks.length ≤ cp * ks.length := Nat.mul_le_mul_right _ hroom
              rw [Nat.add_mul] at this
              omega
            have hrun := run_append_room (P := C.P) w t o.type el i hu hi (d.α id).1 p cp _ hb ad n cap _ hnl hnews
              (fun u hu => by
                simp only [numsV, List.mem_mapIdx] at hu
                obtain ⟨_, _, rfl⟩ := hu
                exact evl_one _ _) hroom (by
                simp only [isz, numsV_len, nlen, List.size_toArray, List.length_append, hp']
                omega)
            rw [← hy, ← h2] at hrun
            simp only [isz, numsV_len, nlen] at hrun
            have hcells : ((numsV ks (l.den d.Φ d.ρ) ++ rest).take (p * ks.length) ++ numsV ks (ln.den d.Φ d.ρ) ++ (numsV ks (l.den d.Φ d.ρ) ++ rest).drop (p * ks.length + n * ks.length)) =
                numsV ks ((mkCat l ln).den d.Φ d.ρ) ++ rest.drop (n * ks.length) := by
              rw [hcat, numsV_append hK.2]
              have e1 : (numsV ks (l.den d.Φ d.ρ) ++ rest).take (p * ks.length) = numsV ks (l.den d.Φ d.ρ) :=
                List.take_left' (by rw [numsV_len, hp'])
              have e2 : (numsV ks (l.den d.Φ d.ρ) ++ rest).drop (p * ks.length + n * ks.length) = rest.drop (n * ks.length) := by
                rw [← List.drop_drop]
                congr 1
                exact List.drop_left' (by rw [numsV_len, hp'])
              rw [e1, e2]
            rw [hcells] at hrun
            have hcut : Cut w (w.setRow (d.α id).1 (numsV ks ((mkCat l ln).den d.Φ d.ρ) ++ rest.drop (n * ks.length)).toArray) (d.α id).1 (.cells (numsV ks ((mkCat l ln).den d.Φ d.ρ) ++ rest.drop (n * ks.length)).toArray el (0, 0)) :=
              ⟨rfl, rfl, rfl, by simp [World.setRow], fun j hj => setRow_other w (d.α id).1 j _ hj, setRow_heap w (d.α id).1 _ _ el _ hb⟩
            have hfree : ∀ j rj, getH hp1 j = some rj → rj.own = true → (d.α j).1 ≠ (d.α id).1 := fun j rj hj oj => by
              obtain ⟨k1, k2⟩ := own1 j rj hj oj
              exact hP.sep j id rj g k1 hg oj o1 k2
            have hP2 := hP1.cutFree hb0 hfree hcut
            obtain ⟨d', a1, a2, a3, a4, a5⟩ := hP2.addL (new := new) (b := (d.α id).1) (c := cp) (ks := ks) (l := mkCat l ln) (ty := el) hn1 hl1 hkc hb0 hfree (rest := rest.drop (n * ks.length)) hcut.it (by
              rw [hclen, List.length_drop, Nat.add_mul]
              omega)
            obtain ⟨f1, f2⟩ := fin hp1 (p + n) _ _ d' hclen a1 a4 a5 (getH_setH_same _ _ _ hl1)
            exact ⟨_, _, run _ _ hrun, d', back d' a1, hasb, a3, f1, f2⟩
          · -- a new block
            have hrun := run_append_grow (P := C.P) w t o.type el i z hu hi hz ⟨(d.α id).1, 0, none⟩ p cp (numsV ks (l.den d.Φ d.ρ)) (by rw [numsV_len, isz, hp'])
              (fun j u hu => by
                rw [addr_add, Nat.zero_add]
                have hj : j < (numsV ks (l.den d.Φ d.ρ)).length := (List.getElem?_eq_some_iff.1 hu).1
                simp only [World.cell?, hb]
                rw [List.getElem?_toArray, List.getElem?_append_left hj, hu]
                rfl)
              ad n cap _ hnl hnews (by omega) (by omega) (by
                refine Nat.le_trans (growslice_fits (need := p + n) (old := cp) (bytes := i.bytes) (by omega) ?_) (by decide)
                have h3 : (p + n) * i.bytes ≤ 1099511627776 * 128 := Nat.mul_le_mul (by omega) cb
                omega)
            rw [← hy, ← h2] at hrun
            have hge := grownCap_ge w (p + n) cp el
            obtain ⟨d', a1, a2, a3, a4, a5⟩ := fresh hp1 (mkCat l ln) _ (grownCap w (p + n) cp el) (p + n) hP1 hn1 hl1 (fun j rj hj oj => hP.lt (own1 j rj hj oj).1 oj) hkc hclen hge rfl
            obtain ⟨f1, f2⟩ := fin hp1 (p + n) _ _ d' hclen a1 a4 a5 (getH_setH_same _ _ _ hl1)
            refine ⟨_, _, run _ _ hrun, d', back d' a1, hasb, ?_, f1, f2⟩
            rw [hcat, numsV_append hK.2] at a3
            have e3 : (numsV ks (l.den d.Φ d.ρ)).toArray ++ (numsV ks (ln.den d.Φ d.ρ)).toArray = (numsV ks (l.den d.Φ d.ρ) ++ numsV ks (ln.den d.Φ d.ρ)).toArray := by
              apply Array.ext'
              simp
            rw [e3]
            exact a3
        · cases hold
      · cases h
    · cases h
  · cases h

theorem svs_same {v v' : Operand → Option SV} : ∀ (l : List Operand), (∀ x ∈ l, v' x = v x) → svs v' l = svs v l
  | [], _ => rfl
  | x :: l, h => by simp only [svs, h x List.mem_cons_self, svs_same l fun y hy => h y (List.mem_cons_of_mem _ hy)]
theorem appRun_congr {v v' : Operand → Option SV} (c : Call) (h : ∀ x ∈ c.args.toList, v' x = v x) : appRun C R v' rd new c = appRun C R v rd new c := by
  unfold appRun
  rw [svs_same _ h]
theorem appOld_wr {ks : List EK} {el : TypeId} {s : Cell} {l : L} {old : List (Nat × Reg)} (h : appOld rd ks el s = some (l, old)) : ∀ x ∈ old, ∃ g, rd x.1 = some g := by
  unfold appOld at h
  split at h
  · cases h; exact fun x hx => by cases hx
  · rename_i id s' off' len'
    split at h
    · rename_i g hg
      split at h
      · generalize (g.own && _) = c at h
        cases c <;> simp only [cond_false, cond_true] at h
        · cases h
        · cases h
          intro x hx
          simp only [List.mem_singleton] at hx
          subst hx
          exact ⟨g, hg⟩
      · cases h
    · cases h
  · cases h
theorem appRun_wr {c : Call} (h : appRun C R v rd new c = some r) : ∀ x ∈ r.wr, (∃ g, rd x.1 = some g) ∨ x.1 = new := by
  unfold appRun at h
  split at h
  · rename_i s x t t' hs hts
    cases ct : Nat.beq t t' <;> simp only [ct, cond_false, cond_true] at h
    · cases h
    split at h
    · split at h
      · rename_i ln l old hnew hold
        generalize Nat.ble _ 128 = cb at h
        cases cb <;> simp only [cond_false, cond_true] at h
        · cases h
        cases h
        intro x hx
        rcases List.mem_append.1 hx with hx | hx
        · exact .inl (appOld_wr hold x hx)
        · simp only [List.mem_singleton] at hx
          subst hx
          exact .inr rfl
      · cases h
    · cases h
  · cases h
/-- Without the last block. -/
theorem HP.restrict {d' : Dn} {w' : World} {g : Reg} (hP' : HP X d' (setH hp new (some g)) w') (h0 : HP X d hp w) (ag : Agree hp d d') (hn : getH hp new = none) : HP X d hp w' where
  bl := hP'.bl
  reg := fun id r hr => by
    have hne : new ≠ id := fun e => by subst e; rw [hn] at hr; cases hr
    have h1 := hP'.reg id r (by rw [getH_setH_ne _ _ _ _ hne]; exact hr)
    have hs : (getH hp id).isSome = true := by rw [hr]; rfl
    exact h1.move rfl rfl (ag.α id hs).symm (ag.κ id hs).symm (cells_agree ag (h0.ids id r hr)).symm (SameTl.eq ag.Φ.symm ag.ρ.symm _) (fun _ => rfl)
  sep := fun i j ri rj hi hj oi oj hij => by
    have hi' : new ≠ i := fun e => by subst e; rw [hn] at hi; cases hi
    have hj' : new ≠ j := fun e => by subst e; rw [hn] at hj; cases hj
    have := hP'.sep i j ri rj (by rw [getH_setH_ne _ _ _ _ hi']; exact hi) (by rw [getH_setH_ne _ _ _ _ hj']; exact hj) oi oj hij
    rwa [ag.α i (by rw [hi]; rfl), ag.α j (by rw [hj]; rfl)] at this
  ids := h0.ids
  pin := h0.pin

theorem op_bsl (hR : RV d.Φ R d.ρ) (hP : HP X d hp w) (hv : Reads d hp v e) (h : bslRun C R v new o.op = some r) (hn : getH hp new = none) (hl : new < hp.length) :
    ∃ q w', (execOp e o).run C.P w = .ok (.value q) w' ∧ Aft X d hp (wrAll hp r.wr) r.val q w' := by
  unfold bslRun at h
  split at h
  rotate_left
  · cases h
  rename_i t n ps hop
  cases c0 : memN t C.bls <;> simp only [c0, cond_false, cond_true] at h
  · cases h
  split at h
  rotate_left
  · cases h
  rename_i el ks bytes id off m m' j g os hmk hrun
  split at h
  rotate_left
  · cases h
  rename_i l hl1
  cases c1 : Nat.beq g.cs.length (m * ks.length) <;> simp only [c1, cond_false, cond_true] at h
  · cases h
  cases h
  have c1 := Nat.eq_of_beq_eq_true c1
  rw [← hop] at hrun
  obtain ⟨x, w', hr, ha⟩ := op_new hP hv hrun (by rw [hop]; rfl) (fun t x y => by rw [hop]; exact fun h => by cases h) hn hl
  -- the shape of what is made
  have hshape : id = new ∧ off = 0 ∧ m = m' ∧ j = new ∧ g.own = true ∧ g.tl = none ∧ C.P.underlying t = some (.slice g.ty) := by
    rw [hop] at hrun
    simp only [opRun] at hrun
    split at hrun
    · rename_i el' ps' hu hps
      split at hrun
      · simp only [cond_eq_ite] at hrun
        split at hrun
        · simp only [Option.map_eq_some_iff] at hrun
          obtain ⟨cs, _, he⟩ := hrun
          cases he
          exact ⟨rfl, rfl, rfl, rfl, rfl, rfl, hu⟩
        · cases hrun
      · simp only [cond_eq_ite] at hrun
        split at hrun
        · simp only [Option.map_eq_some_iff] at hrun
          obtain ⟨cs, _, he⟩ := hrun
          cases he
          exact ⟨rfl, rfl, rfl, rfl, rfl, rfl, hu⟩
        · cases hrun
      · cases hrun
    · cases hrun
  obtain ⟨e1, e2, e3, e4, ho, ht, hu⟩ := hshape
  have e1 := e1.symm
  have e4 := e4.symm
  subst e1 e2 e3 e4
  obtain ⟨d', ag, _, hP', hx, _⟩ := ha
  have hP' : HP X d' (setH hp new (some g)) w' := hP'
  have hP1 := hP'.restrict hP ag hn
  have hreg := (hP'.reg new g (getH_setH_same _ _ _ hl)).zero ht
  unfold RegIs0 at hreg
  rw [if_pos ho] at hreg
  obtain ⟨a0, am, ab⟩ := hreg
  have hel : g.ty = el ∧ 0 < ks.length := by
    unfold makeKs at hmk
    rw [hu] at hmk
    simp only at hmk
    split at hmk
    rotate_left
    · cases hmk
    split at hmk
    rotate_left
    · cases hmk
    split at hmk
    rotate_left
    · cases hmk
    simp only [cond_eq_ite] at hmk
    split at hmk
    · rename_i cc
      cases hmk
      simp only [Bool.and_eq_true, Nat.blt_eq] at cc
      exact ⟨rfl, cc.2⟩
    · cases hmk
  obtain ⟨hel, hs0⟩ := hel
  obtain ⟨n1, n2⟩ := cellsL_spec (d := d') (by rw [ag.Φ, ag.ρ]; exact hR) hl1
  rw [ag.Φ, ag.ρ] at n1 n2
  simp only [Nat.zero_add] at n1 n2
  have n1 : g.cs.map (Cell.den d') = numsV ks (l.den d.Φ d.ρ) := n1
  have nlen : (l.den d.Φ d.ρ).length = m * ks.length := by
    have := congrArg List.length n1
    simp only [List.length_map, numsV_len] at this
    omega
  obtain ⟨d2, b1, b2, b3, b4, b5⟩ := hP1.addL (new := new) (b := (d'.α new).1) (c := m) (ks := ks) (l := l) (ty := el) hn hl ⟨n2, by rw [nlen, Nat.mul_mod_left]⟩ am
    (fun j rj hj oj => by
      have hne : new ≠ j := fun e => by subst e; rw [hn] at hj; cases hj
      have := hP'.sep j new rj g (by rw [getH_setH_ne _ _ _ _ hne]; exact hj) (getH_setH_same _ _ _ hl) oj ho (fun e => hne e.symm)
      rwa [ag.α j (by rw [hj]; rfl)] at this)
    (rest := []) (by rw [ab, n1, hel, List.append_nil]) (by rw [List.length_nil, Nat.add_zero]; exact nlen)
  have hnel : (nelE l ks.length).den d2.Φ d2.ρ = (m : Int) := by rw [nelE_nat, b1.Φ, b1.ρ, nlen, Nat.mul_div_cancel _ hs0]
  refine ⟨x, w', hr, d2, b1, b2, b3, ?_, ?_, Int.le_refl _, ?_⟩
  · simp only [SV.is, Cell.den, a0] at hx ⊢
    rw [hx]
    simp only [b4, b5, E.den, hnel]
    simp
  · show (getH (setH hp new _) new).isSome = true
    rw [getH_setH_same _ _ _ hl]; rfl
  · rw [nelE_nat]; exact Int.natCast_nonneg _

theorem bslRun_wr {q : Op} (h : bslRun C R v new q = some r) : isNew q = true ∧ ∃ g, r.wr = [(new, g)] := by
  unfold bslRun at h
  split at h
  rotate_left
  · cases h
  simp only [cond_eq_ite] at h
  split at h
  rotate_left
  · cases h
  split at h
  rotate_left
  · cases h
  split at h
  rotate_left
  · cases h
  split at h
  · cases h
    exact ⟨rfl, _, rfl⟩
  · cases h

theorem op_nil (hP : HP X d hp w) {p : TypeId × List EK} (ho : nilOp C o.op = some p) (hn : getH hp new = none) (hl : new < hp.length) :
    ∃ q w', (execOp e o).run C.P w = .ok (.value q) w' ∧ Aft X d hp (wrAll hp (nilRun new p).wr) (nilRun new p).val q w' := by
  unfold nilOp at ho
  split at ho
  · rename_i t n ps hop
    cases c : (Nat.beq n 0 && ps.toList.isEmpty) <;> simp only [c, cond_false, cond_true] at ho
    · cases ho
    simp only [Bool.and_eq_true] at c
    obtain ⟨c1, c2⟩ := c
    have c1 := Nat.eq_of_beq_eq_true c1
    subst c1
    simp only [Option.map_eq_some_iff] at ho
    obtain ⟨⟨el, ks, bytes⟩, hmk, rfl⟩ := ho
    unfold makeKs at hmk
    split at hmk
    rotate_left
    · cases hmk
    rename_i el' hu
    split at hmk
    rotate_left
    · cases hmk
    rename_i i hi
    split at hmk
    rotate_left
    · cases hmk
    rename_i z hz
    split at hmk
    rotate_left
    · cases hmk
    rename_i ks' hks
    cases cc : (Nat.beq i.size ks'.length && Nat.blt 0 ks'.length) <;> simp only [cc, cond_false, cond_true] at hmk
    · cases hmk
    cases hmk
    have hps : ps.toList = [] := by simpa using c2
    have hP' := hP.regs (w' := w.alloc (.cells #[] el)) ((Below.refl _ _).alloc (Nat.le_refl _) _)
    obtain ⟨d', a1, a2, a3, a4, a5⟩ := hP'.addL (new := new) (b := w.heap.size) (c := 0) (ks := ks) (l := .lit []) (ty := el) hn hl
      ⟨fun j q hj => by simp [L.den] at hj, by simp [L.den]⟩ (.inl hP.bl.size) (fun j rj hj oj => by have := hP.lt hj oj; omega) (rest := [])
      (by
        show (w.heap.push _)[w.heap.size]? = _
        rw [Array.getElem?_push, if_pos rfl]
        simp [numsV, L.den])
      (by simp [L.den])
    refine ⟨.slice (some ⟨w.heap.size, 0, none⟩) 0 0, w.alloc (.cells #[] el), ?_, d', a1, a2, a3, ?_, ?_⟩
    · have hsz : (sizeOf el).run C.P w = .ok i.size w := by
        simp [sizeOf, typeInfo, hi]
      have hm : (ps.map fun (i, x) => (i, e x)).toList = [] := by simp [hps]
      simp only [execOp, hop, Instr.buildSlice, Sem.run_bind, run_und hu, Result.andThen_ok, hsz]
      simp only [Nat.zero_mul, Nat.not_lt_zero, gt_iff_lt, if_false, if_true, hps, newRow, hm, List.map_nil, Array.toList_map, Array.map_empty, Instr.fill]
      simp [Instr.fill]
      rw [show Array.range 0 = (#[] : Array Nat) from by apply Array.ext <;> simp]
      simp
    · simp only [nilRun, SV.is, Cell.den, a4, a5, E.den, nelE_nat, L.den]
      simp
    · simp only [nilRun, SV.ok, Cell.ok]
      refine ⟨by show (getH (setH hp new _) new).isSome = true; rw [getH_setH_same _ _ _ hl]; rfl, Int.le_refl _, ?_⟩
      rw [nelE_nat]; exact Int.natCast_nonneg _
  · cases ho

end
end Go.Proofs.YtelfpnkhdaaeoaaDoor.Sx
