/-
  The symbolic executor: elements of several cells, read and written whole.
-/
import Derived.Test.YtelfpnkhdaaeoaaDoorSxH
namespace Go.Proofs.YtelfpnkhdaaeoaaDoor.Sx
open Go Go.RowKit

section
variable {C : Cfg} {R : Bds} {X : Ctx} {d : Dn} {w : World} {hp : List (Option Reg)} {v : Operand → Option SV} {e : Operand → Value} {Pr : Pres} {rd : Nat → Option Reg} {r : Res} {o : Oper}

def lpVals (xs : List Int) : Nat → List EK → List Value
  | _, [] => []
  | p, k :: r => evl k (xs.getD p 0) :: lpVals xs (p + 1) r
theorem lpVals_length (xs : List Int) : ∀ (kk : List EK) (p : Nat), (lpVals xs p kk).length = kk.length
  | [], _ => rfl
  | _ :: r, p => by simp [lpVals, lpVals_length xs r (p + 1)]
theorem lpVals_get (xs : List Int) : ∀ (kk : List EK) (p i : Nat) (x : Value), (lpVals xs p kk)[i]? = some x → ∃ k, kk[i]? = some k ∧ x = evl k (xs.getD (p + i) 0)
  | [], _, _, _, h => by simp [lpVals] at h
  | k :: r, p, 0, x, h => by
    simp only [lpVals, List.getElem?_cons_zero, Option.some.injEq] at h
    exact ⟨k, rfl, h.symm⟩
  | k :: r, p, i + 1, x, h => by
    simp only [lpVals, List.getElem?_cons_succ] at h
    obtain ⟨k', h1, h2⟩ := lpVals_get xs r (p + 1) i x h
    exact ⟨k', by simpa using h1, by rw [h2]; congr 2; omega⟩
theorem lpCells_den (hR : RV d.Φ R d.ρ) {l : L} {ix : E} {s j : Nat} (hj : ix.den d.Φ d.ρ = (j : Int)) : ∀ (kk : List EK) (f : Nat), (∀ i k, kk[i]? = some k → (eiv k).has ((l.den d.Φ d.ρ).getD (j * s + f + i) 0)) →
    (lpCells R l ix s f kk).map (Cell.den d) = lpVals (l.den d.Φ d.ρ) (j * s + f) kk
  | [], _, _ => rfl
  | k :: r, f, h => by
    have h0 := h 0 k rfl
    have ih := lpCells_den hR hj r (f + 1) fun i k hi => by
      have := h (i + 1) k (by simpa using hi)
      rwa [show j * s + (f + 1) + i = j * s + f + (i + 1) by omega]
    simp only [lpCells, List.map_cons, lpVals, ih]
    rw [show j * s + (f + 1) = j * s + f + 1 by omega]
    congr 1
    have e0 : (E.at l (flatE ix s f)).den d.Φ d.ρ = (l.den d.Φ d.ρ).getD (j * s + f) 0 := by
      simp only [E.den, flatE_den, hj]
      rw [show ((j : Int) * (s : Int) + (f : Int)).toNat = j * s + f by rw [← Int.natCast_mul, ← Int.natCast_add]; exact Int.toNat_natCast _]
    rw [Nat.add_zero] at h0
    rw [ekCell_den hR (by rw [e0]; exact h0), e0]
theorem lpCells_ok {R : Bds} {l : L} {ix : E} {s : Nat} : ∀ (kk : List EK) (f : Nat), ∀ c ∈ lpCells R l ix s f kk, c.ok d hp
  | [], _, c, h => by cases h
  | k :: r, f, c, h => by
    simp only [lpCells, List.mem_cons] at h
    rcases h with rfl | h
    · exact ekCell_ok _ _ _
    · exact lpCells_ok r (f + 1) c h
theorem getD_of_lt {xs : List Int} {i : Nat} (h : i < xs.length) : xs[i]? = some (xs.getD i 0) := by
  rw [List.getD_eq_getElem?_getD, List.getElem?_eq_getElem h]; rfl
theorem kindAt_mul {ks : List EK} {j s f i : Nat} {k : EK} (hs : s = ks.length) (hk : ks[f + i]? = some k) : kindAt ks (j * s + f + i) = k := by
  have hf : f + i < ks.length := (List.getElem?_eq_some_iff.1 hk).1
  unfold kindAt
  rw [hs, Nat.mul_comm, Nat.add_assoc, Nat.mul_add_mod, Nat.mod_eq_of_lt hf, List.getD_eq_getElem?_getD, hk]; rfl
theorem drop_take_k {ks : List EK} {f n i : Nat} {k : EK} (h : ((ks.drop f).take n)[i]? = some k) : ks[f + i]? = some k ∧ i < n := by
  rw [List.getElem?_take] at h
  split at h
  · rw [List.getElem?_drop] at h; exact ⟨h, by assumption⟩
  · cases h

theorem op_lpload {t : TypeId} {x : Operand} (hR : RV d.Φ R d.ρ) (hos : OsHold d.Φ Pr d.ρ r.os) (hP : HP X d hp w) (hv : Reads d hp v e) (hrd : ∀ id r, rd id = some r → getH hp id = some r)
    (h : moreRun C R v rd (.load t x) = some r) (ho : o.op = .load t x) : Yld C.P e o w d hp r := by
  simp only [moreRun] at h
  split at h
  · rename_i id s ix f hx
    split at h
    · rename_i g n hg hn
      split at h
      · rename_i ks l htl
        cases c : (aggT C.P t && ((C.P.underlying t).isSome && (Nat.beq s ks.length && Nat.ble (f + (n + 1)) ks.length))) <;> simp only [c, cond_false, cond_true] at h
        · cases h
        · cases h
          simp only [Bool.and_eq_true] at c
          obtain ⟨c1, c2, c3, c4⟩ := c
          have c3 : s = ks.length := Nat.eq_of_beq_eq_true c3
          have c4 := Nat.le_of_ble_eq_true c4
          obtain ⟨u, hu⟩ := Option.isSome_iff_exists.1 c2
          have hg := hrd _ _ hg
          have h1 := hv.is _ _ hx
          simp only [SV.is, Cell.den] at h1
          obtain ⟨_, b1⟩ : (getH hp id).isSome = true ∧ 0 ≤ ix.den d.Φ d.ρ := hv.ok _ _ hx
          obtain ⟨j, hj⟩ := Int.eq_ofNat_of_zero_le b1
          have b2 := must_hold hos
          rw [mkLt_den hR] at b2
          have b2 := of_decide_eq_true b2
          rw [flatE_den, hj] at b2
          simp only [E.den] at b2
          have hlt : j * s + (f + n) < (l.den d.Φ d.ρ).length := by
            have : ((j * s + (f + n) : Nat) : Int) < (l.den d.Φ d.ρ).length := by rw [Int.natCast_add, Int.natCast_mul]; exact b2
            omega
          have cell : ∀ i k, ((ks.drop f).take (n + 1))[i]? = some k → w.cell? ⟨(d.α id).1, (d.α id).2 + (j * s + f) + i, none⟩ = some (evl k ((l.den d.Φ d.ρ).getD (j * s + f + i) 0)) ∧ (eiv k).has ((l.den d.Φ d.ρ).getD (j * s + f + i) 0) := fun i k hi => by
            obtain ⟨k1, k2⟩ := drop_take_k hi
            obtain ⟨n1, n2⟩ := (hP.reg _ _ hg).num hP.bl htl (getD_of_lt (xs := l.den d.Φ d.ρ) (i := j * s + f + i) (by omega))
            rw [kindAt_mul c3 k1] at n1 n2
            exact ⟨by rw [Nat.add_assoc]; exact n1, n2⟩
          have hden := lpCells_den (l := l) (s := s) hR hj ((ks.drop f).take (n + 1)) f fun i k hi => (cell i k hi).2
          refine ⟨.agg (lpVals (l.den d.Φ d.ρ) (j * s + f) ((ks.drop f).take (n + 1))).toArray, ?_, ?_, lpCells_ok _ _, rfl⟩
          · simp only [execOp, ho, h1, Instr.loadAt, Instr.sureAddr, Sem.run_bind, Sem.run_pure, Result.andThen_ok, loadVar, run_isAgg hu, c1, if_true, run_size hn, hj, Int.toNat_natCast]
            rw [loadCells_run (vs := lpVals (l.den d.Φ d.ρ) (j * s + f) ((ks.drop f).take (n + 1))) (by rw [lpVals_length]; simp; omega) fun i x hx => by
              obtain ⟨k, hk, rfl⟩ := lpVals_get _ _ _ _ _ hx
              exact (cell i k hk).1]
            simp only [Result.andThen_ok]
          · show _ = Value.agg ((lpCells R l ix s f ((ks.drop f).take (n + 1))).map (Cell.den d)).toArray
            rw [hden]
      · cases h
    · cases h
  · cases h

/-! ### Writing -/
theorem intCs_spec (hR : RV d.Φ R d.ρ) : ∀ {kk : List EK} {cs : List Cell} {es : List E}, intCs R kk cs = some es → es.length = kk.length ∧ cs.map (Cell.den d) = lpVals (es.map (E.den d.Φ d.ρ)) 0 kk ∧ ∀ i k, kk[i]? = some k → (eiv k).has ((es.map (E.den d.Φ d.ρ)).getD i 0)
  | [], [], es, h => by simp only [intCs, Option.some.injEq] at h; subst h; exact ⟨rfl, rfl, fun i k hi => by simp at hi⟩
  | [], _ :: _, es, h => by simp [intCs] at h
  | k :: kk, [], es, h => by simp [intCs] at h
  | k :: kk, c :: cs, es, h => by
    simp only [intCs] at h
    split at h
    · rename_i x es' hx hes
      cases h
      obtain ⟨i1, i2, i3⟩ := intCs_spec hR hes
      obtain ⟨k1, k2⟩ := kdE_spec hR hx
      refine ⟨by simp [i1], ?_, fun i q hi => ?_⟩
      · have sh : ∀ (xs : List Int) (y : Int) (kk : List EK) (p : Nat), lpVals (y :: xs) (p + 1) kk = lpVals xs p kk := fun xs y kk => by
          induction kk with
          | nil => intro p; rfl
          | cons q kk ih => intro p; simp only [lpVals, List.getD_cons_succ, ih (p + 1)]
        simp only [List.map_cons, lpVals, i2, List.getD_cons_zero, sh, k1]
        rfl
      · cases i with
        | zero =>
          simp only [List.getElem?_cons_zero, Option.some.injEq] at hi
          subst hi
          exact k2
        | succ i =>
          simp only [List.getElem?_cons_succ] at hi
          simpa using i3 i q hi
    · cases h
theorem setAll_den {ix : E} {s j : Nat} (hj : ix.den d.Φ d.ρ = (j : Int)) : ∀ (es : List E) (f : Nat) (l : L), ((setAll l ix s f es).den d.Φ d.ρ).length = (l.den d.Φ d.ρ).length ∧
    ∀ i, ((setAll l ix s f es).den d.Φ d.ρ)[i]? = if j * s + f ≤ i ∧ i < j * s + f + es.length ∧ i < (l.den d.Φ d.ρ).length then some ((es.map (E.den d.Φ d.ρ)).getD (i - (j * s + f)) 0) else (l.den d.Φ d.ρ)[i]?
  | [], f, l => ⟨rfl, fun i => by rw [if_neg (by simp only [List.length_nil, Nat.add_zero]; omega), setAll]⟩
  | x :: r, f, l => by
    obtain ⟨h1, h2⟩ := setAll_den hj r (f + 1) (.set l (flatE ix s f) x)
    have hfl : ((flatE ix s f).den d.Φ d.ρ).toNat = j * s + f := by
      rw [flatE_den, hj, ← Int.natCast_mul, ← Int.natCast_add, Int.toNat_natCast]
    have hset : (L.set l (flatE ix s f) x).den d.Φ d.ρ = (l.den d.Φ d.ρ).set (j * s + f) (x.den d.Φ d.ρ) := by simp only [L.den, hfl]
    rw [hset] at h1 h2
    rw [List.length_set] at h1
    refine ⟨h1, fun i => ?_⟩
    simp only [setAll]
    rw [h2 i, List.length_set, List.getElem?_set]
    by_cases k1 : i = j * s + f
    · subst k1
      by_cases k2 : j * s + f < (l.den d.Φ d.ρ).length
      · rw [if_neg (by omega), if_pos rfl, if_pos k2, if_pos ⟨Nat.le_refl _, by simp, k2⟩]
        simp
      · rw [if_neg (by omega), if_pos rfl, if_neg k2, if_neg (by omega), List.getElem?_eq_none (by omega)]
    · rw [if_neg (Ne.symm k1)]
      by_cases k2 : j * s + (f + 1) ≤ i ∧ i < j * s + (f + 1) + r.length ∧ i < (l.den d.Φ d.ρ).length
      · rw [if_pos k2, if_pos ⟨by omega, by simp only [List.length_cons]; omega, k2.2.2⟩]
        have e : i - (j * s + f) = (i - (j * s + (f + 1))) + 1 := by omega
        rw [e]
        simp
      · rw [if_neg k2, if_neg (by simp only [List.length_cons]; omega)]
theorem op_lpstore {t : TypeId} {y z : Operand} (hR : RV d.Φ R d.ρ) (hos : OsHold d.Φ Pr d.ρ r.os) (hP : HP X d hp w) (hv : Reads d hp v e) (hrd : ∀ id r, rd id = some r → getH hp id = some r)
    (h : moreRun C R v rd (.store t y z) = some r) (ho : o.op = .store t y z) :
    ∃ w', (execOp e o).run C.P w = .ok .skip w' ∧ Aft X d hp (wrAll hp r.wr) r.val undef w' := by
  simp only [moreRun] at h
  split at h
  · rename_i id s ix f cs hy hz
    split at h
    · rename_i g n hg hn
      split at h
      · rename_i ks l htl
        split at h
        · rename_i es hes
          cases c : (g.own && (Nat.beq s ks.length && Nat.ble (f + (n + 1)) ks.length)) <;> simp only [c, cond_false, cond_true] at h
          · cases h
          · cases h
            simp only [Bool.and_eq_true] at c
            obtain ⟨c1, c3, c4⟩ := c
            have c3 : s = ks.length := Nat.eq_of_beq_eq_true c3
            have c4 := Nat.le_of_ble_eq_true c4
            have hg := hrd _ _ hg
            have h1 := hv.is _ _ hy
            have h2 := hv.is _ _ hz
            simp only [SV.is, Cell.den] at h1 h2
            obtain ⟨_, b1⟩ : (getH hp id).isSome = true ∧ 0 ≤ ix.den d.Φ d.ρ := hv.ok _ _ hy
            obtain ⟨j, hj⟩ := Int.eq_ofNat_of_zero_le b1
            have b2 := must_hold hos
            rw [mkLt_den hR] at b2
            have b2 := of_decide_eq_true b2
            rw [flatE_den, hj] at b2
            simp only [E.den] at b2
            have hlt : j * s + (f + n) < (l.den d.Φ d.ρ).length := by
              have : ((j * s + (f + n) : Nat) : Int) < (l.den d.Φ d.ρ).length := by rw [Int.natCast_add, Int.natCast_mul]; exact b2
              omega
            obtain ⟨i1, i2, i3⟩ := intCs_spec hR hes
            have hkl : ((ks.drop f).take (n + 1)).length = n + 1 := by simp; omega
            rw [hkl] at i1
            have hreg := hP.reg _ _ hg
            unfold RegIs at hreg
            rw [htl] at hreg
            obtain ⟨_, hK, _, hreg⟩ := hreg
            rw [if_pos c1] at hreg
            obtain ⟨ha, _, rest, cp, hb, _, _⟩ := hreg
            simp only at hb hK
            have hvl : (cs.map (Cell.den d)).length = n + 1 := by rw [i2, lpVals_length, hkl]
            obtain ⟨w', g1, g2⟩ := storeVar_run (P := C.P) (w := w) (off := j * s + f) (x := e z) (vs := cs.map (Cell.den d)) hb hn (by rw [h2]; rfl) hvl.symm (by simp only [numsV, List.length_append, List.length_mapIdx]; omega)
              (fun q hq => by obtain ⟨c, _, rfl⟩ := List.mem_map.1 hq; exact Cell.den_oneCell d c)
            obtain ⟨s1, s2⟩ := setAll_den (s := s) hj es f l
            refine ⟨w', ?_, d, Agree.refl _ _, Has.setH id _, ?_, undef_is d, undef_ok d _⟩
            · simp only [execOp, ho, h1, Instr.storeAt, Instr.sureAddr, Sem.run_bind, Sem.run_pure, Result.andThen_ok, ha, Nat.zero_add, hj, Int.toNat_natCast, g1]
            · refine hP.writeL hg c1 htl (l' := setAll l ix s f es) ⟨fun i x hi => ?_, by rw [s1]; exact hK.2⟩ s1 fun rest' hb' => ?_
              · rw [s2 i] at hi
                split at hi
                · rename_i hc
                  obtain ⟨q1, q2, q3⟩ := hc
                  cases hi
                  have hkk : ((ks.drop f).take (n + 1))[i - (j * s + f)]? = some ((ks.drop f).take (n + 1))[i - (j * s + f)] := List.getElem?_eq_getElem (by omega)
                  have hki := (drop_take_k hkk).1
                  have := i3 _ _ hkk
                  have e1 := kindAt_mul (j := j) c3 hki
                  rw [show j * s + f + (i - (j * s + f)) = i by omega] at e1
                  rw [e1]; exact this
                · exact hK.1 i x hi
              · rw [hb] at hb'
                simp only [Option.some.injEq, Obj.cells.injEq, Array.mk.injEq, and_true] at hb'
                have hr' := List.append_cancel_left hb'
                subst hr'
                have e0 : (numsV ks (l.den d.Φ d.ρ) ++ rest).take (j * s + f) ++ (cs.map (Cell.den d) ++ (numsV ks (l.den d.Φ d.ρ) ++ rest).drop (j * s + f + (cs.map (Cell.den d)).length)) =
                    numsV ks ((setAll l ix s f es).den d.Φ d.ρ) ++ rest := by
                  apply List.ext_getElem?
                  intro i
                  have hnl : (numsV ks (l.den d.Φ d.ρ)).length = (l.den d.Φ d.ρ).length := by simp [numsV]
                  have hnl' : (numsV ks ((setAll l ix s f es).den d.Φ d.ρ)).length = (l.den d.Φ d.ρ).length := by simp [numsV, s1]
                  have htk : ((numsV ks (l.den d.Φ d.ρ) ++ rest).take (j * s + f)).length = j * s + f := by rw [List.length_take, List.length_append, hnl]; omega
                  conv => lhs; rw [List.getElem?_append, htk, hvl]
                  conv => rhs; rw [List.getElem?_append, hnl']
                  have getn : ∀ i, (numsV ks ((setAll l ix s f es).den d.Φ d.ρ))[i]? = (((setAll l ix s f es).den d.Φ d.ρ)[i]?).map fun x => evl (kindAt ks i) x := fun i => by simp [numsV, List.getElem?_mapIdx]
                  have geto : ∀ i, (numsV ks (l.den d.Φ d.ρ))[i]? = ((l.den d.Φ d.ρ)[i]?).map fun x => evl (kindAt ks i) x := fun i => by simp [numsV, List.getElem?_mapIdx]
                  by_cases k1 : i < j * s + f
                  · rw [if_pos k1, if_pos (by omega), List.getElem?_take_of_lt k1, List.getElem?_append_left (by omega), getn, s2, if_neg (by omega), geto]
                  · rw [if_neg k1, List.getElem?_append, hvl]
                    by_cases k2 : i - (j * s + f) < n + 1
                    · rw [if_pos k2, if_pos (by omega), getn, s2, if_pos ⟨by omega, by omega, by omega⟩, i2]
                      have hkk : ((ks.drop f).take (n + 1))[i - (j * s + f)]? = some ((ks.drop f).take (n + 1))[i - (j * s + f)] := List.getElem?_eq_getElem (by omega)
                      have hki := (drop_take_k hkk).1
                      have e1 := kindAt_mul (j := j) c3 hki
                      rw [show j * s + f + (i - (j * s + f)) = i by omega] at e1
                      obtain ⟨q, hq⟩ : ∃ q, (lpVals (es.map (E.den d.Φ d.ρ)) 0 ((ks.drop f).take (n + 1)))[i - (j * s + f)]? = some q := ⟨_, List.getElem?_eq_getElem (by rw [lpVals_length, hkl]; exact k2)⟩
                      obtain ⟨k', hk', rfl⟩ := lpVals_get _ _ _ _ _ hq
                      rw [hq]
                      rw [hkk] at hk'
                      cases hk'
                      rw [Option.map_some, e1, Nat.zero_add]
                    · rw [if_neg k2, List.getElem?_drop]
                      rw [show j * s + f + (n + 1) + (i - (j * s + f) - (n + 1)) = i by omega]
                      by_cases k3 : i < (l.den d.Φ d.ρ).length
                      · rw [if_pos k3, List.getElem?_append_left (by omega), getn, s2, if_neg (by omega), geto]
                      · rw [if_neg k3, List.getElem?_append_right (by omega), hnl]
                rw [← e0]
                exact g2
        · cases h
      · cases h
    · cases h
  · cases h

theorem svs_congrU {v v' : Operand → Option SV} : ∀ (l : List Operand), (∀ x ∈ l, v' x = v x) → svs v' l = svs v l
  | [], _ => rfl
  | x :: r, h => by
    simp only [svs, h x List.mem_cons_self, svs_congrU r fun y hy => h y (List.mem_cons_of_mem _ hy)]
theorem moreRun_congr {v v' : Operand → Option SV} (q : Op) (h : ∀ x ∈ q.operands, v' x = v x) : moreRun C R v' rd q = moreRun C R v rd q := by
  cases q with
  | load t x => simp only [moreRun, h x (by simp [Op.operands])]
  | store t x y => simp only [moreRun, h x (by simp [Op.operands]), h y (by simp [Op.operands])]
  | move x => simp only [moreRun, h x (by simp [Op.operands])]
  | slice t x lo hi mx =>
    cases lo with
    | some _ => rfl
    | none => cases mx with
      | some _ => rfl
      | none =>
        have hb : ∀ len, bndE v' len hi = bndE v len hi := fun len => by
          cases hi with
          | none => rfl
          | some y => simp only [bndE, h y (by simp [Op.operands])]
        simp only [moreRun, h x (by simp [Op.operands]), hb]
  | binOp op t x y u =>
    cases op with
    | add => simp only [moreRun, h x (by simp [Op.operands]), h y (by simp [Op.operands])]
    | eql => simp only [moreRun, h x (by simp [Op.operands]), h y (by simp [Op.operands])]
    | _ => rfl
  | convert s t x => simp only [moreRun, h x (by simp [Op.operands])]
  | call c =>
    simp only [moreRun]
    rw [svs_congrU c.args.toList fun x hx => h x (by simp [Op.operands, Call.operands, Array.mem_toList_iff.1 hx])]
  | makeFunc fn first cap =>
    cases fn with
    | func g =>
      simp only [moreRun]
      rw [svs_congrU cap.toList fun x hx => h x (by simp [Op.operands, Array.mem_toList_iff.1 hx])]
    | _ => rfl
  | _ => rfl
theorem moreRun_wr {q : Op} (h : moreRun C R v rd q = some r) : r.wr = [] ∨ ∃ id g, (∃ g', rd id = some g') ∧ r.wr = [(id, g)] := by
  cases q with
  | load t x =>
    simp only [moreRun] at h
    split at h
    · split at h
      · split at h
        · generalize (aggT C.P t && _) = c at h
          cases c <;> simp only [cond_false, cond_true] at h
          · cases h
          · cases h; exact .inl rfl
        · cases h
      · cases h
    · cases h
  | store t x y =>
    simp only [moreRun] at h
    split at h
    · split at h
      · rename_i g n hg hn
        split at h
        · split at h
          · generalize (g.own && _) = c at h
            cases c <;> simp only [cond_false, cond_true] at h
            · cases h
            · cases h; exact .inr ⟨_, _, ⟨g, hg⟩, rfl⟩
          · cases h
        · cases h
      · cases h
    · cases h
  | move x =>
    simp only [moreRun] at h
    split at h
    · split at h
      · split at h
        · generalize (_ && _) = c at h
          cases c <;> simp only [cond_false, cond_true] at h
          · cases h
          · cases h; exact .inl rfl
        · cases h
      · cases h
    · cases h
  | slice t x lo hi mx =>
    cases lo with
    | some _ => simp only [moreRun] at h; cases h
    | none => cases mx with
      | some _ => simp only [moreRun] at h; cases h
      | none =>
        simp only [moreRun] at h
        split at h
        · split at h
          · split at h
            · generalize (_ && _) = c at h
              cases c <;> simp only [cond_false, cond_true] at h
              · cases h
              · cases h; exact .inl rfl
            · cases h
          · cases h
        · cases h
  | binOp op t x y u =>
    cases op with
    | add =>
      simp only [moreRun] at h
      split at h
      · cases h; exact .inl rfl
      · cases h
    | eql =>
      simp only [moreRun] at h
      split at h
      · split at h
        · split at h
          · generalize (_ && _) = c at h
            cases c <;> simp only [cond_false, cond_true] at h
            · cases h
            · cases h; exact .inl rfl
          · cases h
        · cases h
      · cases h
    | _ => simp only [moreRun] at h; cases h
  | convert s t x =>
    simp only [moreRun] at h
    split at h
    · split at h
      · split at h
        · generalize (_ && _) = c at h
          cases c <;> simp only [cond_false, cond_true] at h
          · cases h
          · cases h; exact .inl rfl
        · cases h
      · cases h
    · split at h
      · cases h; exact .inl rfl
      · cases h
    · cases h
  | call c =>
    simp only [moreRun] at h
    split at h
    · split at h
      · generalize (_ && _) = c at h
        cases c <;> simp only [cond_false, cond_true] at h
        · cases h
        · cases h; exact .inl rfl
      · cases h
    · cases h
  | makeFunc fn first cap =>
    cases fn with
    | func g =>
      simp only [moreRun] at h
      cases c : first.toList.isEmpty <;> simp only [c, cond_false, cond_true] at h
      · cases h
      · simp only [Option.map_eq_some_iff] at h
        obtain ⟨ps, _, rfl⟩ := h
        exact .inl rfl
    | _ => simp only [moreRun] at h; cases h
  | _ => simp only [moreRun] at h; cases h
end
end Go.Proofs.YtelfpnkhdaaeoaaDoor.Sx
