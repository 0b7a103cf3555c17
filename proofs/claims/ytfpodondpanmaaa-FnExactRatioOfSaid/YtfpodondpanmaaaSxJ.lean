/-
  The symbolic executor: one operation of a region, whole.
-/
import Derived.Test.YtfpodondpanmaaaSxI
import Derived.Test.YtfpodondpanmaaaSxV
namespace Go.Proofs.Ytfpodondpanmaaa.Sx
open Go Go.RowKit

section
variable {C : Cfg} {R : Bds} {X : Ctx} {d : Dn} {w : World} {S : St} {a : Act} {Pr : Pres} {new : Nat} {r : Res} {o : Oper}
  {K : Act → World → Prop} {Q : Exit → Act → World → Prop}

theorem memN_iff {x : Nat} : ∀ {l : List Nat}, memN x l = true ↔ x ∈ l
  | [] => by simp [memN]
  | y :: r => by
    simp only [memN, Bool.or_eq_true, memN_iff (l := r), List.mem_cons]
    refine or_congr ⟨fun h => Nat.eq_of_beq_eq_true h, fun h => by subst h; exact Nat.beq_refl _⟩ Iff.rfl

theorem rd_ok {hp : List (Option Reg)} {ids : List Nat} : ∀ id r, (bif memN id ids then getH hp id else none) = some r → getH hp id = some r := fun id r h => by
  cases c : memN id ids <;> simp only [c, cond_false, cond_true] at h
  · cases h
  · exact h

theorem Sat.reads (h : Sat X d S a w) : Reads d S.heap (valOf S) a.eval := h.tm.reads

theorem Sat.after (h : Sat X d S a w) {d' : Dn} {x : Value} {w' : World} (ha : Agree S.heap d d') (hh : Has S.heap (wrAll S.heap r.wr)) (hP : HP X d' (wrAll S.heap r.wr) w')
    (hi : r.val.is d' x) (hk : r.val.ok d' (wrAll S.heap r.wr)) (dst : Option Nat) : Sat X d' (r.put dst S) (a.put dst x) w' where
  df := by cases dst <;> exact h.df
  tm := (h.tm.agree ha hh).put hi hk dst
  hp := hP

theorem yld_wp (h : Sat X d S a w) (hy : Yld C.P a.eval o w d S.heap r) (hK : ∀ d' a' w', Agree S.heap d d' → Sat X d' (r.put o.dst S) a' w' → K a' w') : o.wp C.P a w K Q := by
  obtain ⟨x, h1, h2, h3, h4⟩ := hy
  unfold Oper.wp
  rw [h1, Oper.upon_value]
  exact hK d _ w (Agree.refl _ _) (h.after (Agree.refl _ _) (by rw [h4]; exact Has.refl _) (by rw [h4]; exact h.hp) h2 (by rw [h4]; exact h3) o.dst)

theorem op_len {c : Call} {v : Operand → Option SV} {e : Operand → Value} {rd : Nat → Option Reg} {hp : List (Option Reg)} (hv : Reads d hp v e)
    (hc : c.callee = .builtin .len) (h : opRun C R (.call c) v rd new = some r) (ho : o.op = .call c) : Yld C.P e o w d hp r := by
  simp only [opRun, hc] at h
  split at h
  · rename_i l hs hu
    cases h
    obtain ⟨l1, l2, _⟩ := svs_spec hv hs
    have hz : ∃ y, c.args.toList = [y] := by
      cases hl : c.args.toList with
      | nil => rw [hl] at l1; simp at l1
      | cons y r => cases r with
        | nil => exact ⟨y, rfl⟩
        | cons _ _ => rw [hl] at l1; simp at l1
    obtain ⟨y, hy⟩ := hz
    have h1 := l2 0 (.one (.str l)) (e y) rfl (by simp [hy])
    simp only [SV.is, Cell.den] at h1
    have ha : c.args = #[y] := by rw [← Array.toArray_toList (xs := c.args), hy]
    rw [Option.bind_eq_some_iff] at hu
    obtain ⟨t, ht, hu⟩ := hu
    refine ⟨.int .i64 ((l.den d.Φ d.ρ).length : Int), ?_, rfl, trivial, rfl⟩
    have hlen : (Builtin.len_ c.argTypes o.type #[e y]).run C.P w = .ok (.int .i64 ((l.den d.Φ d.ρ).length : Int)) w := by
      rw [h1]
      have h0 : (#[Value.string ⟨((l.den d.Φ d.ρ).map u8).toArray⟩] : Array Value)[0]? = some (.string ⟨((l.den d.Φ d.ρ).map u8).toArray⟩) := rfl
      simp only [Builtin.len_, ht, h0, Sem.run_bind, run_und hu, Result.andThen_ok, Sem.run_pure, goInt, ByteArray.size, List.size_toArray, List.length_map]
    have hm : c.args.map e = #[e y] := by rw [ha]; simp
    simp only [execOp, ho, resolve, hc, Sem.run_bind, Sem.run_pure, Result.andThen_ok, invoke, builtin, hm, hlen]
  · rename_i sv n _ hs hu
    cases h
    obtain ⟨l1, l2, _⟩ := svs_spec hv hs
    have hz : ∃ y, c.args.toList = [y] := by
      cases hl : c.args.toList with
      | nil => rw [hl] at l1; simp at l1
      | cons y r => cases r with
        | nil => exact ⟨y, rfl⟩
        | cons _ _ => rw [hl] at l1; simp at l1
    obtain ⟨y, hy⟩ := hz
    have ha : c.args = #[y] := by rw [← Array.toArray_toList (xs := c.args), hy]
    rw [Option.bind_eq_some_iff] at hu
    obtain ⟨t, ht, hu⟩ := hu
    refine ⟨.int .i64 (n : Int), ?_, rfl, trivial, rfl⟩
    have hlen : (Builtin.len_ c.argTypes o.type #[e y]).run C.P w = .ok (.int .i64 (n : Int)) w := by
      have h0 : (#[e y] : Array Value)[0]? = some (e y) := rfl
      simp only [Builtin.len_, ht, h0, Sem.run_bind, run_und hu, Result.andThen_ok, Sem.run_pure, goInt]
    have hm : c.args.map e = #[e y] := by rw [ha]; simp
    simp only [execOp, ho, resolve, hc, Sem.run_bind, Sem.run_pure, Result.andThen_ok, invoke, builtin, hm, hlen]
  · rename_i id off n cap _ hs hu
    cases h
    obtain ⟨l1, l2, _⟩ := svs_spec hv hs
    have hz : ∃ y, c.args.toList = [y] := by
      cases hl : c.args.toList with
      | nil => rw [hl] at l1; simp at l1
      | cons y r => cases r with
        | nil => exact ⟨y, rfl⟩
        | cons _ _ => rw [hl] at l1; simp at l1
    obtain ⟨y, hy⟩ := hz
    have h1 := l2 0 (.one (.slc id off n cap)) (e y) rfl (by simp [hy])
    simp only [SV.is, Cell.den] at h1
    have ha : c.args = #[y] := by rw [← Array.toArray_toList (xs := c.args), hy]
    rw [Option.bind_eq_some_iff] at hu
    obtain ⟨t, ht, hu⟩ := hu
    refine ⟨.int .i64 (n : Int), ?_, rfl, trivial, rfl⟩
    have hlen : (Builtin.len_ c.argTypes o.type #[e y]).run C.P w = .ok (.int .i64 (n : Int)) w := by
      rw [h1]
      have h0 : (#[Value.slice (some ⟨(d.α id).1, (d.α id).2 + off, none⟩) n cap] : Array Value)[0]? = some (.slice (some ⟨(d.α id).1, (d.α id).2 + off, none⟩) n cap) := rfl
      simp only [Builtin.len_, ht, h0, Sem.run_bind, run_und hu, Result.andThen_ok, Sem.run_pure, goInt]
    have hm : c.args.map e = #[e y] := by rw [ha]; simp
    simp only [execOp, ho, resolve, hc, Sem.run_bind, Sem.run_pure, Result.andThen_ok, invoke, builtin, hm, hlen]
  · rename_i id s off n _ hs hu
    cases h
    obtain ⟨l1, l2, l3⟩ := svs_spec hv hs
    have hz : ∃ y, c.args.toList = [y] := by
      cases hl : c.args.toList with
      | nil => rw [hl] at l1; simp at l1
      | cons y r => cases r with
        | nil => exact ⟨y, rfl⟩
        | cons _ _ => rw [hl] at l1; simp at l1
    obtain ⟨y, hy⟩ := hz
    have h1 := l2 0 (.one (.sl id s off n)) (e y) rfl (by simp [hy])
    simp only [SV.is, Cell.den] at h1
    obtain ⟨q, cp, h1⟩ : ∃ q cp, e y = .slice q (n.den d.Φ d.ρ).toNat cp := ⟨_, _, h1⟩
    have hok : (SV.one (.sl id s off n)).ok d hp := l3 _ (by simp)
    obtain ⟨_, _, hn⟩ : (getH hp id).isSome = true ∧ 0 ≤ off.den d.Φ d.ρ ∧ 0 ≤ n.den d.Φ d.ρ := hok
    have ha : c.args = #[y] := by rw [← Array.toArray_toList (xs := c.args), hy]
    rw [Option.bind_eq_some_iff] at hu
    obtain ⟨t, ht, hu⟩ := hu
    refine ⟨.int .i64 (n.den d.Φ d.ρ), ?_, rfl, trivial, rfl⟩
    have hlen : (Builtin.len_ c.argTypes o.type #[e y]).run C.P w = .ok (.int .i64 (n.den d.Φ d.ρ)) w := by
      rw [h1]
      have h0 : (#[Value.slice q (n.den d.Φ d.ρ).toNat cp] : Array Value)[0]? = some (.slice q (n.den d.Φ d.ρ).toNat cp) := rfl
      simp only [Builtin.len_, ht, h0, Sem.run_bind, run_und hu, Result.andThen_ok, Sem.run_pure, goInt, Int.toNat_of_nonneg hn]
    have hm : c.args.map e = #[e y] := by rw [ha]; simp
    simp only [execOp, ho, resolve, hc, Sem.run_bind, Sem.run_pure, Result.andThen_ok, invoke, builtin, hm, hlen]
  · rename_i _ hs hu
    cases h
    obtain ⟨l1, l2, _⟩ := svs_spec hv hs
    have hz : ∃ y, c.args.toList = [y] := by
      cases hl : c.args.toList with
      | nil => rw [hl] at l1; simp at l1
      | cons y r => cases r with
        | nil => exact ⟨y, rfl⟩
        | cons _ _ => rw [hl] at l1; simp at l1
    obtain ⟨y, hy⟩ := hz
    have h1 := l2 0 (.one .nils) (e y) rfl (by simp [hy])
    simp only [SV.is, Cell.den] at h1
    have ha : c.args = #[y] := by rw [← Array.toArray_toList (xs := c.args), hy]
    rw [Option.bind_eq_some_iff] at hu
    obtain ⟨t, ht, hu⟩ := hu
    refine ⟨.int .i64 0, ?_, rfl, trivial, rfl⟩
    have hlen : (Builtin.len_ c.argTypes o.type #[e y]).run C.P w = .ok (.int .i64 0) w := by
      rw [h1]
      have h0 : (#[Value.slice none 0 0] : Array Value)[0]? = some (.slice none 0 0) := rfl
      simp only [Builtin.len_, ht, h0, Sem.run_bind, run_und hu, Result.andThen_ok, Sem.run_pure, goInt]
      rfl
    have hm : c.args.map e = #[e y] := by rw [ha]; simp
    simp only [execOp, ho, resolve, hc, Sem.run_bind, Sem.run_pure, Result.andThen_ok, invoke, builtin, hm, hlen]
  · cases h

theorem mkIte_den {Φ : Fns} {ρ : Env} (c : B) (a b : E) : (mkIte c a b).den Φ ρ = if c.den Φ ρ then a.den Φ ρ else b.den Φ ρ := by
  unfold mkIte
  split <;> simp [E.den, B.den]

theorem op_max {c : Call} {v : Operand → Option SV} {e : Operand → Value} {rd : Nat → Option Reg} {hp : List (Option Reg)} (hR : RV d.Φ R d.ρ) (hv : Reads d hp v e)
    (hc : c.callee = .builtin .max) (h : opRun C R (.call c) v rd new = some r) (ho : o.op = .call c) : Yld C.P e o w d hp r := by
  simp only [opRun, hc] at h
  split at h
  · rename_i k a k' b hs
    cases hk : decide (k = k') <;> simp only [hk, cond_false, cond_true] at h
    · cases h
    · cases h
      obtain ⟨p, q, hl, h1, h2⟩ := two_args hv hs
      simp only [SV.is, Cell.den] at h1 h2
      have ha : c.args = #[p, q] := by rw [← Array.toArray_toList (xs := c.args), hl]
      refine ⟨.int k (if a.den d.Φ d.ρ < b.den d.Φ d.ρ then b.den d.Φ d.ρ else a.den d.Φ d.ρ), ?_, ?_, trivial, rfl⟩
      · have hm : c.args.map e = #[e p, e q] := by rw [ha]; simp
        simp only [execOp, ho, resolve, hc, Sem.run_bind, Sem.run_pure, Result.andThen_ok, invoke, builtin, hm, h1, h2, Builtin.max_, List.foldlM, Builtin.max2, gt_iff_lt]
      · show Value.int k _ = Value.int k ((mkIte (mkLt R a b) b a).den d.Φ d.ρ)
        rw [mkIte_den, mkLt_den hR]
        by_cases hh : a.den d.Φ d.ρ < b.den d.Φ d.ρ <;> simp [hh]
  · cases h

theorem op_min {c : Call} {v : Operand → Option SV} {e : Operand → Value} {rd : Nat → Option Reg} {hp : List (Option Reg)} (hR : RV d.Φ R d.ρ) (hv : Reads d hp v e)
    (hc : c.callee = .builtin .min) (h : opRun C R (.call c) v rd new = some r) (ho : o.op = .call c) : Yld C.P e o w d hp r := by
  simp only [opRun, hc] at h
  split at h
  · rename_i k a k' b hs
    cases hk : decide (k = k') <;> simp only [hk, cond_false, cond_true] at h
    · cases h
    · cases h
      obtain ⟨p, q, hl, h1, h2⟩ := two_args hv hs
      simp only [SV.is, Cell.den] at h1 h2
      have ha : c.args = #[p, q] := by rw [← Array.toArray_toList (xs := c.args), hl]
      refine ⟨.int k (if b.den d.Φ d.ρ < a.den d.Φ d.ρ then b.den d.Φ d.ρ else a.den d.Φ d.ρ), ?_, ?_, trivial, rfl⟩
      · have hm : c.args.map e = #[e p, e q] := by rw [ha]; simp
        simp only [execOp, ho, resolve, hc, Sem.run_bind, Sem.run_pure, Result.andThen_ok, invoke, builtin, hm, h1, h2, Builtin.min_, List.foldlM, Builtin.min2]
      · show Value.int k _ = Value.int k ((mkIte (mkLt R b a) b a).den d.Φ d.ρ)
        rw [mkIte_den, mkLt_den hR]
        by_cases hh : b.den d.Φ d.ρ < a.den d.Φ d.ρ <;> simp [hh]
  · cases h

/-- copy, from cells to a block of the call's own. -/
theorem op_copy {c : Call} {v : Operand → Option SV} {e : Operand → Value} {rd : Nat → Option Reg} {hp : List (Option Reg)} (hP : HP X d hp w) (hv : Reads d hp v e)
    (hrd : ∀ id r, rd id = some r → getH hp id = some r) (hc : c.callee = .builtin .copy) (h : opRun C R (.call c) v rd new = some r) (ho : o.op = .call c) :
    ∃ x w', (execOp e o).run C.P w = .ok (.value x) w' ∧ Aft X d hp (wrAll hp r.wr) r.val x w' := by
  simp only [opRun, hc] at h
  split at h
  · rename_i id off len cap id' off' len' cap' el hs hu
    split at h
    · rename_i g g' m hg hg' hm
      cases c1 : ((g.own && g.tl.isNone) && (Nat.ble (off + Nat.min len' len * m) g.cs.length && Nat.ble (off' + Nat.min len' len * m) g'.cs.length)) <;> simp only [c1, cond_false, cond_true] at h
      · cases h
      · cases h
        simp only [Bool.and_eq_true] at c1
        obtain ⟨⟨c1, ct⟩, c2, c3⟩ := c1
        have ct : g.tl = none := by simpa using ct
        have c2 := Nat.le_of_ble_eq_true c2
        have c3 := Nat.le_of_ble_eq_true c3
        have hg := hrd _ _ hg
        have hg' := hrd _ _ hg'
        obtain ⟨l1, l2, _⟩ := svs_spec hv hs
        have hz : ∃ y z, c.args.toList = [y, z] := by
          cases hl : c.args.toList with
          | nil => rw [hl] at l1; simp at l1
          | cons y r => cases r with
            | nil => rw [hl] at l1; simp at l1
            | cons z r => cases r with
              | nil => exact ⟨y, z, rfl⟩
              | cons _ _ => rw [hl] at l1; simp at l1
        obtain ⟨y, z, hy⟩ := hz
        have h1 := l2 0 (.one (.slc id off len cap)) (e y) rfl (by simp [hy])
        have h2 := l2 1 (.one (.slc id' off' len' cap')) (e z) rfl (by simp [hy])
        simp only [SV.is, Cell.den] at h1 h2
        have ha : c.args = #[y, z] := by rw [← Array.toArray_toList (xs := c.args), hy]
        rw [Option.bind_eq_some_iff] at hu
        obtain ⟨t, ht, hu⟩ := hu
        have hr := (hP.reg _ _ hg).zero ct
        unfold RegIs0 at hr
        rw [if_pos c1] at hr
        have hb : w.heap[(d.α id).1]? = some (.cells (g.cs.map (Cell.den d)).toArray g.ty (0, 0)) := hr.2.2
        have hld : (loadCells ⟨(d.α id').1, (d.α id').2 + off', none⟩ (Nat.min len' len * m)).run C.P w = .ok (((g'.cs.drop off').take (Nat.min len' len * m)).map (Cell.den d)).toArray w :=
          loadCells_run (by simp; omega) fun k q hq => by
            rw [List.getElem?_map, Option.map_eq_some_iff] at hq
            obtain ⟨c, hc, rfl⟩ := hq
            have := drop_take_get hc
            rw [Nat.add_assoc]
            exact (hP.reg _ _ hg').cell hP.bl this.1
        obtain ⟨w', g1, g2⟩ := storeCells_run (P := C.P) (off := off) (((g'.cs.drop off').take (Nat.min len' len * m)).map (Cell.den d)) 0 w (g.cs.map (Cell.den d)) hb (by simp; omega)
          (fun q hq => by obtain ⟨c, _, rfl⟩ := List.mem_map.1 hq; exact Cell.den_oneCell d c)
        refine ⟨.int .i64 (Nat.min len' len : Nat), w', ?_, d, Agree.refl _ _, Has.setH id _, ?_, rfl, trivial⟩
        · have hcp : (Builtin.copy_ c.argTypes o.type #[e y, e z]).run C.P w = .ok (.int .i64 (Nat.min len' len : Nat)) w' := by
            rw [h1, h2, hr.1, Nat.zero_add]
            have k0 : (#[Value.slice (some ⟨(d.α id).1, off, none⟩) len cap, Value.slice (some ⟨(d.α id').1, (d.α id').2 + off', none⟩) len' cap'] : Array Value)[0]? = some (.slice (some ⟨(d.α id).1, off, none⟩) len cap) := rfl
            have k1 : (#[Value.slice (some ⟨(d.α id).1, off, none⟩) len cap, Value.slice (some ⟨(d.α id').1, (d.α id').2 + off', none⟩) len' cap'] : Array Value)[1]? = some (.slice (some ⟨(d.α id').1, (d.α id').2 + off', none⟩) len' cap') := rfl
            simp only [Builtin.copy_, ht, k0, k1, Sem.run_bind, run_und hu, Result.andThen_ok, Builtin.lenOf, Sem.run_pure, run_size hm, Builtin.firstCells, hld, g1, goInt]
          have hmm : c.args.map e = #[e y, e z] := by rw [ha]; simp
          simp only [execOp, ho, resolve, hc, Sem.run_bind, Sem.run_pure, Result.andThen_ok, invoke, builtin, hmm, hcp]
        · refine hP.write hg c1 ct (cs := splice g.cs ((g'.cs.drop off').take (Nat.min len' len * m)) off) (fun q hq => ?_) ?_
          · rcases splice_mem hq with hq | hq
            · exact hP.ids _ _ hg q hq
            · exact hP.ids _ _ hg' q (List.mem_of_mem_drop (List.mem_of_mem_take hq))
          · simpa [splice, List.map_take, List.map_drop] using g2
    · cases h
  · cases h

theorem opRun_wp (hC : CTs C d.Φ Pr) (hR : RV d.Φ R d.ρ) (h : Sat X d S a w) {ids : List Nat}
    (hr : opRun C R o.op (valOf S) (fun id => bif memN id ids then getH S.heap id else none) new = some r)
    (hnew : isNew o.op = true → getH S.heap new = none ∧ new < S.heap.length) (hos : OsHold d.Φ Pr d.ρ r.os)
    (hK : ∀ d' a' w', Agree S.heap d d' → Sat X d' (r.put o.dst S) a' w' → K a' w') : o.wp C.P a w K Q := by
  have hv := h.reads
  have viaNew : isNew o.op = true → (∀ t x y, o.op ≠ .makeSlice t x y) → o.wp C.P a w K Q := fun hn hmk => by
    obtain ⟨n1, n2⟩ := hnew hn
    obtain ⟨x, w', h1, d', h2, h3, h4, h5, h6⟩ := op_new h.hp hv hr hn hmk n1 n2
    unfold Oper.wp
    rw [h1, Oper.upon_value]
    exact hK d' _ w' h2 (h.after h2 h3 h4 h5 h6 o.dst)
  cases hop : o.op with
  | move x => rw [hop] at hr; exact yld_wp h (op_move hv (by simpa [opRun] using hr) (.inl hop)) hK
  | assign x => rw [hop] at hr; exact yld_wp h (op_move hv (by simpa [opRun] using hr) (.inr hop)) hK
  | alloc t => exact viaNew (by rw [hop]; rfl) (by rw [hop]; intro _ _ _ e; cases e)
  | box t x => exact viaNew (by rw [hop]; rfl) (by rw [hop]; intro _ _ _ e; cases e)
  | buildSlice t n ps => exact viaNew (by rw [hop]; rfl) (by rw [hop]; intro _ _ _ e; cases e)
  | makeSlice t x y =>
    rw [hop] at hr
    obtain ⟨n1, n2⟩ := hnew (by rw [hop]; rfl)
    obtain ⟨q, w', h1, d', h2, h3, h4, h5, h6⟩ := op_make hR hos h.hp hv hr hop n1 n2
    unfold Oper.wp
    rw [h1, Oper.upon_value]
    exact hK d' _ w' h2 (h.after h2 h3 h4 h5 h6 o.dst)
  | build t ps => rw [hop] at hr; exact yld_wp h (op_build hv hr hop) hK
  | load t x => rw [hop] at hr; exact yld_wp h (op_load hR hos h.hp hv rd_ok hr hop) hK
  | store t x y =>
    rw [hop] at hr
    obtain ⟨w', h1, d', h2, h3, h4, h5, h6⟩ := op_store hR hos h.hp hv rd_ok hr hop
    unfold Oper.wp
    rw [h1, Oper.upon_skip]
    exact hK d' _ w' h2 (h.after h2 h3 h4 h5 h6 o.dst)
  | nilCheck x => rw [hop] at hr; exact yld_wp h (op_nilCheck hv hr hop) hK
  | binOp op t x y u => rw [hop] at hr; exact yld_wp h (op_binOp hR hv hr hop hos) hK
  | unOp u t x => rw [hop] at hr; exact yld_wp h (op_unOp hR hv hr hop) hK
  | convert s t x => rw [hop] at hr; exact yld_wp h (op_convert hR hv hr hop) hK
  | fieldAddr s x f => rw [hop] at hr; exact yld_wp h (op_fieldAddr hv hr hop) hK
  | field s x f => rw [hop] at hr; exact yld_wp h (op_field hv hr hop) hK
  | indexAddr t x i => rw [hop] at hr; exact yld_wp h (op_indexAddr h.hp rd_ok hR hv hr hop hos) hK
  | index t x i => rw [hop] at hr; exact yld_wp h (op_index hR hv hr hop hos) hK
  | extract t i => rw [hop] at hr; exact yld_wp h (op_extract hv hr hop) hK
  | call c =>
    rw [hop] at hr
    cases hc : c.callee with
    | value f =>
      have hr' := hr
      simp only [opRun, hc] at hr'
      split at hr'
      · rename_i g s as hg
        simp only [Option.map_eq_some_iff] at hr'
        obtain ⟨sv, hsv, rfl⟩ := hr'
        refine call_wp hC hR h.hp rfl hv rd_ok (by rw [hop]; exact hg) ?_ fun w' hw' => ?_
        · cases ht : s.total
          · right
            have := hos (.pre g as) (by simp [ht])
            exact this
          · exact .inl rfl
        · have hi := resSV_is (d := d) hsv
          rw [resComps_den hR] at hi
          exact hK d _ w' (Agree.refl _ _) (Sat.after (r := ⟨sv, [], bif s.total then [] else [.pre g as]⟩) h (Agree.refl _ _) (Has.refl _) hw' hi (resSV_ok hsv (resComps_plain R g as s.res 0)) o.dst)
      · cases hr'
    | invoke _ _ => simp only [opRun, hc] at hr; cases hr
    | builtin b =>
      cases b
      case len => exact yld_wp h (op_len hv hc hr hop) hK
      case max => exact yld_wp h (op_max hR hv hc hr hop) hK
      case min => exact yld_wp h (op_min hR hv hc hr hop) hK
      case copy =>
        obtain ⟨x, w', h1, d', h2, h3, h4, h5, h6⟩ := op_copy h.hp hv rd_ok hc hr hop
        unfold Oper.wp
        rw [h1, Oper.upon_value]
        exact hK d' _ w' h2 (h.after h2 h3 h4 h5 h6 o.dst)
      all_goals (simp only [opRun, hc] at hr; cases hr)
  | sliceToArrayPointer t x => rw [hop] at hr; exact yld_wp h (op_sl2ap hv hr hop) hK
  | slice t x lo hi mx =>
    rw [hop] at hr
    cases lo with
    | some _ => simp only [opRun] at hr; cases hr
    | none => cases mx with
      | some _ => simp only [opRun] at hr; cases hr
      | none => exact yld_wp h (op_slice hv hr hop) hK
  | pick _ _ _ | insert _ _ _ _ | ready _ | waits _ | makeInterface _ _ | makeFunc _ _ _ | makeMap _ _ | makeChan _ _
  | lookup _ _ _ _ | mapUpdate _ _ _ _ | mapEntry _ _ _ | entryStore _ _ _ _ | range _ _ | next _ _ | entry _ | typeAssert _ _ _ _ | go _ | defer _ | panic _
  | send _ _ | recv _ _ _ | select _ _ => rw [hop] at hr; simp only [opRun] at hr; cases hr

theorem isApp_of {q : Op} {c : Call} (h : appOp q = some c) : isApp q = true := by
  unfold appOp at h
  split at h
  · split at h
    · rename_i hc
      simp only [isApp, hc]
    · cases h
  · cases h
theorem op_max3 {c : Call} {v : Operand → Option SV} {e : Operand → Value} {rd : Nat → Option Reg} {hp : List (Option Reg)} (hR : RV d.Φ R d.ρ) (hv : Reads d hp v e)
    (h : moreRun C R v rd (.call c) = some r) (ho : o.op = .call c) : Yld C.P e o w d hp r := by
  simp only [moreRun] at h
  split at h
  · rename_i hc
    split at h
    · rename_i k a k' b k'' f hs
      cases hk : (decide (k = k') && decide (k = k'')) <;> simp only [hk, cond_false, cond_true] at h
      · cases h
      · cases h
        obtain ⟨l1, l2, _⟩ := svs_spec hv hs
        obtain ⟨p, q, t, hl⟩ : ∃ p q t, c.args.toList = [p, q, t] := by
          match hq : c.args.toList, l1 with
          | [p, q, t], _ => exact ⟨p, q, t, rfl⟩
        rw [hl] at l2
        have h1 := l2 0 _ (e p) rfl (by simp)
        have h2 := l2 1 _ (e q) rfl (by simp)
        have h3 := l2 2 _ (e t) rfl (by simp)
        simp only [SV.is, Cell.den] at h1 h2 h3
        have ha : c.args = #[p, q, t] := by rw [← Array.toArray_toList (xs := c.args), hl]
        refine ⟨.int k (if (if a.den d.Φ d.ρ < b.den d.Φ d.ρ then b.den d.Φ d.ρ else a.den d.Φ d.ρ) < f.den d.Φ d.ρ then f.den d.Φ d.ρ else (if a.den d.Φ d.ρ < b.den d.Φ d.ρ then b.den d.Φ d.ρ else a.den d.Φ d.ρ)), ?_, ?_, trivial, rfl⟩
        · have hm : c.args.map e = #[e p, e q, e t] := by rw [ha]; simp
          simp only [execOp, ho, resolve, hc, Sem.run_bind, Sem.run_pure, Result.andThen_ok, invoke, builtin, hm, h1, h2, h3, Builtin.max_, List.foldlM, Builtin.max2, gt_iff_lt]
        · show Value.int k _ = Value.int k (E.den d.Φ d.ρ (mkIte _ _ _))
          have em : (mkIte (mkLt R a b) b a).den d.Φ d.ρ = if a.den d.Φ d.ρ < b.den d.Φ d.ρ then b.den d.Φ d.ρ else a.den d.Φ d.ρ := by
            rw [mkIte_den, mkLt_den hR]
            by_cases hh : a.den d.Φ d.ρ < b.den d.Φ d.ρ <;> simp [hh]
          rw [mkIte_den, mkLt_den hR, em]
          generalize (if a.den d.Φ d.ρ < b.den d.Φ d.ρ then b.den d.Φ d.ρ else a.den d.Φ d.ρ) = m
          by_cases hh : m < f.den d.Φ d.ρ <;> simp [hh]
    · cases h
  · cases h
/-- A slice read by a variable, by another name of its length. -/
theorem op_remove {x : Operand} {v : Operand → Option SV} {e : Operand → Value} {rd : Nat → Option Reg} {hp : List (Option Reg)} (hR : RV d.Φ R d.ρ) (hos : OsHold d.Φ Pr d.ρ r.os) (hv : Reads d hp v e)
    (h : moreRun C R v rd (.move x) = some r) (ho : o.op = .move x) : Yld C.P e o w d hp r := by
  simp only [moreRun] at h
  split at h
  · rename_i id s off len hx
    split at h
    · rename_i g hg
      split at h
      · rename_i ks l htl
        generalize (g.own && _) = c at h
        cases c <;> simp only [cond_false, cond_true] at h
        · cases h
        · cases h
          have o1 := must_hold hos
          rw [mkEq_den hR] at o1
          have o1 := of_decide_eq_true o1
          have h1 := hv.is _ _ hx
          obtain ⟨k1, k2, k3⟩ : (getH hp id).isSome = true ∧ 0 ≤ off.den d.Φ d.ρ ∧ 0 ≤ len.den d.Φ d.ρ := hv.ok _ _ hx
          refine ⟨e x, ?_, ?_, ⟨k1, k2, ?_⟩, rfl⟩
          · simp only [execOp, ho, Sem.run_pure]
          · simp only [SV.is, Cell.den] at h1 ⊢
            rw [h1, o1]
          · rw [← o1]; exact k3
      · cases h
    · cases h
  · cases h
theorem bndE_run {v : Operand → Option SV} {e : Operand → Value} {hp : List (Option Reg)} (hv : Reads d hp v e) {len b : E} {y : Operand} (h : bndE v len (some y) = some b) : ∃ k, e y = .int k (b.den d.Φ d.ρ) := by
  simp only [bndE] at h
  split at h
  · rename_i k a hy
    cases h
    exact ⟨k, hv.is _ _ hy⟩
  · cases h
/-- The beginning of a slice. -/
theorem op_reslice {t : TypeId} {x : Operand} {hi : Option Operand} {v : Operand → Option SV} {e : Operand → Value} {rd : Nat → Option Reg} {hp : List (Option Reg)} (hR : RV d.Φ R d.ρ) (hos : OsHold d.Φ Pr d.ρ r.os) (hP : HP X d hp w) (hv : Reads d hp v e)
    (hrd : ∀ id r, rd id = some r → getH hp id = some r) (h : moreRun C R v rd (.slice t x none hi none) = some r) (ho : o.op = .slice t x none hi none) : Yld C.P e o w d hp r := by
  simp only [moreRun] at h
  split at h
  · rename_i el id s off len hu hx
    split at h
    · rename_i b g m hb hg hm
      split at h
      · rename_i ks l htl
        cases c : (Nat.beq m s && Nat.beq s ks.length) <;> simp only [c, cond_false, cond_true] at h
        · cases h
        · cases h
          simp only [Bool.and_eq_true] at c
          have c1 := Nat.eq_of_beq_eq_true c.1
          have c2 := Nat.eq_of_beq_eq_true c.2
          subst c1
          have hg := hrd _ _ hg
          have h1 := hv.is _ _ hx
          simp only [SV.is, Cell.den] at h1
          obtain ⟨k1, k2, k3⟩ : (getH hp id).isSome = true ∧ 0 ≤ off.den d.Φ d.ρ ∧ 0 ≤ len.den d.Φ d.ρ := hv.ok _ _ hx
          have b1 := must_hold (fun q hq => hos q (List.mem_append_left _ hq))
          have b2 := must_hold (fun q hq => hos q (List.mem_append_right _ hq))
          rw [mkLe_den hR] at b1 b2
          have b1 : 0 ≤ b.den d.Φ d.ρ := of_decide_eq_true b1
          have b2 := of_decide_eq_true b2
          rw [mkAdd_den, nelE_nat] at b2
          have hcap := (hP.reg _ _ hg).cap htl
          have hne : (l.den d.Φ d.ρ).length / m ≤ (d.κ id).getD 0 := by
            rw [c2]
            exact Nat.div_le_of_le_mul (by rw [Nat.mul_comm]; exact hcap)
          obtain ⟨p, hp'⟩ := Int.eq_ofNat_of_zero_le k2
          obtain ⟨n, hn'⟩ := Int.eq_ofNat_of_zero_le b1
          refine ⟨.slice (match d.κ id with | none => none | some _ => some ⟨(d.α id).1, (d.α id).2 + (off.den d.Φ d.ρ).toNat * m, none⟩) (b.den d.Φ d.ρ).toNat (match d.κ id with | none => 0 | some e => e - (off.den d.Φ d.ρ).toNat), ?_, rfl, ⟨k1, k2, b1⟩, rfl⟩
          rw [hp'] at h1 b2 ⊢
          rw [hn'] at b2 ⊢
          simp only [Int.toNat_natCast] at h1 ⊢
          have hmax : (n : Int) ≤ ((match d.κ id with | none => 0 | some e => e - p : Nat) : Int) := by
            cases hκ : d.κ id with
            | none => rw [hκ] at hne; simp only [Option.getD_none] at hne; simp only; omega
            | some q => rw [hκ] at hne; simp only [Option.getD_some] at hne; simp only; omega
          have hz : ∀ (a : Addr), a.add 0 = a := fun a => by simp [Addr.add]
          cases hi with
          | none =>
            have : b = len := by simpa [bndE] using hb.symm
            subst this
            rw [hn'] at h1
            simp only [Int.toNat_natCast] at h1
            cases hκ : d.κ id with
            | none =>
              rw [hκ] at h1
              simp only [execOp, ho, Option.map_none, Instr.sliceAt, Sem.run_bind, run_und hu, Result.andThen_ok, Instr.slice, h1, Instr.sliceBounds, Sem.run_pure, run_size hm, Nat.sub_zero, Nat.zero_mul]
              simp
            | some q =>
              rw [hκ] at h1
              simp only [execOp, ho, Option.map_none, Instr.sliceAt, Sem.run_bind, run_und hu, Result.andThen_ok, Instr.slice, h1, Instr.sliceBounds, Sem.run_pure, run_size hm, Nat.sub_zero, Nat.zero_mul]
              simp [hz]
          | some y =>
            obtain ⟨k, hy⟩ := bndE_run hv hb
            rw [hn'] at hy
            cases hκ : d.κ id with
            | none =>
              rw [hκ] at h1 hmax
              have hc : (0 : Int) ≤ (n : Int) ∧ (n : Int) ≤ ((0 : Nat) : Int) := ⟨by omega, hmax⟩
              simp only [execOp, ho, Option.map_none, Option.map_some, Instr.sliceAt, Sem.run_bind, run_und hu, Result.andThen_ok, Instr.slice, h1, Instr.sliceBounds, Instr.sliceBound, hy, asIntOf, Sem.run_pure, hc, and_self, if_true, run_size hm, Nat.sub_zero, Nat.zero_mul]
              simp
            | some q =>
              rw [hκ] at h1 hmax
              have hc : (0 : Int) ≤ (n : Int) ∧ (n : Int) ≤ ((q - p : Nat) : Int) := ⟨by omega, hmax⟩
              simp only [execOp, ho, Option.map_none, Option.map_some, Instr.sliceAt, Sem.run_bind, run_und hu, Result.andThen_ok, Instr.slice, h1, Instr.sliceBounds, Instr.sliceBound, hy, asIntOf, Sem.run_pure, hc, and_self, if_true, run_size hm, Nat.sub_zero, Nat.zero_mul]
              simp [hz]
      · cases h
    · cases h
  · cases h
theorem more_wp (hR : RV d.Φ R d.ρ) (h : Sat X d S a w) {ids : List Nat} (hr : moreRun C R (valOf S) (fun id => bif memN id ids then getH S.heap id else none) o.op = some r) (hos : OsHold d.Φ Pr d.ρ r.os)
    (hK : ∀ d' a' w', Agree S.heap d d' → Sat X d' (r.put o.dst S) a' w' → K a' w') : o.wp C.P a w K Q := by
  have hv := h.reads
  cases hop : o.op with
  | load t x => rw [hop] at hr; exact yld_wp h (op_lpload hR hos h.hp hv rd_ok hr hop) hK
  | store t x y =>
    rw [hop] at hr
    obtain ⟨w', h1, d', h2, h3, h4, h5, h6⟩ := op_lpstore hR hos h.hp hv rd_ok hr hop
    unfold Oper.wp
    rw [h1, Oper.upon_skip]
    exact hK d' _ w' h2 (h.after h2 h3 h4 h5 h6 o.dst)
  | call c => rw [hop] at hr; exact yld_wp h (op_max3 hR hv hr hop) hK
  | move x => rw [hop] at hr; exact yld_wp h (op_remove hR hos hv hr hop) hK
  | slice t x lo hi mx =>
    rw [hop] at hr
    cases lo with
    | some _ => simp only [moreRun] at hr; cases hr
    | none => cases mx with
      | some _ => simp only [moreRun] at hr; cases hr
      | none => exact yld_wp h (op_reslice hR hos h.hp hv rd_ok hr hop) hK
  | _ => rw [hop] at hr; simp only [moreRun] at hr; cases hr

theorem newsOf_none {q : Op} (h : copyFn C q = none) : newsOf C q = bif isNew q || isApp q then 1 else 0 := by
  unfold newsOf; rw [h]

theorem opStep_wp (hC : CTs C d.Φ Pr) (hR : RV d.Φ R d.ρ) (h : Sat X d S a w) {dec : Bool} (hr : opStep C R o.op dec S new = some r) (hdec : ∀ b, pickOf S o.op = some b → b.den d.Φ d.ρ = dec)
    (hnew : ∀ k, new ≤ k → k < new + newsOf C o.op → getH S.heap k = none ∧ k < S.heap.length) (hos : OsHold d.Φ Pr d.ρ r.os)
    (hK : ∀ d' a' w', Agree S.heap d d' → Sat X d' (r.put o.dst S) a' w' → K a' w') : o.wp C.P a w K Q := by
  unfold opStep at hr
  split at hr
  · rename_i c x y hop
    split at hr
    · rename_i b hb
      simp only [Option.map_eq_some_iff] at hr
      obtain ⟨sv, hs, rfl⟩ := hr
      have hd := hdec b (by simp only [hop, pickOf, hb])
      have hc := h.reads.is _ _ hb
      simp only [SV.is, Cell.den] at hc
      refine yld_wp h ?_ hK
      refine ⟨a.eval (bif dec then x else y), ?_, h.reads.is _ _ hs, h.reads.ok _ _ hs, rfl⟩
      simp only [execOp, hop, hc, asBool, Sem.run_bind, Sem.run_pure, Result.andThen_ok, hd]
      cases dec <;> rfl
    · cases hr
  · split at hr
    · rename_i g p tys hcf
      refine copy_wp hC hR h.hp rfl h.reads rd_ok hcf hr hnew hos fun x w' ⟨d', h2, h3, h4, h5, h6⟩ => ?_
      exact hK d' _ w' h2 (h.after h2 h3 h4 h5 h6 o.dst)
    · rename_i hcf
      split at hr
      · rename_i r' hmr
        cases hr
        exact more_wp hR h hmr hos hK
      · split at hr
        · rename_i c hap
          obtain ⟨n1, n2⟩ := hnew new (Nat.le_refl _) (by rw [newsOf_none hcf, isApp_of hap, Bool.or_true]; exact Nat.lt_succ_self _)
          obtain ⟨q, w', h1, d', h2, h3, h4, h5, h6⟩ := op_app hR hos h.hp h.reads rd_ok hap hr n1 n2
          unfold Oper.wp
          rw [h1, Oper.upon_value]
          exact hK d' _ w' h2 (h.after h2 h3 h4 h5 h6 o.dst)
        · split at hr
          · rename_i p hnl
            cases hr
            have hnw : isNew o.op = true := by
              unfold nilOp at hnl
              split at hnl
              · rename_i hop; rw [hop]; rfl
              · cases hnl
            obtain ⟨n1, n2⟩ := hnew new (Nat.le_refl _) (by rw [newsOf_none hcf, hnw, Bool.true_or]; exact Nat.lt_succ_self _)
            obtain ⟨q, w', h1, d', h2, h3, h4, h5, h6⟩ := op_nil (e := a.eval) h.hp hnl n1 n2
            unfold Oper.wp
            rw [h1, Oper.upon_value]
            exact hK d' _ w' h2 (h.after h2 h3 h4 h5 h6 o.dst)
          · refine opRun_wp hC hR h hr (fun hn => hnew new (Nat.le_refl _) ?_) hos hK
            rw [newsOf_none hcf, hn, Bool.true_or]; exact Nat.lt_succ_self _

/-! ### Guards -/
theorem wanted_none (h : o.guard = none) (f : Nat → Option Bool) : Region.wanted o f = true := by
  simp [Region.wanted, h]

/-- What the executor asks of a guard is what the model asks. -/
theorem guardOf_spec {ops : Array Oper} (h : Sat X d S a w) : match guardOf ops S o with
    | .run => Region.wanted o (yielded ops a.tmps) = true
    | .skip => Region.wanted o (yielded ops a.tmps) = false
    | .ask b => Region.wanted o (yielded ops a.tmps) = b.den d.Φ d.ρ
    | .bad => True := by
  unfold guardOf
  cases hg : o.guard with
  | none => exact wanted_none hg _
  | some gw =>
    obtain ⟨g, want⟩ := gw
    simp only
    cases ht : (ops[g]?).bind (·.dst) with
    | none => trivial
    | some t =>
      have his := h.tm.is t
      have hgetD : ∀ x, a.tmps.getD t undef = x → x ≠ undef → a.tmps[t]? = some x := fun x hx hn => by
        cases hq : a.tmps[t]? with
        | none => simp [hq] at hx; exact absurd hx.symm hn
        | some y => simp [hq] at hx; rw [hx]
      have hyd : yielded ops a.tmps g = match a.tmps[t]? with | some (.bool b) => some b | _ => none := by
        simp only [yielded, ht, Option.bind_some]
        cases a.tmps[t]? with
        | none => rfl
        | some y => cases y <;> rfl
      simp only
      cases hsv : getT S.tmps t with
      | one c =>
        rw [hsv] at his
        cases c with
        | bool b =>
          simp only [SV.is, Cell.den] at his
          have := hgetD _ his (fun h => by cases h)
          simp only [Region.wanted, hg, hyd, this]
          cases want <;> simp [mkNot_den] <;> cases b.den d.Φ d.ρ <;> rfl
        | _ => trivial
      | tup vs =>
        rw [hsv] at his
        cases vs with
        | nil =>
          simp only [SV.is, List.map_nil] at his
          simp only [Region.wanted, hg, hyd]
          cases hq : a.tmps[t]? with
          | none => rfl
          | some y =>
            simp [hq] at his
            subst his
            rfl
        | cons _ _ => trivial
      | agg _ => trivial
      | any => trivial
end
end Go.Proofs.Ytfpodondpanmaaa.Sx
