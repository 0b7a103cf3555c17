/-
  The symbolic executor: one operation of a region, whole.
-/
import Derived.Laws.BytesString
import Derived.Test.YtelfpnkhdaaeoaaDoorSxI
import Derived.Test.YtelfpnkhdaaeoaaDoorSxV
namespace Go.Proofs.YtelfpnkhdaaeoaaDoor.Sx
open Go Go.RowKit

section
variable {C : Cfg} {R : Bds} {X : Ctx} {d : Dn} {w : World} {S : St} {a : Act} {Pr : Pres} {new : Nat} {r : Res} {o : Oper}
  {K : Act → World → Prop} {Q : Exit → Act → World → Prop}

theorem memN_iff {x : Nat} : ∀ {l : List Nat}, memN x l = true ↔ x ∈ l
  | [] => by simp [memN]
  | y :: r => by
    simp only [memN, Bool.or_eq_true, memN_iff (l := r), List.mem_cons]
    refine or_congr ⟨fun h => Nat.eq_of_beq_eq_true h, fun h => by subst h; exact Nat.beq_refl _⟩ Iff.rfl

theorem rd_ok {hp : List (Option Reg)} {ids : List Nat} : ∀ id r, (bif memN id ids then getH hp id else none) = some r → getH hp id = some r := fun id r h => by
  cases c : memN id ids <;> simp only [c, cond_false, cond_true] at h
  · cases h
  · exact h

theorem Sat.reads (h : Sat X d S a w) : Reads d S.heap (valOf S) a.eval := h.tm.reads

theorem Sat.after (h : Sat X d S a w) {d' : Dn} {x : Value} {w' : World} (ha : Agree S.heap d d') (hh : Has S.heap (wrAll S.heap r.wr)) (hP : HP X d' (wrAll S.heap r.wr) w')
    (hi : r.val.is d' x) (hk : r.val.ok d' (wrAll S.heap r.wr)) (dst : Option Nat) : Sat X d' (r.put dst S) (a.put dst x) w' where
  df := by cases dst <;> exact h.df
  tm := (h.tm.agree ha hh).put hi hk dst
  hp := hP

theorem yld_wp (h : Sat X d S a w) (hy : Yld C.P a.eval o w d S.heap r) (hK : ∀ d' a' w', Agree S.heap d d' → Sat X d' (r.put o.dst S) a' w' → K a' w') : o.wp C.P a w K Q := by
  obtain ⟨x, h1, h2, h3, h4⟩ := hy
  unfold Oper.wp
  rw [h1, Oper.upon_value]
  exact hK d _ w (Agree.refl _ _) (h.after (Agree.refl _ _) (by rw [h4]; exact Has.refl _) (by rw [h4]; exact h.hp) h2 (by rw [h4]; exact h3) o.dst)

theorem op_len {c : Call} {v : Operand → Option SV} {e : Operand → Value} {rd : Nat → Option Reg} {hp : List (Option Reg)} (hv : Reads d hp v e)
    (hc : c.callee = .builtin .len) (h : opRun C R (.call c) v rd new = some r) (ho : o.op = .call c) : Yld C.P e o w d hp r := by
  simp only [opRun, hc] at h
  split at h
  · rename_i l hs hu
    cases h
    obtain ⟨l1, l2, _⟩ := svs_spec hv hs
    have hz : ∃ y, c.args.toList = [y] := by
      cases hl : c.args.toList with
      | nil => rw [hl] at l1; simp at l1
      | cons y r => cases r with
        | nil => exact ⟨y, rfl⟩
        | cons _ _ => rw [hl] at l1; simp at l1
    obtain ⟨y, hy⟩ := hz
    have h1 := l2 0 (.one (.str l)) (e y) rfl (by simp [hy])
    simp only [SV.is, Cell.den] at h1
    have ha : c.args = #[y] := by rw [← Array.toArray_toList (xs := c.args), hy]
    rw [Option.bind_eq_some_iff] at hu
    obtain ⟨t, ht, hu⟩ := hu
    refine ⟨.int .i64 ((l.den d.Φ d.ρ).length : Int), ?_, rfl, trivial, rfl⟩
    have hlen : (Builtin.len_ c.argTypes o.type #[e y]).run C.P w = .ok (.int .i64 ((l.den d.Φ d.ρ).length : Int)) w := by
      rw [h1]
      have h0 : (#[Value.string ⟨((l.den d.Φ d.ρ).map u8).toArray⟩] : Array Value)[0]? = some (.string ⟨((l.den d.Φ d.ρ).map u8).toArray⟩) := rfl
      simp only [Builtin.len_, ht, h0, Sem.run_bind, run_und hu, Result.andThen_ok, Sem.run_pure, goInt, ByteArray.size, List.size_toArray, List.length_map]
    have hm : c.args.map e = #[e y] := by rw [ha]; simp
    simp only [execOp, ho, resolve, hc, Sem.run_bind, Sem.run_pure, Result.andThen_ok, invoke, builtin, hm, hlen]
  · rename_i sv n _ hs hu
    cases h
    obtain ⟨l1, l2, _⟩ := svs_spec hv hs
    have hz : ∃ y, c.args.toList = [y] := by
      cases hl : c.args.toList with
      | nil => rw [hl] at l1; simp at l1
      | cons y r => cases r with
        | nil => exact ⟨y, rfl⟩
        | cons _ _ => rw [hl] at l1; simp at l1
    obtain ⟨y, hy⟩ := hz
    have ha : c.args = #[y] := by rw [← Array.toArray_toList (xs := c.args), hy]
    rw [Option.bind_eq_some_iff] at hu
    obtain ⟨t, ht, hu⟩ := hu
    refine ⟨.int .i64 (n : Int), ?_, rfl, trivial, rfl⟩
    have hlen : (Builtin.len_ c.argTypes o.type #[e y]).run C.P w = .ok (.int .i64 (n : Int)) w := by
      have h0 : (#[e y] : Array Value)[0]? = some (e y) := rfl
      simp only [Builtin.len_, ht, h0, Sem.run_bind, run_und hu, Result.andThen_ok, Sem.run_pure, goInt]
    have hm : c.args.map e = #[e y] := by rw [ha]; simp
    simp only [execOp, ho, resolve, hc, Sem.run_bind, Sem.run_pure, Result.andThen_ok, invoke, builtin, hm, hlen]
  · rename_i id off n cap _ hs hu
    cases h
    obtain ⟨l1, l2, _⟩ := svs_spec hv hs
    have hz : ∃ y, c.args.toList = [y] := by
      cases hl : c.args.toList with
      | nil => rw [hl] at l1; simp at l1
      | cons y r => cases r with
        | nil => exact ⟨y, rfl⟩
        | cons _ _ => rw [hl] at l1; simp at l1
    obtain ⟨y, hy⟩ := hz
    have h1 := l2 0 (.one (.slc id off n cap)) (e y) rfl (by simp [hy])
    simp only [SV.is, Cell.den] at h1
    have ha : c.args = #[y] := by rw [← Array.toArray_toList (xs := c.args), hy]
    rw [Option.bind_eq_some_iff] at hu
    obtain ⟨t, ht, hu⟩ := hu
    refine ⟨.int .i64 (n : Int), ?_, rfl, trivial, rfl⟩
    have hlen : (Builtin.len_ c.argTypes o.type #[e y]).run C.P w = .ok (.int .i64 (n : Int)) w := by
      rw [h1]
      have h0 : (#[Value.slice (some ⟨(d.α id).1, (d.α id).2 + off, none⟩) n cap] : Array Value)[0]? = some (.slice (some ⟨(d.α id).1, (d.α id).2 + off, none⟩) n cap) := rfl
      simp only [Builtin.len_, ht, h0, Sem.run_bind, run_und hu, Result.andThen_ok, Sem.run_pure, goInt]
    have hm : c.args.map e = #[e y] := by rw [ha]; simp
    simp only [execOp, ho, resolve, hc, Sem.run_bind, Sem.run_pure, Result.andThen_ok, invoke, builtin, hm, hlen]
  · rename_i id s off n _ hs hu
    cases h
    obtain ⟨l1, l2, l3⟩ := svs_spec hv hs
    have hz : ∃ y, c.args.toList = [y] := by
      cases hl : c.args.toList with
      | nil => rw [hl] at l1; simp at l1
      | cons y r => cases r with
        | nil => exact ⟨y, rfl⟩
        | cons _ _ => rw [hl] at l1; simp at l1
    obtain ⟨y, hy⟩ := hz
    have h1 := l2 0 (.one (.sl id s off n)) (e y) rfl (by simp [hy])
    simp only [SV.is, Cell.den] at h1
    obtain ⟨q, cp, h1⟩ : ∃ q cp, e y = .slice q (n.den d.Φ d.ρ).toNat cp := ⟨_, _, h1⟩
    have hok : (SV.one (.sl id s off n)).ok d hp := l3 _ (by simp)
    obtain ⟨_, _, hn⟩ : (getH hp id).isSome = true ∧ 0 ≤ off.den d.Φ d.ρ ∧ 0 ≤ n.den d.Φ d.ρ := hok
    have ha : c.args = #[y] := by rw [← Array.toArray_toList (xs := c.args), hy]
    rw [Option.bind_eq_some_iff] at hu
    obtain ⟨t, ht, hu⟩ := hu
    refine ⟨.int .i64 (n.den d.Φ d.ρ), ?_, rfl, trivial, rfl⟩
    have hlen : (Builtin.len_ c.argTypes o.type #[e y]).run C.P w = .ok (.int .i64 (n.den d.Φ d.ρ)) w := by
      rw [h1]
      have h0 : (#[Value.slice q (n.den d.Φ d.ρ).toNat cp] : Array Value)[0]? = some (.slice q (n.den d.Φ d.ρ).toNat cp) := rfl
      simp only [Builtin.len_, ht, h0, Sem.run_bind, run_und hu, Result.andThen_ok, Sem.run_pure, goInt, Int.toNat_of_nonneg hn]
    have hm : c.args.map e = #[e y] := by rw [ha]; simp
    simp only [execOp, ho, resolve, hc, Sem.run_bind, Sem.run_pure, Result.andThen_ok, invoke, builtin, hm, hlen]
  · rename_i _ hs hu
    cases h
    obtain ⟨l1, l2, _⟩ := svs_spec hv hs
    have hz : ∃ y, c.args.toList = [y] := by
      cases hl : c.args.toList with
      | nil => rw [hl] at l1; simp at l1
      | cons y r => cases r with
        | nil => exact ⟨y, rfl⟩
        | cons _ _ => rw [hl] at l1; simp at l1
    obtain ⟨y, hy⟩ := hz
    have h1 := l2 0 (.one .nils) (e y) rfl (by simp [hy])
    simp only [SV.is, Cell.den] at h1
    have ha : c.args = #[y] := by rw [← Array.toArray_toList (xs := c.args), hy]
    rw [Option.bind_eq_some_iff] at hu
    obtain ⟨t, ht, hu⟩ := hu
    refine ⟨.int .i64 0, ?_, rfl, trivial, rfl⟩
    have hlen : (Builtin.len_ c.argTypes o.type #[e y]).run C.P w = .ok (.int .i64 0) w := by
      rw [h1]
      have h0 : (#[Value.slice none 0 0] : Array Value)[0]? = some (.slice none 0 0) := rfl
      simp only [Builtin.len_, ht, h0, Sem.run_bind, run_und hu, Result.andThen_ok, Sem.run_pure, goInt]
      rfl
    have hm : c.args.map e = #[e y] := by rw [ha]; simp
    simp only [execOp, ho, resolve, hc, Sem.run_bind, Sem.run_pure, Result.andThen_ok, invoke, builtin, hm, hlen]
  · cases h

theorem mkIte_den {Φ : Fns} {ρ : Env} (c : B) (a b : E) : (mkIte c a b).den Φ ρ = if c.den Φ ρ then a.den Φ ρ else b.den Φ ρ := by
  unfold mkIte
  split <;> simp [E.den, B.den]

theorem op_max {c : Call} {v : Operand → Option SV} {e : Operand → Value} {rd : Nat → Option Reg} {hp : List (Option Reg)} (hR : RV d.Φ R d.ρ) (hv : Reads d hp v e)
    (hc : c.callee = .builtin .max) (h : opRun C R (.call c) v rd new = some r) (ho : o.op = .call c) : Yld C.P e o w d hp r := by
  simp only [opRun, hc] at h
  split at h
  · rename_i k a k' b hs
    cases hk : decide (k = k') <;> simp only [hk, cond_false, cond_true] at h
    · cases h
    · cases h
      obtain ⟨p, q, hl, h1, h2⟩ := two_args hv hs
      simp only [SV.is, Cell.den] at h1 h2
      have ha : c.args = #[p, q] := by rw [← Array.toArray_toList (xs := c.args), hl]
      refine ⟨.int k (if a.den d.Φ d.ρ < b.den d.Φ d.ρ then b.den d.Φ d.ρ else a.den d.Φ d.ρ), ?_, ?_, trivial, rfl⟩
      · have hm : c.args.map e = #[e p, e q] := by rw [ha]; simp
        simp only [execOp, ho, resolve, hc, Sem.run_bind, Sem.run_pure, Result.andThen_ok, invoke, builtin, hm, h1, h2, Builtin.max_, List.foldlM, Builtin.max2, gt_iff_lt]
      · show Value.int k _ = Value.int k ((mkIte (mkLt R a b) b a).den d.Φ d.ρ)
        rw [mkIte_den, mkLt_den hR]
        by_cases hh : a.den d.Φ d.ρ < b.den d.Φ d.ρ <;> simp [hh]
  · cases h

theorem op_min {c : Call} {v : Operand → Option SV} {e : Operand → Value} {rd : Nat → Option Reg} {hp : List (Option Reg)} (hR : RV d.Φ R d.ρ) (hv : Reads d hp v e)
    (hc : c.callee = .builtin .min) (h : opRun C R (.call c) v rd new = some r) (ho : o.op = .call c) : Yld C.P e o w d hp r := by
  simp only [opRun, hc] at h
  split at h
  · rename_i k a k' b hs
    cases hk : decide (k = k') <;> simp only [hk, cond_false, cond_true] at h
    · cases h
    · cases h
      obtain ⟨p, q, hl, h1, h2⟩ := two_args hv hs
      simp only [SV.is, Cell.den] at h1 h2
      have ha : c.args = #[p, q] := by rw [← Array.toArray_toList (xs := c.args), hl]
      refine ⟨.int k (if b.den d.Φ d.ρ < a.den d.Φ d.ρ then b.den d.Φ d.ρ else a.den d.Φ d.ρ), ?_, ?_, trivial, rfl⟩
      · have hm : c.args.map e = #[e p, e q] := by rw [ha]; simp
        simp only [execOp, ho, resolve, hc, Sem.run_bind, Sem.run_pure, Result.andThen_ok, invoke, builtin, hm, h1, h2, Builtin.min_, List.foldlM, Builtin.min2]
      · show Value.int k _ = Value.int k ((mkIte (mkLt R b a) b a).den d.Φ d.ρ)
        rw [mkIte_den, mkLt_den hR]
        by_cases hh : b.den d.Φ d.ρ < a.den d.Φ d.ρ <;> simp [hh]
  · cases h

/-- copy, from cells to a block of the call's own. -/
theorem op_copy {c : Call} {v : Operand → Option SV} {e : Operand → Value} {rd : Nat → Option Reg} {hp : List (Option Reg)} (hP : HP X d hp w) (hv : Reads d hp v e)
    (hrd : ∀ id r, rd id = some r → getH hp id = some r) (hc : c.callee = .builtin .copy) (h : opRun C R (.call c) v rd new = some r) (ho : o.op = .call c) :
    ∃ x w', (execOp e o).run C.P w = .ok (.value x) w' ∧ Aft X d hp (wrAll hp r.wr) r.val x w' := by
  simp only [opRun, hc] at h
  split at h
  · rename_i id off len cap id' off' len' cap' el hs hu
    split at h
    · rename_i g g' m hg hg' hm
      cases c1 : ((g.own && g.tl.isNone) && (Nat.ble (off + Nat.min len' len * m) g.cs.length && Nat.ble (off' + Nat.min len' len * m) g'.cs.length)) <;> simp only [c1, cond_false, cond_true] at h
      · cases h
      · cases h
        simp only [Bool.and_eq_true] at c1
        obtain ⟨⟨c1, ct⟩, c2, c3⟩ := c1
        have ct : g.tl = none := by simpa using ct
        have c2 := Nat.le_of_ble_eq_true c2
        have c3 := Nat.le_of_ble_eq_true c3
        have hg := hrd _ _ hg
        have hg' := hrd _ _ hg'
        obtain ⟨l1, l2, _⟩ := svs_spec hv hs
        have hz : ∃ y z, c.args.toList = [y, z] := by
          cases hl : c.args.toList with
          | nil => rw [hl] at l1; simp at l1
          | cons y r => cases r with
            | nil => rw [hl] at l1; simp at l1
            | cons z r => cases r with
              | nil => exact ⟨y, z, rfl⟩
              | cons _ _ => rw [hl] at l1; simp at l1
        obtain ⟨y, z, hy⟩ := hz
        have h1 := l2 0 (.one (.slc id off len cap)) (e y) rfl (by simp [hy])
        have h2 := l2 1 (.one (.slc id' off' len' cap')) (e z) rfl (by simp [hy])
        simp only [SV.is, Cell.den] at h1 h2
        have ha : c.args = #[y, z] := by rw [← Array.toArray_toList (xs := c.args), hy]
        rw [Option.bind_eq_some_iff] at hu
        obtain ⟨t, ht, hu⟩ := hu
        have hr := (hP.reg _ _ hg).zero ct
        unfold RegIs0 at hr
        rw [if_pos c1] at hr
        have hb : w.heap[(d.α id).1]? = some (.cells (g.cs.map (Cell.den d)).toArray g.ty (0, 0)) := hr.2.2
        have hld : (loadCells ⟨(d.α id').1, (d.α id').2 + off', none⟩ (Nat.min len' len * m)).run C.P w = .ok (((g'.cs.drop off').take (Nat.min len' len * m)).map (Cell.den d)).toArray w :=
          loadCells_run (by simp; omega) fun k q hq => by
            rw [List.getElem?_map, Option.map_eq_some_iff] at hq
            obtain ⟨c, hc, rfl⟩ := hq
            have := drop_take_get hc
            rw [Nat.add_assoc]
            exact (hP.reg _ _ hg').cell hP.bl this.1
        obtain ⟨w', g1, g2⟩ := storeCells_run (P := C.P) (off := off) (((g'.cs.drop off').take (Nat.min len' len * m)).map (Cell.den d)) 0 w (g.cs.map (Cell.den d)) hb (by simp; omega)
          (fun q hq => by obtain ⟨c, _, rfl⟩ := List.mem_map.1 hq; exact Cell.den_oneCell d c)
        refine ⟨.int .i64 (Nat.min len' len : Nat), w', ?_, d, Agree.refl _ _, Has.setH id _, ?_, rfl, trivial⟩
        · have hcp : (Builtin.copy_ c.argTypes o.type #[e y, e z]).run C.P w = .ok (.int .i64 (Nat.min len' len : Nat)) w' := by
            rw [h1, h2, hr.1, Nat.zero_add]
            have k0 : (#[Value.slice (some ⟨(d.α id).1, off, none⟩) len cap, Value.slice (some ⟨(d.α id').1, (d.α id').2 + off', none⟩) len' cap'] : Array Value)[0]? = some (.slice (some ⟨(d.α id).1, off, none⟩) len cap) := rfl
            have k1 : (#[Value.slice (some ⟨(d.α id).1, off, none⟩) len cap, Value.slice (some ⟨(d.α id').1, (d.α id').2 + off', none⟩) len' cap'] : Array Value)[1]? = some (.slice (some ⟨(d.α id').1, (d.α id').2 + off', none⟩) len' cap') := rfl
            simp only [Builtin.copy_, ht, k0, k1, Sem.run_bind, run_und hu, Result.andThen_ok, Builtin.lenOf, Sem.run_pure, run_size hm, Builtin.firstCells, hld, g1, goInt]
          have hmm : c.args.map e = #[e y, e z] := by rw [ha]; simp
          simp only [execOp, ho, resolve, hc, Sem.run_bind, Sem.run_pure, Result.andThen_ok, invoke, builtin, hmm, hcp]
        · refine hP.write hg c1 ct (cs := splice g.cs ((g'.cs.drop off').take (Nat.min len' len * m)) off) (fun q hq => ?_) ?_
          · rcases splice_mem hq with hq | hq
            · exact hP.ids _ _ hg q hq
            · exact hP.ids _ _ hg' q (List.mem_of_mem_drop (List.mem_of_mem_take hq))
          · simpa [splice, List.map_take, List.map_drop] using g2
    · cases h
  · cases h

theorem opRun_wp (hC : CTs C d.Φ Pr) (hR : RV d.Φ R d.ρ) (h : Sat X d S a w) {ids : List Nat}
    (hr : opRun C R o.op (valOf S) (fun id => bif memN id ids then getH S.heap id else none) new = some r)
    (hnew : isNew o.op = true → getH S.heap new = none ∧ new < S.heap.length) (hos : OsHold d.Φ Pr d.ρ r.os)
    (hpan : ∀ e, O.pan e ∈ r.os → e.den d.Φ d.ρ ≠ 0 → ∀ w', Bl X w' → Q (.panic (panicV C.pty (e.den d.Φ d.ρ))) a w')
    (hK : ∀ d' a' w', Agree S.heap d d' → Sat X d' (r.put o.dst S) a' w' → K a' w') : o.wp C.P a w K Q := by
  have hv := h.reads
  have viaNew : isNew o.op = true → (∀ t x y, o.op ≠ .makeSlice t x y) → o.wp C.P a w K Q := fun hn hmk => by
    obtain ⟨n1, n2⟩ := hnew hn
    obtain ⟨x, w', h1, d', h2, h3, h4, h5, h6⟩ := op_new h.hp hv hr hn hmk n1 n2
    unfold Oper.wp
    rw [h1, Oper.upon_value]
    exact hK d' _ w' h2 (h.after h2 h3 h4 h5 h6 o.dst)
  cases hop : o.op with
  | move x => rw [hop] at hr; exact yld_wp h (op_move hv (by simpa [opRun] using hr) (.inl hop)) hK
  | assign x => rw [hop] at hr; exact yld_wp h (op_move hv (by simpa [opRun] using hr) (.inr hop)) hK
  | alloc t => exact viaNew (by rw [hop]; rfl) (by rw [hop]; intro _ _ _ e; cases e)
  | box t x => exact viaNew (by rw [hop]; rfl) (by rw [hop]; intro _ _ _ e; cases e)
  | buildSlice t n ps => exact viaNew (by rw [hop]; rfl) (by rw [hop]; intro _ _ _ e; cases e)
  | makeSlice t x y =>
    rw [hop] at hr
    obtain ⟨n1, n2⟩ := hnew (by rw [hop]; rfl)
    obtain ⟨q, w', h1, d', h2, h3, h4, h5, h6⟩ := op_make hR hos h.hp hv hr hop n1 n2
    unfold Oper.wp
    rw [h1, Oper.upon_value]
    exact hK d' _ w' h2 (h.after h2 h3 h4 h5 h6 o.dst)
  | build t ps => rw [hop] at hr; exact yld_wp h (op_build hv hr hop) hK
  | load t x => rw [hop] at hr; exact yld_wp h (op_load hR hos h.hp hv rd_ok hr hop) hK
  | store t x y =>
    rw [hop] at hr
    obtain ⟨w', h1, d', h2, h3, h4, h5, h6⟩ := op_store hR hos h.hp hv rd_ok hr hop
    unfold Oper.wp
    rw [h1, Oper.upon_skip]
    exact hK d' _ w' h2 (h.after h2 h3 h4 h5 h6 o.dst)
  | nilCheck x => rw [hop] at hr; exact yld_wp h (op_nilCheck hv hr hop) hK
  | binOp op t x y u => rw [hop] at hr; exact yld_wp h (op_binOp hR hv hr hop hos) hK
  | makeInterface t x => rw [hop] at hr; exact yld_wp h (op_mkIfc hv hr hop) hK
  | unOp u t x => rw [hop] at hr; exact yld_wp h (op_unOp hR hv hr hop) hK
  | convert s t x => rw [hop] at hr; exact yld_wp h (op_convert hR hv hr hop) hK
  | fieldAddr s x f => rw [hop] at hr; exact yld_wp h (op_fieldAddr hv hr hop) hK
  | field s x f => rw [hop] at hr; exact yld_wp h (op_field hv hr hop) hK
  | indexAddr t x i => rw [hop] at hr; exact yld_wp h (op_indexAddr h.hp rd_ok hR hv hr hop hos) hK
  | index t x i => rw [hop] at hr; exact yld_wp h (op_index hR hv hr hop hos) hK
  | extract t i => rw [hop] at hr; exact yld_wp h (op_extract hv hr hop) hK
  | call c =>
    rw [hop] at hr
    cases hc : c.callee with
    | value f =>
      have hr' := hr
      simp only [opRun, hc] at hr'
      split at hr'
      · rename_i g s as hg
        cases hnp : memN g C.pfs <;> simp only [hnp, cond_false, cond_true] at hr'
        rotate_left
        · cases hpk : (isPanOp C (.call c) && pfOk s) <;> simp only [hpk, cond_false, cond_true] at hr'
          · cases hr'
          simp only [Option.map_eq_some_iff] at hr'
          obtain ⟨sv, hsv, rfl⟩ := hr'
          have e0 : (E.app g 0 as).den d.Φ d.ρ = (d.Φ g (as.denE d.Φ d.ρ) (as.denL d.Φ d.ρ)).1.getD 0 0 := rfl
          refine pcall_wp hC hR h.hp rfl hv rd_ok (by rw [hop]; exact hg) hnp ?_ (fun w' hw' h0 => ?_) fun w' hw' h0 => ?_
          · cases ht : s.total
            · right
              have := hos (.pre g as) (by simp [ht])
              exact this
            · exact .inl rfl
          · have hi := resSV_is (d := d) hsv
            rw [resComps_den hR] at hi
            exact hK d _ w' (Agree.refl _ _) (Sat.after (r := ⟨sv, [], (bif s.total then [] else [.pre g as]) ++ [.pan (.app g 0 as)]⟩) h (Agree.refl _ _) (Has.refl _) hw' hi (resSV_ok hsv (resComps_plain R g as s.res.tail 1)) o.dst)
          · have := hpan (.app g 0 as) (by simp) (by rw [e0]; exact h0) w' hw'
            rw [e0] at this
            exact this
        simp only [Option.map_eq_some_iff] at hr'
        obtain ⟨sv, hsv, rfl⟩ := hr'
        refine call_wp hC hR h.hp rfl hv rd_ok (by rw [hop]; exact hg) hnp ?_ fun w' hw' => ?_
        · cases ht : s.total
          · right
            have := hos (.pre g as) (by simp [ht])
            exact this
          · exact .inl rfl
        · have hi := resSV_is (d := d) hsv
          rw [resComps_den hR] at hi
          exact hK d _ w' (Agree.refl _ _) (Sat.after (r := ⟨sv, [], bif s.total then [] else [.pre g as]⟩) h (Agree.refl _ _) (Has.refl _) hw' hi (resSV_ok hsv (resComps_plain R g as s.res 0)) o.dst)
      · cases hr'
    | invoke _ _ => simp only [opRun, hc] at hr; cases hr
    | builtin b =>
      cases b
      case len => exact yld_wp h (op_len hv hc hr hop) hK
      case max => exact yld_wp h (op_max hR hv hc hr hop) hK
      case min => exact yld_wp h (op_min hR hv hc hr hop) hK
      case copy =>
        obtain ⟨x, w', h1, d', h2, h3, h4, h5, h6⟩ := op_copy h.hp hv rd_ok hc hr hop
        unfold Oper.wp
        rw [h1, Oper.upon_value]
        exact hK d' _ w' h2 (h.after h2 h3 h4 h5 h6 o.dst)
      all_goals (simp only [opRun, hc] at hr; cases hr)
  | sliceToArrayPointer t x => rw [hop] at hr; exact yld_wp h (op_sl2ap hv hr hop) hK
  | slice t x lo hi mx =>
    rw [hop] at hr
    cases lo with
    | some _ => simp only [opRun] at hr; cases hr
    | none => cases mx with
      | some _ => simp only [opRun] at hr; cases hr
      | none => exact yld_wp h (op_slice hv hr hop) hK
  | pick _ _ _ | insert _ _ _ _ | ready _ | waits _ | makeFunc _ _ _ | makeMap _ _ | makeChan _ _
  | lookup _ _ _ _ | mapUpdate _ _ _ _ | mapEntry _ _ _ | entryStore _ _ _ _ | range _ _ | next _ _ | entry _ | typeAssert _ _ _ _ | go _ | defer _ | panic _
  | send _ _ | recv _ _ _ | select _ _ => rw [hop] at hr; simp only [opRun] at hr; cases hr

theorem isApp_of {q : Op} {c : Call} (h : appOp q = some c) : isApp q = true := by
  unfold appOp at h
  split at h
  · split at h
    · rename_i hc
      simp only [isApp, hc]
    · cases h
  · cases h
theorem op_max3 {c : Call} {v : Operand → Option SV} {e : Operand → Value} {rd : Nat → Option Reg} {hp : List (Option Reg)} (hR : RV d.Φ R d.ρ) (hv : Reads d hp v e)
    (h : moreRun C R v rd (.call c) = some r) (ho : o.op = .call c) : Yld C.P e o w d hp r := by
  simp only [moreRun] at h
  split at h
  · rename_i hc
    split at h
    · rename_i k a k' b k'' f hs
      cases hk : (decide (k = k') && decide (k = k'')) <;> simp only [hk, cond_false, cond_true] at h
      · cases h
      · cases h
        obtain ⟨l1, l2, _⟩ := svs_spec hv hs
        obtain ⟨p, q, t, hl⟩ : ∃ p q t, c.args.toList = [p, q, t] := by
          match hq : c.args.toList, l1 with
          | [p, q, t], _ => exact ⟨p, q, t, rfl⟩
        rw [hl] at l2
        have h1 := l2 0 _ (e p) rfl (by simp)
        have h2 := l2 1 _ (e q) rfl (by simp)
        have h3 := l2 2 _ (e t) rfl (by simp)
        simp only [SV.is, Cell.den] at h1 h2 h3
        have ha : c.args = #[p, q, t] := by rw [← Array.toArray_toList (xs := c.args), hl]
        refine ⟨.int k (if (if a.den d.Φ d.ρ < b.den d.Φ d.ρ then b.den d.Φ d.ρ else a.den d.Φ d.ρ) < f.den d.Φ d.ρ then f.den d.Φ d.ρ else (if a.den d.Φ d.ρ < b.den d.Φ d.ρ then b.den d.Φ d.ρ else a.den d.Φ d.ρ)), ?_, ?_, trivial, rfl⟩
        · have hm : c.args.map e = #[e p, e q, e t] := by rw [ha]; simp
          simp only [execOp, ho, resolve, hc, Sem.run_bind, Sem.run_pure, Result.andThen_ok, invoke, builtin, hm, h1, h2, h3, Builtin.max_, List.foldlM, Builtin.max2, gt_iff_lt]
        · show Value.int k _ = Value.int k (E.den d.Φ d.ρ (mkIte _ _ _))
          have em : (mkIte (mkLt R a b) b a).den d.Φ d.ρ = if a.den d.Φ d.ρ < b.den d.Φ d.ρ then b.den d.Φ d.ρ else a.den d.Φ d.ρ := by
            rw [mkIte_den, mkLt_den hR]
            by_cases hh : a.den d.Φ d.ρ < b.den d.Φ d.ρ <;> simp [hh]
          rw [mkIte_den, mkLt_den hR, em]
          generalize (if a.den d.Φ d.ρ < b.den d.Φ d.ρ then b.den d.Φ d.ρ else a.den d.Φ d.ρ) = m
          by_cases hh : m < f.den d.Φ d.ρ <;> simp [hh]
    · cases h
  · cases h
/-- A slice read by a variable, by another name of its length. -/
theorem op_remove {x : Operand} {v : Operand → Option SV} {e : Operand → Value} {rd : Nat → Option Reg} {hp : List (Option Reg)} (hR : RV d.Φ R d.ρ) (hos : OsHold d.Φ Pr d.ρ r.os) (hv : Reads d hp v e)
    (h : moreRun C R v rd (.move x) = some r) (ho : o.op = .move x) : Yld C.P e o w d hp r := by
  simp only [moreRun] at h
  split at h
  · rename_i id s off len hx
    split at h
    · rename_i g hg
      split at h
      · rename_i ks l htl
        generalize (g.own && _) = c at h
        cases c <;> simp only [cond_false, cond_true] at h
        · cases h
        · cases h
          have o1 := must_hold hos
          rw [mkEq_den hR] at o1
          have o1 := of_decide_eq_true o1
          have h1 := hv.is _ _ hx
          obtain ⟨k1, k2, k3⟩ : (getH hp id).isSome = true ∧ 0 ≤ off.den d.Φ d.ρ ∧ 0 ≤ len.den d.Φ d.ρ := hv.ok _ _ hx
          refine ⟨e x, ?_, ?_, ⟨k1, k2, ?_⟩, rfl⟩
          · simp only [execOp, ho, Sem.run_pure]
          · simp only [SV.is, Cell.den] at h1 ⊢
            rw [h1, o1]
          · rw [← o1]; exact k3
      · cases h
    · cases h
  · cases h
theorem bndE_run {v : Operand → Option SV} {e : Operand → Value} {hp : List (Option Reg)} (hv : Reads d hp v e) {len b : E} {y : Operand} (h : bndE v len (some y) = some b) : ∃ k, e y = .int k (b.den d.Φ d.ρ) := by
  simp only [bndE] at h
  split at h
  · rename_i k a hy
    cases h
    exact ⟨k, hv.is _ _ hy⟩
  · cases h
/-- The beginning of a slice. -/
theorem op_reslice {t : TypeId} {x : Operand} {hi : Option Operand} {v : Operand → Option SV} {e : Operand → Value} {rd : Nat → Option Reg} {hp : List (Option Reg)} (hR : RV d.Φ R d.ρ) (hos : OsHold d.Φ Pr d.ρ r.os) (hP : HP X d hp w) (hv : Reads d hp v e)
    (hrd : ∀ id r, rd id = some r → getH hp id = some r) (h : moreRun C R v rd (.slice t x none hi none) = some r) (ho : o.op = .slice t x none hi none) : Yld C.P e o w d hp r := by
  simp only [moreRun] at h
  split at h
  · rename_i el id s off len hu hx
    split at h
    · rename_i b g m hb hg hm
      split at h
      · rename_i ks l htl
        cases c : (Nat.beq m s && Nat.beq s ks.length) <;> simp only [c, cond_false, cond_true] at h
        · cases h
        · cases h
          simp only [Bool.and_eq_true] at c
          have c1 := Nat.eq_of_beq_eq_true c.1
          have c2 := Nat.eq_of_beq_eq_true c.2
          subst c1
          have hg := hrd _ _ hg
          have h1 := hv.is _ _ hx
          simp only [SV.is, Cell.den] at h1
          obtain ⟨k1, k2, k3⟩ : (getH hp id).isSome = true ∧ 0 ≤ off.den d.Φ d.ρ ∧ 0 ≤ len.den d.Φ d.ρ := hv.ok _ _ hx
          have b1 := must_hold (fun q hq => hos q (List.mem_append_left _ hq))
          have b2 := must_hold (fun q hq => hos q (List.mem_append_right _ hq))
          rw [mkLe_den hR] at b1 b2
          have b1 : 0 ≤ b.den d.Φ d.ρ := of_decide_eq_true b1
          have b2 := of_decide_eq_true b2
          rw [mkAdd_den, nelE_nat] at b2
          have hcap := (hP.reg _ _ hg).cap htl
          have hne : (l.den d.Φ d.ρ).length / m ≤ (d.κ id).getD 0 := by
            rw [c2]
            exact Nat.div_le_of_le_mul (by rw [Nat.mul_comm]; exact hcap)
          obtain ⟨p, hp'⟩ := Int.eq_ofNat_of_zero_le k2
          obtain ⟨n, hn'⟩ := Int.eq_ofNat_of_zero_le b1
          refine ⟨.slice (match d.κ id with | none => none | some _ => some ⟨(d.α id).1, (d.α id).2 + (off.den d.Φ d.ρ).toNat * m, none⟩) (b.den d.Φ d.ρ).toNat (match d.κ id with | none => 0 | some e => e - (off.den d.Φ d.ρ).toNat), ?_, rfl, ⟨k1, k2, b1⟩, rfl⟩
          rw [hp'] at h1 b2 ⊢
          rw [hn'] at b2 ⊢
          simp only [Int.toNat_natCast] at h1 ⊢
          have hmax : (n : Int) ≤ ((match d.κ id with | none => 0 | some e => e - p : Nat) : Int) := by
            cases hκ : d.κ id with
            | none => rw [hκ] at hne; simp only [Option.getD_none] at hne; simp only; omega
            | some q => rw [hκ] at hne; simp only [Option.getD_some] at hne; simp only; omega
          have hz : ∀ (a : Addr), a.add 0 = a := fun a => by simp [Addr.add]
          cases hi with
          | none =>
            have : b = len := by simpa [bndE] using hb.symm
            subst this
            rw [hn'] at h1
            simp only [Int.toNat_natCast] at h1
            cases hκ : d.κ id with
            | none =>
              rw [hκ] at h1
              simp only [execOp, ho, Option.map_none, Instr.sliceAt, Sem.run_bind, run_und hu, Result.andThen_ok, Instr.slice, h1, Instr.sliceBounds, Sem.run_pure, run_size hm, Nat.sub_zero, Nat.zero_mul]
              simp
            | some q =>
              rw [hκ] at h1
              simp only [execOp, ho, Option.map_none, Instr.sliceAt, Sem.run_bind, run_und hu, Result.andThen_ok, Instr.slice, h1, Instr.sliceBounds, Sem.run_pure, run_size hm, Nat.sub_zero, Nat.zero_mul]
              simp [hz]
          | some y =>
            obtain ⟨k, hy⟩ := bndE_run hv hb
            rw [hn'] at hy
            cases hκ : d.κ id with
            | none =>
              rw [hκ] at h1 hmax
              have hc : (0 : Int) ≤ (n : Int) ∧ (n : Int) ≤ ((0 : Nat) : Int) := ⟨by omega, hmax⟩
              simp only [execOp, ho, Option.map_none, Option.map_some, Instr.sliceAt, Sem.run_bind, run_und hu, Result.andThen_ok, Instr.slice, h1, Instr.sliceBounds, Instr.sliceBound, hy, asIntOf, Sem.run_pure, hc, and_self, if_true, run_size hm, Nat.sub_zero, Nat.zero_mul]
              simp
            | some q =>
              rw [hκ] at h1 hmax
              have hc : (0 : Int) ≤ (n : Int) ∧ (n : Int) ≤ ((q - p : Nat) : Int) := ⟨by omega, hmax⟩
              simp only [execOp, ho, Option.map_none, Option.map_some, Instr.sliceAt, Sem.run_bind, run_und hu, Result.andThen_ok, Instr.slice, h1, Instr.sliceBounds, Instr.sliceBound, hy, asIntOf, Sem.run_pure, hc, and_self, if_true, run_size hm, Nat.sub_zero, Nat.zero_mul]
              simp [hz]
      · cases h
    · cases h
  · cases h
/-- The text of a slice of bytes. -/
theorem foldl_push (xs : List Int) (acc : ByteArray) : xs.foldl (fun r n => r.push (UInt8.ofNat n.toNat)) acc = ⟨acc.data ++ (xs.map u8).toArray⟩ := by
  induction xs generalizing acc with
  | nil => simp
  | cons x xs ih =>
    rw [List.foldl_cons, ih]
    simp [ByteArray.push, u8]
theorem op_conv {s t : TypeId} {x : Operand} {v : Operand → Option SV} {e : Operand → Value} {rd : Nat → Option Reg} {hp : List (Option Reg)} (hP : HP X d hp w) (hv : Reads d hp v e)
    (hrd : ∀ id r, rd id = some r → getH hp id = some r) (h : moreRun C R v rd (.convert s t x) = some r) (ho : o.op = .convert s t x) : Yld C.P e o w d hp r := by
  simp only [moreRun] at h
  split at h
  · rename_i el id sz off len hs ht hx
    split at h
    · rename_i g hk hg
      split at h
      · rename_i ks l htl
        cases c : (decide (ks = [.u8]) && (Nat.beq sz 1 && (off.eqb (.lit 0) && len.eqb (nelE l 1)))) <;> simp only [c, cond_false, cond_true] at h
        · cases h
        · cases h
          simp only [Bool.and_eq_true, decide_eq_true_eq] at c
          obtain ⟨c1, c2, c3, c4⟩ := c
          have c2 := Nat.eq_of_beq_eq_true c2
          have c3 := E.eqb_eq _ _ c3
          have c4 := E.eqb_eq _ _ c4
          subst c1 c2 c3 c4
          have hg := hrd _ _ hg
          have h1 := hv.is _ _ hx
          have el' : ((nelE l 1).den d.Φ d.ρ).toNat = (l.den d.Φ d.ρ).length := by rw [nelE_nat, Nat.div_one, Int.toNat_natCast]
          simp only [SV.is, Cell.den, E.den, Int.toNat_zero, Nat.zero_mul, Nat.add_zero, Nat.sub_zero, el'] at h1
          have hel : C.P.underlying el = some (.int .u8) := by
            unfold intK at hk
            split at hk
            · rename_i k hu
              cases hk
              exact hu
            · cases hk
          refine ⟨byteV (l.den d.Φ d.ρ), ?_, rfl, trivial, rfl⟩
          cases hκ : d.κ id with
          | none =>
            have hr := hP.reg _ _ hg
            unfold RegIs at hr
            rw [htl] at hr
            have hnil : l.den d.Φ d.ρ = [] := hr.2.2.1 hκ
            rw [hκ] at h1
            simp only at h1
            simp only [execOp, ho, Sem.run_bind, h1]
            rw [run_convert_bytes_string w s t el none _ _ hs hel ht]
            simp [Conv.bytesToString, hnil, byteV]
            rfl
          | some q =>
            rw [hκ] at h1
            simp only at h1
            have hld := loadCells_run (P := C.P) (w := w) (b := (d.α id).1) (o := (d.α id).2) (n := (l.den d.Φ d.ρ).length) (vs := (l.den d.Φ d.ρ).map (Value.int .u8)) (by simp) fun k z hz => by
              rw [List.getElem?_map, Option.map_eq_some_iff] at hz
              obtain ⟨y, hy, rfl⟩ := hz
              have := ((hP.reg _ _ hg).num hP.bl htl hy).1
              rw [this]
              simp only [kindAt, List.length_singleton, Nat.mod_one, List.getD_cons_zero]
              rfl
            simp only [execOp, ho, Sem.run_bind, h1]
            rw [run_convert_bytes_string w s t el _ _ _ hs hel ht, run_bytesToString w _ _ _ _ hld, foldl_push]
            simp [byteV]
      · cases h
    · cases h
  · rename_i el hs ht hx
    split at h
    · rename_i hk
      cases h
      have h1 := hv.is _ _ hx
      simp only [SV.is, Cell.den] at h1
      have hel : C.P.underlying el = some (.int .u8) := by
        unfold intK at hk
        split at hk
        · rename_i k hu
          cases hk
          exact hu
        · cases hk
      refine ⟨byteV [], ?_, rfl, trivial, rfl⟩
      simp only [execOp, ho, Sem.run_bind, h1]
      rw [run_convert_bytes_string w s t el none _ _ hs hel ht]
      simp [Conv.bytesToString, byteV]
      rfl
    · cases h
  · cases h
/-- Two texts, one behind the other. -/
theorem op_cat {t yt : TypeId} {x y : Operand} {v : Operand → Option SV} {e : Operand → Value} {rd : Nat → Option Reg} {hp : List (Option Reg)} (hR : RV d.Φ R d.ρ) (hos : OsHold d.Φ Pr d.ρ r.os) (hv : Reads d hp v e)
    (h : moreRun C R v rd (.binOp .add t x y yt) = some r) (ho : o.op = .binOp .add t x y yt) : Yld C.P e o w d hp r := by
  simp only [moreRun] at h
  split at h
  · rename_i a b hx hy
    cases h
    have h1 := hv.is _ _ hx
    have h2 := hv.is _ _ hy
    simp only [SV.is, Cell.den] at h1 h2
    have b1 := must_hold hos
    rw [mkLe_den hR] at b1
    have b1 := of_decide_eq_true b1
    simp only [E.den, L.den, List.length_append] at b1
    refine ⟨byteV ((L.cat a b).den d.Φ d.ρ), ?_, rfl, trivial, rfl⟩
    have hg : eqGuard .add t x y (.string ⟨((a.den d.Φ d.ρ).map u8).toArray⟩) (.string ⟨((b.den d.Φ d.ρ).map u8).toArray⟩) = pure () := by
      unfold eqGuard; split <;> rfl
    have hs : ∀ l : List Int, (⟨(l.map u8).toArray⟩ : ByteArray).size = l.length := fun l => by simp [ByteArray.size]
    have hsz : ¬ (((⟨((a.den d.Φ d.ρ).map u8).toArray⟩ : ByteArray).size + (⟨((b.den d.Φ d.ρ).map u8).toArray⟩ : ByteArray).size : Nat) : Int) > IntKind.i64.max := by
      rw [hs, hs]
      have : IntKind.i64.max = 9223372036854775807 := by decide
      rw [this]
      omega
    simp only [execOp, ho, h1, h2, Sem.run_bind, hg, Sem.run_pure, Result.andThen_ok]
    simp only [binOp, Op.stringOp, if_neg hsz, Sem.run_pure]
    simp only [Result.andThen_ok, byteV, L.den, List.map_append]
    congr 2
  · cases h
theorem ptrsOf_spec {hp : List (Option Reg)} : ∀ {svs : List SV} {ps : List (Nat × Nat)} {vs : List Value}, ptrsOf svs = some ps → svs.length = vs.length →
    (∀ (k : Nat) (x : SV) (q : Value), svs[k]? = some x → vs[k]? = some q → x.is d q) → (∀ x ∈ svs, x.ok d hp) →
    vs = ps.map (fun p => Value.pointer (some ⟨(d.α p.1).1, (d.α p.1).2 + p.2, none⟩)) ∧ ∀ p ∈ ps, (getH hp p.1).isSome = true
  | [], ps, [], h, _, _, _ => by
    simp only [ptrsOf, Option.some.injEq] at h
    subst h
    exact ⟨rfl, fun _ h => by cases h⟩
  | [], _, _ :: _, _, h, _, _ => by simp at h
  | x :: r, ps, vs, h, hl, his, hok => by
    cases vs with
    | nil => simp at hl
    | cons q vs =>
    cases x with
    | one c =>
      cases c with
      | ptr i o =>
        simp only [ptrsOf, Option.map_eq_some_iff] at h
        obtain ⟨ps', h1, rfl⟩ := h
        obtain ⟨i1, i2⟩ := ptrsOf_spec h1 (by simpa using hl) (fun k x q hk hq => his (k + 1) x q (by simpa using hk) (by simpa using hq)) (fun x hx => hok x (List.mem_cons_of_mem _ hx))
        have z : q = .pointer (some ⟨(d.α i).1, (d.α i).2 + o, none⟩) := his 0 _ _ rfl rfl
        refine ⟨by rw [i1, z]; rfl, fun p hp' => ?_⟩
        rcases List.mem_cons.1 hp' with rfl | hp'
        · exact hok _ List.mem_cons_self
        · exact i2 p hp'
      | _ => simp [ptrsOf] at h
    | _ => simp [ptrsOf] at h
/-- A closure that holds addresses. -/
theorem op_clo {g : Nat} {first cap : Array Operand} {v : Operand → Option SV} {e : Operand → Value} {rd : Nat → Option Reg} {hp : List (Option Reg)} (hv : Reads d hp v e)
    (h : moreRun C R v rd (.makeFunc (.func g) first cap) = some r) (ho : o.op = .makeFunc (.func g) first cap) : Yld C.P e o w d hp r := by
  simp only [moreRun] at h
  cases c : first.toList.isEmpty <;> simp only [c, cond_false, cond_true] at h
  · cases h
  · simp only [Option.map_eq_some_iff, Option.bind_eq_some_iff] at h
    obtain ⟨ps, ⟨xs, h1, h2⟩, rfl⟩ := h
    obtain ⟨l1, l2, l3⟩ := svs_spec hv h1
    obtain ⟨i1, i2⟩ := ptrsOf_spec h2 (vs := cap.toList.map e) (by simp [l1]) l2 l3
    have hf : first = #[] := by
      cases first
      simp at c
      rw [c]
    refine ⟨(Cell.clo g ps).den d, ?_, ?_, ?_, rfl⟩
    rotate_left
    · show _ = _
      rfl
    · exact fun p hp' => i2 p hp'
    have hm : cap.map e = (ps.map fun p => Value.pointer (some ⟨(d.α p.1).1, (d.α p.1).2 + p.2, none⟩)).toArray := by
      rw [← i1, ← List.map_toArray, Array.toArray_toList]
    simp only [execOp, ho, Instr.makeFunc, hf, Array.map_empty, hm, Sem.run_bind, Sem.run_pure, Result.andThen_ok, Cell.den]
theorem run_under {P : Program} {t : TypeId} {u : TypeDesc} (h : P.underlying t = some u) (w : World) : (underlying t).run P w = .ok u w := by
  simp only [underlying, Sem.run_bind, run_program, Result.andThen_ok, h, Sem.run_pure]
/-- A list that is not empty is not the nil slice. -/
theorem op_notnil {t yt : TypeId} {x y : Operand} {v : Operand → Option SV} {e : Operand → Value} {rd : Nat → Option Reg} {hp : List (Option Reg)} (hR : RV d.Φ R d.ρ) (hos : OsHold d.Φ Pr d.ρ r.os) (hP : HP X d hp w) (hv : Reads d hp v e)
    (hrd : ∀ id r, rd id = some r → getH hp id = some r) (h : moreRun C R v rd (.binOp .eql t x y yt) = some r) (ho : o.op = .binOp .eql t x y yt) : Yld C.P e o w d hp r := by
  simp only [moreRun] at h
  split at h
  · rename_i el id s off len hu hx hy
    split at h
    · rename_i g hg
      split at h
      · rename_i ks l htl
        cases c : (Nat.blt 0 ks.length && (Nat.beq s ks.length && (off.eqb (.lit 0) && len.eqb (nelE l s)))) <;> simp only [c, cond_false, cond_true] at h
        · cases h
        · cases h
          simp only [Bool.and_eq_true] at c
          obtain ⟨c0, c1⟩ := c
          have hs0 : 0 < ks.length := by
            have := Nat.le_of_ble_eq_true c0
            omega
          have happ : appNew R rd ks false (.sl id s off len) = some (l, must (mkLt R (.lit 0) (.len l))) := by
            simp only [appNew, hg, htl, decide_true, Bool.true_and, Bool.false_and, cond_false]
            rw [show (Nat.beq s ks.length && (off.eqb (.lit 0) && len.eqb (nelE l s))) = true by simp [c1.1, c1.2.1, c1.2.2]]
            rfl
          obtain ⟨ad, n, cap, e1, _⟩ := appNew_spec hR hP hrd hs0 happ hos
          have h1 : e x = .slice (some ad) n cap := (hv.is _ _ hx).trans e1
          have h2 : e y = .slice none 0 0 := hv.is _ _ hy
          refine ⟨.bool false, ?_, rfl, trivial, rfl⟩
          have hg : eqGuard .eql t x y (.slice (some ad) n cap) (.slice none 0 0) = pure () := by
            unfold eqGuard; rfl
          have heq : (Op.equal t (.slice (some ad) n cap) (.slice none 0 0)).run C.P w = .ok false w := by
            obtain ⟨m, hm⟩ : ∃ m, Op.maxDepth = m + 1 := ⟨Op.maxDepth - 1, by decide⟩
            unfold Op.equal
            rw [hm]
            simp only [Op.equalIn, Sem.run_bind, run_under hu, Result.andThen_ok, Sem.run_pure]
          simp only [execOp, ho, h1, h2, Sem.run_bind, hg, Sem.run_pure, Result.andThen_ok, binOp, heq]
      · cases h
    · cases h
  · cases h
theorem more_wp (hR : RV d.Φ R d.ρ) (h : Sat X d S a w) {ids : List Nat} (hr : moreRun C R (valOf S) (fun id => bif memN id ids then getH S.heap id else none) o.op = some r) (hos : OsHold d.Φ Pr d.ρ r.os)
    (hK : ∀ d' a' w', Agree S.heap d d' → Sat X d' (r.put o.dst S) a' w' → K a' w') : o.wp C.P a w K Q := by
  have hv := h.reads
  cases hop : o.op with
  | load t x => rw [hop] at hr; exact yld_wp h (op_lpload hR hos h.hp hv rd_ok hr hop) hK
  | store t x y =>
    rw [hop] at hr
    obtain ⟨w', h1, d', h2, h3, h4, h5, h6⟩ := op_lpstore hR hos h.hp hv rd_ok hr hop
    unfold Oper.wp
    rw [h1, Oper.upon_skip]
    exact hK d' _ w' h2 (h.after h2 h3 h4 h5 h6 o.dst)
  | binOp op t x y u =>
    rw [hop] at hr
    cases op with
    | add => exact yld_wp h (op_cat hR hos hv hr hop) hK
    | eql => exact yld_wp h (op_notnil hR hos h.hp hv rd_ok hr hop) hK
    | _ => simp only [moreRun] at hr; cases hr
  | convert s t x => rw [hop] at hr; exact yld_wp h (op_conv h.hp hv rd_ok hr hop) hK
  | call c => rw [hop] at hr; exact yld_wp h (op_max3 hR hv hr hop) hK
  | move x => rw [hop] at hr; exact yld_wp h (op_remove hR hos hv hr hop) hK
  | makeFunc fn first cap =>
    rw [hop] at hr
    cases fn with
    | func g => exact yld_wp h (op_clo hv hr hop) hK
    | _ => simp only [moreRun] at hr; cases hr
  | slice t x lo hi mx =>
    rw [hop] at hr
    cases lo with
    | some _ => simp only [moreRun] at hr; cases hr
    | none => cases mx with
      | some _ => simp only [moreRun] at hr; cases hr
      | none => exact yld_wp h (op_reslice hR hos h.hp hv rd_ok hr hop) hK
  | _ => rw [hop] at hr; simp only [moreRun] at hr; cases hr

theorem newsOf_app {q : Op} (h : copyFn C q = none) (k : isApp q = true) : new < new + newsOf C q := by
  unfold newsOf; rw [h]
  cases isSub q <;> simp [k]
theorem newsOf_new {q : Op} (h : copyFn C q = none) (k : isNew q = true) : new < new + newsOf C q := by
  unfold newsOf; rw [h]
  cases isSub q <;> simp [k]
theorem newsOf_sub {q : Op} (h : copyFn C q = none) (k : isSub q = true) : new < new + newsOf C q := by
  unfold newsOf; rw [h]
  simp [k]

/-! ### The beginning of a slice that is only read -/
theorem HP.addN {hp : List (Option Reg)} (hP : HP X d hp w) {new : Nat} {g : Reg} (α0 : Nat × Nat) (κ0 : Option Nat) (hn : getH hp new = none) (hl : new < hp.length) (ho : g.own = false) (hcs : g.cs = [])
    (hr : ∀ d' : Dn, d'.Φ = d.Φ → d'.ρ = d.ρ → d'.α new = α0 → d'.κ new = κ0 → RegIs X d' new g w) :
    ∃ d', Agree hp d d' ∧ Has hp (setH hp new (some g)) ∧ HP X d' (setH hp new (some g)) w ∧ d'.α new = α0 ∧ d'.κ new = κ0 := by
  let d' : Dn := ⟨d.Φ, d.ρ, fun id => if id = new then α0 else d.α id, fun id => if id = new then κ0 else d.κ id⟩
  have ne : ∀ id, (getH hp id).isSome = true → id ≠ new := fun id hid h => by subst h; rw [hn] at hid; cases hid
  have ag : Agree hp d d' := ⟨rfl, rfl, fun id hid => by simp [d', ne id hid], fun id hid => by simp [d', ne id hid]⟩
  have hasH := Has.setH (hp := hp) new g
  have hnew : d'.α new = α0 := by simp [d']
  have hkap : d'.κ new = κ0 := by simp [d']
  refine ⟨d', ag, hasH, ⟨hP.bl, fun id q hq => ?_, fun i j ri rj hi hj oi oj hij => ?_, fun id q hq c hc => ?_, hP.pin.agree ag hasH⟩, hnew, hkap⟩
  · by_cases h : new = id
    · subst h
      rw [getH_setH_same _ _ _ hl] at hq
      cases hq
      exact hr d' rfl rfl hnew hkap
    · rw [getH_setH_ne _ _ _ _ h] at hq
      exact (hP.reg _ _ hq).move rfl rfl (ag.α id (by rw [hq]; rfl)) (ag.κ id (by rw [hq]; rfl)) (cells_agree ag (hP.ids _ _ hq)) (SameTl.eq rfl rfl _) fun _ => rfl
  · have h1 : new ≠ i := fun e => by
      subst e
      rw [getH_setH_same _ _ _ hl] at hi
      cases hi
      rw [ho] at oi; cases oi
    have h2 : new ≠ j := fun e => by
      subst e
      rw [getH_setH_same _ _ _ hl] at hj
      cases hj
      rw [ho] at oj; cases oj
    rw [getH_setH_ne _ _ _ _ h1] at hi
    rw [getH_setH_ne _ _ _ _ h2] at hj
    rw [ag.α i (by rw [hi]; rfl), ag.α j (by rw [hj]; rfl)]
    exact hP.sep i j ri rj hi hj oi oj hij
  · by_cases h : new = id
    · subst h
      rw [getH_setH_same _ _ _ hl] at hq
      cases hq
      rw [hcs] at hc
      cases hc
    · rw [getH_setH_ne _ _ _ _ h] at hq
      exact Cell.ok_agree ag (Cell.ok_mono hasH (hP.ids _ _ hq c hc))
theorem Kinds.take {ks : List EK} {xs : List Int} (h : Kinds ks xs) (n : Nat) : Kinds ks (xs.take (n * ks.length)) := by
  refine ⟨fun i x hx => ?_, ?_⟩
  · rw [List.getElem?_take] at hx
    split at hx
    · exact h.1 i x hx
    · cases hx
  · rw [List.length_take]
    rcases Nat.le_total (n * ks.length) xs.length with q | q
    · rw [Nat.min_eq_left q, Nat.mul_mod_left]
    · rw [Nat.min_eq_right q]; exact h.2
theorem op_sub {hp : List (Option Reg)} {v : Operand → Option SV} {e : Operand → Value} {rd : Nat → Option Reg} (hR : RV d.Φ R d.ρ) (hos : OsHold d.Φ Pr d.ρ r.os) (hP : HP X d hp w) (hv : Reads d hp v e)
    (hrd : ∀ id r, rd id = some r → getH hp id = some r) (h : subRun C R v rd new o.op = some r) (hn : getH hp new = none) (hl : new < hp.length) :
    isSub o.op = true ∧ ∃ q w', (execOp e o).run C.P w = .ok (.value q) w' ∧ Aft X d hp (wrAll hp r.wr) r.val q w' := by
  unfold subRun at h
  split at h
  · rename_i t x y ho
    refine ⟨by rw [ho]; rfl, ?_⟩
    split at h
    · rename_i el id s off len hu hx
      split at h
      · rename_i b g m hb hg hm
        split at h
        · rename_i ks l htl
          cases c : (!g.own && (Nat.beq m s && (Nat.beq s ks.length && off.eqb (.lit 0)))) <;> simp only [c, cond_false, cond_true] at h
          · cases h
          · cases h
            simp only [Bool.and_eq_true, Bool.not_eq_true'] at c
            obtain ⟨c0, c1, c2, c3⟩ := c
            have c1 := Nat.eq_of_beq_eq_true c1
            have c2 := Nat.eq_of_beq_eq_true c2
            have c3 := E.eqb_eq _ _ c3
            subst c1 c2 c3
            have hg := hrd _ _ hg
            have h1 := hv.is _ _ hx
            simp only [SV.is, Cell.den, E.den, Int.toNat_zero, Nat.zero_mul, Nat.add_zero, Nat.sub_zero] at h1
            have b1 := must_hold (fun q hq => hos q (List.mem_append_left _ hq))
            have b2 := must_hold (fun q hq => hos q (List.mem_append_right _ hq))
            rw [mkLe_den hR] at b1 b2
            have b1 : 0 ≤ b.den d.Φ d.ρ := of_decide_eq_true b1
            have b2 := of_decide_eq_true b2
            rw [nelE_nat] at b2
            have hcap := (hP.reg _ _ hg).cap htl
            have hne : (l.den d.Φ d.ρ).length / ks.length ≤ (d.κ id).getD 0 := Nat.div_le_of_le_mul (by rw [Nat.mul_comm]; exact hcap)
            obtain ⟨n, hn'⟩ := Int.eq_ofNat_of_zero_le b1
            rw [hn'] at b2
            obtain ⟨k, hy⟩ := bndE_run hv hb
            rw [hn'] at hy
            have hz : ∀ (a : Addr), a.add 0 = a := fun a => by simp [Addr.add]
            have etake : ∀ d' : Dn, d'.Φ = d.Φ → d'.ρ = d.ρ → (takeE l b ks.length).den d'.Φ d'.ρ = (l.den d.Φ d.ρ).take (n * ks.length) := fun d' e1 e2 => by
              unfold takeE
              cases c : Nat.beq ks.length 1 <;> simp only [cond_false, cond_true, L.den, E.den, e1, e2, hn']
              · rw [← Int.natCast_mul, Int.toNat_natCast]
              · rw [Nat.eq_of_beq_eq_true c, Int.toNat_natCast, Nat.mul_one]
            have hle : n * ks.length ≤ (l.den d.Φ d.ρ).length := by
              have : n ≤ (l.den d.Φ d.ρ).length / ks.length := by omega
              exact Nat.le_trans (Nat.mul_le_mul_right _ this) (Nat.div_mul_le_self _ _)
            have hreg := hP.reg _ _ hg
            unfold RegIs at hreg
            rw [htl] at hreg
            obtain ⟨r1, r2, r3, r4⟩ := hreg
            simp only [c0, Bool.false_eq_true, if_false] at r2 r3 r4
            obtain ⟨d', a1, a2, a3, a4, a5⟩ := hP.addN (new := new) (g := ⟨[], false, g.ty, some (ks, takeE l b ks.length)⟩) (d.α id) (d.κ id) hn hl rfl rfl fun d' e1 e2 e3 e4 => by
              unfold RegIs
              simp only
              refine ⟨trivial, ?_⟩
              unfold LRegIs
              rw [etake d' e1 e2, e3, e4]
              refine ⟨r2.take n, fun hκ => by rw [r3 hκ]; simp, ?_⟩
              simp only [Bool.false_eq_true, if_false]
              intro hx
              have hx' : l.den d.Φ d.ρ ≠ [] := fun e => hx (by rw [e]; simp)
              obtain ⟨s1, s2, s3⟩ := r4 hx'
              refine ⟨s1, fun i x hi => ?_, fun q hq => Nat.le_trans ?_ (s3 q hq)⟩
              · rw [List.getElem?_take] at hi
                split at hi
                · exact s2 i x hi
                · cases hi
              · rw [List.length_take]; omega
            refine ⟨.slice (match d.κ id with | none => none | some _ => some ⟨(d.α id).1, (d.α id).2, none⟩) n (match d.κ id with | none => 0 | some e => e), w, ?_, d', a1, a2, a3, ?_, ?_⟩
            · have hmax : (n : Int) ≤ ((match d.κ id with | none => 0 | some e => e : Nat) : Int) := by
                cases hκ : d.κ id with
                | none => rw [hκ] at hne; simp only [Option.getD_none] at hne; simp only; omega
                | some q => rw [hκ] at hne; simp only [Option.getD_some] at hne; simp only; omega
              cases hκ : d.κ id with
              | none =>
                rw [hκ] at h1 hmax
                have hc : (0 : Int) ≤ (n : Int) ∧ (n : Int) ≤ ((0 : Nat) : Int) := ⟨by omega, hmax⟩
                simp only [execOp, ho, Option.map_none, Option.map_some, Instr.sliceAt, Sem.run_bind, run_und hu, Result.andThen_ok, Instr.slice, h1, Instr.sliceBounds, Instr.sliceBound, hy, asIntOf, Sem.run_pure, hc, and_self, if_true, run_size hm, Nat.sub_zero, Nat.zero_mul]
                simp
              | some q =>
                rw [hκ] at h1 hmax
                have hc : (0 : Int) ≤ (n : Int) ∧ (n : Int) ≤ ((q : Nat) : Int) := ⟨by omega, hmax⟩
                simp only [execOp, ho, Option.map_none, Option.map_some, Instr.sliceAt, Sem.run_bind, run_und hu, Result.andThen_ok, Instr.slice, h1, Instr.sliceBounds, Instr.sliceBound, hy, asIntOf, Sem.run_pure, hc, and_self, if_true, run_size hm, Nat.sub_zero, Nat.zero_mul]
                simp [hz]
            · have el : ((takeE l b ks.length).den d'.Φ d'.ρ).length / ks.length = n := by
                rw [etake d' a1.Φ a1.ρ, List.length_take, Nat.min_eq_left hle]
                rcases Nat.eq_zero_or_pos ks.length with q | q
                · have : (l.den d.Φ d.ρ).length / ks.length = 0 := by rw [q, Nat.div_zero]
                  rw [q, Nat.mul_zero, Nat.div_zero]
                  omega
                · exact Nat.mul_div_cancel _ q
              simp only [SV.is, Cell.den, a4, a5, E.den, nelE_nat, el, Int.toNat_natCast, Int.toNat_zero, Nat.zero_mul, Nat.add_zero, Nat.sub_zero]
              cases d.κ id <;> rfl
            · refine ⟨by rw [show wrAll hp [(new, _)] = setH hp new _ from rfl, getH_setH_same _ _ _ hl]; rfl, by simp [E.den], ?_⟩
              rw [nelE_nat]; exact Int.natCast_nonneg _
        · cases h
      · cases h
    · cases h
  · cases h
theorem subRun_wr {v : Operand → Option SV} {rd : Nat → Option Reg} {q : Op} (h : subRun C R v rd new q = some r) : isSub q = true ∧ ∃ g, r.wr = [(new, g)] := by
  unfold subRun at h
  split at h
  · refine ⟨rfl, ?_⟩
    split at h
    · split at h
      · split at h
        · generalize (!_ && _) = c at h
          cases c <;> simp only [cond_false, cond_true] at h
          · cases h
          · cases h; exact ⟨_, rfl⟩
        · cases h
      · cases h
    · cases h
  · cases h

theorem opStep_wp (hC : CTs C d.Φ Pr) (hR : RV d.Φ R d.ρ) (h : Sat X d S a w) {dec : Bool} (hr : opStep C R o.op dec S new = some r) (hdec : ∀ b, pickOf S o.op = some b → b.den d.Φ d.ρ = dec)
    (hnew : ∀ k, new ≤ k → k < new + newsOf C o.op → getH S.heap k = none ∧ k < S.heap.length) (hos : OsHold d.Φ Pr d.ρ r.os)
    (hpan : ∀ e, O.pan e ∈ r.os → e.den d.Φ d.ρ ≠ 0 → ∀ w', Bl X w' → Q (.panic (panicV C.pty (e.den d.Φ d.ρ))) a w')
    (hK : ∀ d' a' w', Agree S.heap d d' → Sat X d' (r.put o.dst S) a' w' → K a' w') : o.wp C.P a w K Q := by
  unfold opStep at hr
  split at hr
  · rename_i c x y hop
    split at hr
    · rename_i b hb
      simp only [Option.map_eq_some_iff] at hr
      obtain ⟨sv, hs, rfl⟩ := hr
      have hd := hdec b (by simp only [hop, pickOf, hb])
      have hc := h.reads.is _ _ hb
      simp only [SV.is, Cell.den] at hc
      refine yld_wp h ?_ hK
      refine ⟨a.eval (bif dec then x else y), ?_, h.reads.is _ _ hs, h.reads.ok _ _ hs, rfl⟩
      simp only [execOp, hop, hc, asBool, Sem.run_bind, Sem.run_pure, Result.andThen_ok, hd]
      cases dec <;> rfl
    · cases hr
  · split at hr
    · rename_i g p tys hcf
      refine copy_wp hC hR h.hp rfl h.reads rd_ok hcf hr hnew hos fun x w' ⟨d', h2, h3, h4, h5, h6⟩ => ?_
      exact hK d' _ w' h2 (h.after h2 h3 h4 h5 h6 o.dst)
    · rename_i hcf
      split at hr
      · rename_i r' hsb
        cases hr
        obtain ⟨n1, n2⟩ := hnew new (Nat.le_refl _) (newsOf_sub hcf (subRun_wr hsb).1)
        obtain ⟨_, q, w', h1, d', h2, h3, h4, h5, h6⟩ := op_sub hR hos h.hp h.reads rd_ok hsb n1 n2
        unfold Oper.wp
        rw [h1, Oper.upon_value]
        exact hK d' _ w' h2 (h.after h2 h3 h4 h5 h6 o.dst)
      split at hr
      · rename_i r' hmr
        cases hr
        exact more_wp hR h hmr hos hK
      · split at hr
        · rename_i c hap
          obtain ⟨n1, n2⟩ := hnew new (Nat.le_refl _) (newsOf_app hcf (isApp_of hap))
          obtain ⟨q, w', h1, d', h2, h3, h4, h5, h6⟩ := op_app hR hos h.hp h.reads rd_ok hap hr n1 n2
          unfold Oper.wp
          rw [h1, Oper.upon_value]
          exact hK d' _ w' h2 (h.after h2 h3 h4 h5 h6 o.dst)
        · split at hr
          · rename_i p hnl
            cases hr
            have hnw : isNew o.op = true := by
              unfold nilOp at hnl
              split at hnl
              · rename_i hop; rw [hop]; rfl
              · cases hnl
            obtain ⟨n1, n2⟩ := hnew new (Nat.le_refl _) (newsOf_new hcf hnw)
            obtain ⟨q, w', h1, d', h2, h3, h4, h5, h6⟩ := op_nil (e := a.eval) h.hp hnl n1 n2
            unfold Oper.wp
            rw [h1, Oper.upon_value]
            exact hK d' _ w' h2 (h.after h2 h3 h4 h5 h6 o.dst)
          · split at hr
            · rename_i r' hb
              cases hr
              obtain ⟨hnw, _⟩ := bslRun_wr hb
              obtain ⟨n1, n2⟩ := hnew new (Nat.le_refl _) (newsOf_new hcf hnw)
              obtain ⟨q, w', h1, d', h2, h3, h4, h5, h6⟩ := op_bsl hR h.hp h.reads hb n1 n2
              unfold Oper.wp
              rw [h1, Oper.upon_value]
              exact hK d' _ w' h2 (h.after h2 h3 h4 h5 h6 o.dst)
            · refine opRun_wp hC hR h hr (fun hn => hnew new (Nat.le_refl _) ?_) hos hpan hK
              exact newsOf_new hcf hn

/-! ### Guards -/
theorem wanted_none (h : o.guard = none) (f : Nat → Option Bool) : Region.wanted o f = true := by
  simp [Region.wanted, h]

/-- What the executor asks of a guard is what the model asks. -/
theorem guardOf_spec {ops : Array Oper} (h : Sat X d S a w) : match guardOf ops S o with
    | .run => Region.wanted o (yielded ops a.tmps) = true
    | .skip => Region.wanted o (yielded ops a.tmps) = false
    | .ask b => Region.wanted o (yielded ops a.tmps) = b.den d.Φ d.ρ
    | .bad => True := by
  unfold guardOf
  cases hg : o.guard with
  | none => exact wanted_none hg _
  | some gw =>
    obtain ⟨g, want⟩ := gw
    simp only
    cases ht : (ops[g]?).bind (·.dst) with
    | none => trivial
    | some t =>
      have his := h.tm.is t
      have hgetD : ∀ x, a.tmps.getD t undef = x → x ≠ undef → a.tmps[t]? = some x := fun x hx hn => by
        cases hq : a.tmps[t]? with
        | none => simp [hq] at hx; exact absurd hx.symm hn
        | some y => simp [hq] at hx; rw [hx]
      have hyd : yielded ops a.tmps g = match a.tmps[t]? with | some (.bool b) => some b | _ => none := by
        simp only [yielded, ht, Option.bind_some]
        cases a.tmps[t]? with
        | none => rfl
        | some y => cases y <;> rfl
      simp only
      cases hsv : getT S.tmps t with
      | one c =>
        rw [hsv] at his
        cases c with
        | bool b =>
          simp only [SV.is, Cell.den] at his
          have := hgetD _ his (fun h => by cases h)
          simp only [Region.wanted, hg, hyd, this]
          cases want <;> simp [mkNot_den] <;> cases b.den d.Φ d.ρ <;> rfl
        | _ => trivial
      | tup vs =>
        rw [hsv] at his
        cases vs with
        | nil =>
          simp only [SV.is, List.map_nil] at his
          simp only [Region.wanted, hg, hyd]
          cases hq : a.tmps[t]? with
          | none => rfl
          | some y =>
            simp [hq] at his
            subst his
            rfl
        | cons _ _ => trivial
      | agg _ => trivial
      | any => trivial
end
end Go.Proofs.YtelfpnkhdaaeoaaDoor.Sx
