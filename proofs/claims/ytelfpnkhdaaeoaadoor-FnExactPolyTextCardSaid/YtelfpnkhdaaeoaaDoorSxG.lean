/-
  The symbolic executor: every operation, by what it is.
-/
import Derived.Test.YtelfpnkhdaaeoaaDoorSxF
namespace Go.Proofs.YtelfpnkhdaaeoaaDoor.Sx
open Go Go.RowKit

section
variable {C : Cfg} {R : Bds} {X : Ctx} {d : Dn} {w : World} {hp : List (Option Reg)} {v : Operand → Option SV} {e : Operand → Value} {Pr : Pres}
  {rd : Nat → Option Reg} {new : Nat} {r : Res} {o : Oper}

theorem op_move {x : Operand} (hv : Reads d hp v e) (h : (v x).map Res.v = some r) (ho : o.op = .move x ∨ o.op = .assign x) : Yld C.P e o w d hp r := by
  simp only [Option.map_eq_some_iff] at h
  obtain ⟨sv, hs, rfl⟩ := h
  refine ⟨e x, ?_, hv.is _ _ hs, hv.ok _ _ hs, rfl⟩
  rcases ho with ho | ho <;> simp [execOp, ho]

theorem op_nilCheck {x : Operand} (hv : Reads d hp v e) (h : opRun C R (.nilCheck x) v rd new = some r) (ho : o.op = .nilCheck x) : Yld C.P e o w d hp r := by
  simp only [opRun] at h
  split at h
  · rename_i id off hx
    cases h
    have h1 := hv.is _ _ hx
    simp only [SV.is, Cell.den] at h1
    exact ⟨e x, by simp [execOp, ho, h1], h1, hv.ok _ _ hx, rfl⟩
  · rename_i id s p f hx
    cases h
    have h1 := hv.is _ _ hx
    simp only [SV.is, Cell.den] at h1
    exact ⟨e x, by simp [execOp, ho, h1], h1, hv.ok _ _ hx, rfl⟩
  · cases h

theorem op_mkIfc {t : TypeId} {x : Operand} (hv : Reads d hp v e) (h : opRun C R (.makeInterface t x) v rd new = some r) (ho : o.op = .makeInterface t x) : Yld C.P e o w d hp r := by
  simp only [opRun] at h
  split at h
  · rename_i k k' ex hu hx
    cases c : decide (k = k') <;> simp only [c, cond_false, cond_true] at h
    · cases h
    cases h
    have h1 := hv.is _ _ hx
    simp only [SV.is, Cell.den] at h1
    refine ⟨.iface t (e x), ?_, ?_, trivial, rfl⟩
    · simp only [execOp, ho, Instr.makeInterface, Sem.run_bind, run_und hu, Result.andThen_ok, Sem.run_pure]
    · have c := of_decide_eq_true c
      subst c
      rw [h1]; rfl
  · cases h

theorem op_unOp {u : UnOp} {t : TypeId} {x : Operand} (hR : RV d.Φ R d.ρ) (hv : Reads d hp v e) (h : opRun C R (.unOp u t x) v rd new = some r) (ho : o.op = .unOp u t x) : Yld C.P e o w d hp r := by
  simp only [opRun] at h
  split at h
  · rename_i b hx
    cases h
    have h1 := hv.is _ _ hx
    simp only [SV.is, Cell.den] at h1
    refine ⟨.bool (!b.den d.Φ d.ρ), by simp [execOp, ho, h1, Op.unary], ?_, trivial, rfl⟩
    simp only [Res.c, SV.is, Cell.den, mkNot_den]
  · rename_i k a hx
    cases h
    have h1 := hv.is _ _ hx
    simp only [SV.is, Cell.den] at h1
    refine ⟨.int k (k.wrap (0 - a.den d.Φ d.ρ)), by simp [execOp, ho, h1, Op.unary, Op.intArith], ?_, trivial, rfl⟩
    simp only [Res.c, SV.is, Cell.den, mkWrap_den hR, mkSub_den, E.den]
  · cases h

theorem op_convert {s t : TypeId} {x : Operand} (hR : RV d.Φ R d.ρ) (hv : Reads d hp v e) (h : opRun C R (.convert s t x) v rd new = some r) (ho : o.op = .convert s t x) : Yld C.P e o w d hp r := by
  simp only [opRun] at h
  split at h
  · rename_i us k k' a hs hk hx
    cases h
    have h1 := hv.is _ _ hx
    simp only [SV.is, Cell.den] at h1
    have ht : C.P.underlying t = some (.int k) := by
      unfold intK at hk
      split at hk
      · rename_i k2 hu; cases hk; exact hu
      · cases hk
    refine ⟨.int k (k.wrap (a.den d.Φ d.ρ)), ?_, ?_, trivial, rfl⟩
    · simp only [execOp, ho, h1, convert, Sem.run_bind, run_und hs, run_und ht, Result.andThen_ok]
      cases us <;> simp [Conv.intToInt]
    · simp only [Res.c, SV.is, Cell.den, mkWrap_den hR]
  · cases h

theorem op_binOp {op : BinOp} {t yt : TypeId} {x y : Operand} (hR : RV d.Φ R d.ρ) (hv : Reads d hp v e) (h : opRun C R (.binOp op t x y yt) v rd new = some r)
    (ho : o.op = .binOp op t x y yt) (hos : OsHold d.Φ Pr d.ρ r.os) : Yld C.P e o w d hp r := by
  simp only [opRun] at h
  have ints : ∀ {k k' : IntKind} {a b : E}, v x = some (.one (.int k a)) → v y = some (.one (.int k' b)) →
      (∃ z, (binOp op t (.int k (a.den d.Φ d.ρ)) (.int k' (b.den d.Φ d.ρ))).run C.P w = .ok z w ∧ r.val.is d z ∧ (∀ hp, r.val.ok d hp) ∧ r.wr = []) → Yld C.P e o w d hp r := by
    intro k k' a b hx hy ⟨z, hz, h2, h3, h4⟩
    have h1 := hv.is _ _ hx
    have h1' := hv.is _ _ hy
    simp only [SV.is, Cell.den] at h1 h1'
    refine ⟨z, ?_, h2, h3 hp, h4⟩
    simp only [execOp, ho, h1, h1', Sem.run_bind]
    have : eqGuard op t x y (.int k (a.den d.Φ d.ρ)) (.int k' (b.den d.Φ d.ρ)) = pure () := by
      unfold eqGuard; split <;> rfl
    rw [this]
    simp [hz]
  split at h
  · rename_i k a k' b hx hy
    split at h
    · exact ints hx hy (shiftInt_run hR h hos t)
    · exact ints hx hy (shiftInt_run hR h hos t)
    · cases c : decide (k = k') <;> simp only [c, cond_false, cond_true] at h
      · cases h
      · simp only [decide_eq_true_eq] at c; subst c
        exact ints hx hy (binInt_run hR h hos t)
  · rename_i sx sy hni hx hy
    cases c : (shapeOk C.P t sx && shapeOk C.P t sy) <;> simp only [c, cond_false, cond_true] at h
    · cases h
    · simp only [Bool.and_eq_true] at c
      have h1 := hv.is _ _ hx
      have h2 := hv.is _ _ hy
      have v1 := shapeOk_val c.1 h1
      have v2 := shapeOk_val c.2 h2
      have guard : ∀ op, (eqGuard op t x y (e x) (e y)).run C.P w = .ok () w := by
        intro op
        cases sx with
        | one cx =>
          simp only [SV.is] at h1
          rw [h1]
          have : eqGuard op t x y (cx.den d) (e y) = pure () := by
            unfold eqGuard; cases cx <;> (simp only [Cell.den]; split <;> rfl)
          rw [this]; rfl
        | agg cs =>
          simp only [SV.is] at h1
          have c1 := c.1
          simp only [shapeOk, Bool.and_eq_true, Bool.not_eq_true'] at c1
          cases sy with
          | one cy =>
            have c2 := c.2
            simp only [shapeOk, c1.1, Bool.not_true, Bool.false_eq_true] at c2
          | agg ds =>
            simp only [SV.is] at h2
            rw [h1, h2]
            exact run_eqGuard_agg w op t x y _ _ c1.2
          | tup _ => exact absurd c.2 (by simp [shapeOk])
          | any => exact absurd c.2 (by simp [shapeOk])
        | tup _ => exact absurd c.1 (by simp [shapeOk])
        | any => exact absurd c.1 (by simp [shapeOk])
      have eqs : ∀ b, eqV C.P R 8 t sx.cells sy.cells = some b → (Op.equal t (e x) (e y)).run C.P w = .ok (b.den d.Φ d.ρ) w := by
        intro b hb
        rw [v1, v2]
        unfold Op.equal
        exact eqV_run hR 8 Op.maxDepth t _ _ b w (by decide) hb
      have both : ∀ b, eqV C.P R 8 t sx.cells sy.cells = some b →
          (binOp .eql t (e x) (e y)).run C.P w = .ok (.bool (b.den d.Φ d.ρ)) w ∧ (binOp .neq t (e x) (e y)).run C.P w = .ok (.bool (!b.den d.Φ d.ρ)) w := by
        intro b hb
        have he := eqs b hb
        cases sx with
        | one cx => cases sy with
          | one cy =>
            simp only [SV.is] at h1 h2
            simp only [SV.cells] at hb
            have ha : aggT C.P t = false := by simpa [shapeOk] using c.1
            have : ∃ u, C.P.underlying t = some u ∧ eqCell R u cx cy = some b := by
              simp only [eqV] at hb
              split at hb
              · rename_i hu; unfold aggT at ha; rw [hu] at ha; cases ha
              · rename_i hu; unfold aggT at ha; rw [hu] at ha; cases ha
              · rename_i u _ _ hu; exact ⟨u, hu, hb⟩
              · cases hb
            obtain ⟨u, hu, hc⟩ := this
            unfold eqCell at hc
            split at hc
            · exact absurd rfl (fun h => hni _ _ _ _ h rfl)
            · rw [h1, h2] at he ⊢
              simp only [Cell.den] at he ⊢
              simp only [binOp, Sem.run_bind, he, Result.andThen_ok, Sem.run_pure, and_self]
            · rw [h1, h2] at he ⊢
              simp only [Cell.den] at he ⊢
              have hs : C.P.underlying t = some .string := hu
              unfold Op.equal Op.maxDepth at he
              rw [run_equalIn_string w 9999 t _ _ hs] at he
              simp only [Result.ok.injEq, and_true] at he
              simp only [binOp, Op.stringOp, Sem.run_pure]
              simp only [he, and_self]
            · cases hc
          | agg ds =>
            have c1 := c.1; have c2 := c.2
            simp only [shapeOk, Bool.and_eq_true, Bool.not_eq_true'] at c1 c2
            rw [c1] at c2; exact absurd c2.1 (by simp)
          | tup _ => exact absurd c.2 (by simp [shapeOk])
          | any => exact absurd c.2 (by simp [shapeOk])
        | agg cs => cases sy with
          | agg ds =>
            simp only [SV.is] at h1 h2
            rw [h1, h2] at he ⊢
            simp only [binOp, Sem.run_bind, he, Result.andThen_ok, Sem.run_pure, and_self]
          | one cy =>
            have c1 := c.1; have c2 := c.2
            simp only [shapeOk, Bool.and_eq_true, Bool.not_eq_true'] at c1 c2
            rw [c2] at c1; exact absurd c1.1 (by simp)
          | tup _ => exact absurd c.2 (by simp [shapeOk])
          | any => exact absurd c.2 (by simp [shapeOk])
        | tup _ => exact absurd c.1 (by simp [shapeOk])
        | any => exact absurd c.1 (by simp [shapeOk])
      split at h
      · simp only [Option.map_eq_some_iff] at h
        obtain ⟨b, hb, rfl⟩ := h
        refine ⟨.bool (b.den d.Φ d.ρ), ?_, rfl, trivial, rfl⟩
        simp only [execOp, ho, Sem.run_bind, guard, Result.andThen_ok, (both b hb).1, Sem.run_pure]
      · simp only [Option.map_eq_some_iff] at h
        obtain ⟨b, hb, rfl⟩ := h
        refine ⟨.bool (!b.den d.Φ d.ρ), ?_, ?_, trivial, rfl⟩
        · simp only [execOp, ho, Sem.run_bind, guard, Result.andThen_ok, (both b hb).2, Sem.run_pure]
        · simp only [Res.c, SV.is, Cell.den, mkNot_den]
      · cases h
  · cases h

theorem fieldAt_some {P : Program} {s : TypeId} {f : Nat} {fl : Field} (h : fieldAt P s f = some fl) : ∃ fs, P.underlying s = some (.struct fs) ∧ fs[f]? = some fl := by
  unfold fieldAt at h
  split at h
  · exact ⟨_, by assumption, h⟩
  · cases h

theorem op_fieldAddr {s : TypeId} {x : Operand} {f : Nat} (hv : Reads d hp v e) (h : opRun C R (.fieldAddr s x f) v rd new = some r) (ho : o.op = .fieldAddr s x f) : Yld C.P e o w d hp r := by
  simp only [opRun] at h
  split at h
  · rename_i fl id off hf hx
    split at h
    · rename_i n hn
      cases h
      obtain ⟨fs, hu, hfs⟩ := fieldAt_some hf
      have h1 := hv.is _ _ hx
      simp only [SV.is, Cell.den] at h1
      refine ⟨.pointer (some ⟨(d.α id).1, (d.α id).2 + (off + fl.offset), none⟩), ?_, rfl, show (getH hp id).isSome = true from hv.ok _ _ hx, rfl⟩
      simp only [execOp, ho, h1, Instr.fieldAt, Sem.run_bind, run_und hu, Result.andThen_ok]
      simp only [hfs, Instr.sureAddr, Sem.run_bind, Sem.run_pure, Result.andThen_ok, fieldPlace, run_size hn, Nat.succ_ne_zero, if_false, add_mk, Nat.add_assoc]
    · cases h
  · rename_i fl id st ix k hf hx
    split at h
    · rename_i n hn
      cases h
      obtain ⟨fs, hu, hfs⟩ := fieldAt_some hf
      have h1 := hv.is _ _ hx
      simp only [SV.is, Cell.den] at h1
      have hk := hv.ok _ _ hx
      refine ⟨.pointer (some ⟨(d.α id).1, (d.α id).2 + ((ix.den d.Φ d.ρ).toNat * st + (k + fl.offset)), none⟩), ?_, rfl, hk, rfl⟩
      simp only [execOp, ho, h1, Instr.fieldAt, Sem.run_bind, run_und hu, Result.andThen_ok]
      simp only [hfs, Instr.sureAddr, Sem.run_bind, Sem.run_pure, Result.andThen_ok, fieldPlace, run_size hn, Nat.succ_ne_zero, if_false, add_mk, Nat.add_assoc]
    · cases h
  · cases h

theorem op_field {s : TypeId} {x : Operand} {f : Nat} (hv : Reads d hp v e) (h : opRun C R (.field s x f) v rd new = some r) (ho : o.op = .field s x f) : Yld C.P e o w d hp r := by
  simp only [opRun] at h
  split at h
  · rename_i fl cs hf hx
    simp only [Option.map_eq_some_iff] at h
    obtain ⟨sv, hs, rfl⟩ := h
    obtain ⟨fs, hu, hfs⟩ := fieldAt_some hf
    have h1 := hv.is _ _ hx
    simp only [SV.is] at h1
    obtain ⟨y, hy, hy2⟩ := part_run (w := w) d hs
    refine ⟨y, ?_, hy2, partT_ok hs (hv.ok _ _ hx), rfl⟩
    simp only [execOp, ho, h1, Instr.field, Sem.run_bind, run_und hu, Result.andThen_ok, hfs, asAgg, Sem.run_pure, hy]
  · cases h

theorem op_extract {x : Operand} {i : Nat} (hv : Reads d hp v e) (h : opRun C R (.extract x i) v rd new = some r) (ho : o.op = .extract x i) : Yld C.P e o w d hp r := by
  simp only [opRun] at h
  split at h
  · rename_i vs hx
    have h1 := hv.is _ _ hx
    simp only [SV.is] at h1
    have hk := hv.ok _ _ hx
    have get : ∀ p rest, vs.drop i = p :: rest → vs[i]? = some p := fun p rest hd => by
      have : (vs.drop i)[0]? = some p := by rw [hd]; rfl
      rwa [List.getElem?_drop] at this
    split at h
    · rename_i cs rest hd
      cases h
      have hg := get _ _ hd
      refine ⟨_, ?_, rfl, hk _ (List.mem_of_getElem? hg), rfl⟩
      simp [execOp, ho, h1, Instr.extract, hg, compV]
    · rename_i c rest hd
      cases h
      have hg := get _ _ hd
      refine ⟨_, ?_, rfl, hk _ (List.mem_of_getElem? hg) c List.mem_cons_self, rfl⟩
      simp [execOp, ho, h1, Instr.extract, hg, compV]
    · cases h
  · cases h

theorem op_build {t : TypeId} {parts : Array (Nat × Operand)} (hv : Reads d hp v e) (h : opRun C R (.build t parts) v rd new = some r) (ho : o.op = .build t parts) : Yld C.P e o w d hp r := by
  simp only [opRun] at h
  split at h
  · rename_i zero ps hz hps
    obtain ⟨z, hz1, hz2, hz3⟩ := run_zero (w := w) d hz
    simp only [SV.is] at hz2
    subst hz2
    obtain ⟨p1, p2, p3⟩ := svParts_spec hv hps
    have fin : ∀ (place : Nat → Option (Nat × Nat)) (cs : List Cell), ps.all (fun p => noTup p.2) = true → fillCells place zero ps = some cs →
        Instr.fill place (zero.map (Cell.den d)).toArray ((parts.map fun (i, x) => (i, e x)).toList) = some (cs.map (Cell.den d)).toArray ∧ (∀ c ∈ cs, c.ok d hp) := by
      intro place cs hall hf
      refine ⟨fill_run d place ps _ zero cs (by simp [p1]) (fun k p q hk hq => ?_) hf, fillCells_ok place ps zero cs p3 (hz3 hp) hf⟩
      have hq' : (parts.toList.map fun x => (x.1, e x.2))[k]? = some q := by
        rw [← hq]; simp
      have := p2 k p q hk hq'
      exact ⟨this.1, List.all_eq_true.1 hall p (List.mem_of_getElem? hk), this.2⟩
    split at h
    · rename_i fs hu
      cases c : (fs.toList.all (fun f => (sizeT C.P f.type).isSome) && ps.all (fun p => noTup p.2)) <;> simp only [c, cond_false, cond_true] at h
      · cases h
      · simp only [Bool.and_eq_true] at c
        simp only [Option.map_eq_some_iff] at h
        obtain ⟨cs, hf, rfl⟩ := h
        obtain ⟨f1, f2⟩ := fin _ cs c.2 hf
        refine ⟨.agg (cs.map (Cell.den d)).toArray, ?_, rfl, f2, rfl⟩
        have places : ∀ (l : List Field), l.all (fun f => (sizeT C.P f.type).isSome) = true →
            (l.mapM fun (f : Field) => (do pure (f.offset, ← sizeOf f.type) : Sem (Nat × Nat))).run C.P w = .ok (l.map fun (f : Field) => (f.offset, (sizeT C.P f.type).getD 0)) w := by
          intro l
          induction l with
          | nil => intro _; rfl
          | cons f l ih =>
            intro hl
            simp only [List.all_cons, Bool.and_eq_true] at hl
            obtain ⟨n, hn⟩ := Option.isSome_iff_exists.1 hl.1
            simp only [List.mapM_cons, Sem.run_bind, run_size hn, Result.andThen_ok, Sem.run_pure, ih hl.2, hn, Option.getD_some, List.map_cons]
        simp only [execOp, ho, Instr.build, Sem.run_bind, hz1, Result.andThen_ok, run_und hu, Value.cells]
        rw [Array.mapM_eq_mapM_toList]
        simp only [Sem.run_map, places _ c.1, Result.andThen_ok]
        have : (fun (i : Nat) => ((fs.toList.map fun (f : Field) => (f.offset, (sizeT C.P f.type).getD 0)).toArray)[i]?) = fun i => fs[i]?.map fun (f : Field) => (f.offset, (sizeT C.P f.type).getD 0) := by
          funext i; simp
        simp only [this, f1, Sem.run_pure, Result.andThen_ok]
    · rename_i n el hu
      split at h
      · rename_i m hm
        cases c : (ps.all (fun p => noTup p.2)) <;> simp only [c, cond_false, cond_true] at h
        · cases h
        · simp only [Option.map_eq_some_iff] at h
          obtain ⟨cs, hf, rfl⟩ := h
          obtain ⟨f1, f2⟩ := fin _ cs c hf
          refine ⟨.agg (cs.map (Cell.den d)).toArray, ?_, rfl, f2, rfl⟩
          simp only [execOp, ho, Instr.build, Sem.run_bind, hz1, Result.andThen_ok, run_und hu, Value.cells, run_size hm, f1, Sem.run_pure]
      · cases h
    · cases h
  · cases h

theorem intBounds (hR : RV d.Φ R d.ρ) {ix : E} {n : Nat} (hos : OsHold d.Φ Pr d.ρ (must (mkLe R (.lit 0) ix) ++ must (mkLt R ix (.lit n)))) :
    0 ≤ ix.den d.Φ d.ρ ∧ ix.den d.Φ d.ρ < n := by
  have h1 := must_hold hos.left
  have h2 := must_hold hos.right
  rw [mkLe_den hR] at h1
  rw [mkLt_den hR] at h2
  have h1 := of_decide_eq_true h1
  have h2 := of_decide_eq_true h2
  simp only [E.den] at h1 h2
  exact ⟨h1, h2⟩

theorem stripS_len {Φ : Fns} {ρ : Env} : ∀ l : L, ((stripS l).den Φ ρ).length = (l.den Φ ρ).length
  | .set l _ _ => by simp only [stripS, L.den, List.length_set]; exact stripS_len l
  | .lit _ | .var _ | .cat _ _ | .one _ | .take _ _ | .drop _ _ | .zeros _ | .app _ _ _ => rfl

theorem nelE_den (l : L) (s : Nat) : (nelE l s).den d.Φ d.ρ = if s = 1 then ((l.den d.Φ d.ρ).length : Int) else ((l.den d.Φ d.ρ).length : Int) / s := by
  unfold nelE
  cases c : Nat.beq s 1 <;> simp only [cond_false, cond_true, E.den, stripS_len]
  · have : s ≠ 1 := fun e => by subst e; simp at c
    rw [if_neg this]
  · have c : s = 1 := Nat.eq_of_beq_eq_true c
    rw [if_pos c]

theorem op_indexAddr {X : Ctx} {w' : World} {t : TypeId} {x i : Operand} (hP : HP X d hp w') (hrd : ∀ id r, rd id = some r → getH hp id = some r) (hR : RV d.Φ R d.ρ) (hv : Reads d hp v e) (h : opRun C R (.indexAddr t x i) v rd new = some r) (ho : o.op = .indexAddr t x i)
    (hos : OsHold d.Φ Pr d.ρ r.os) : Yld C.P e o w d hp r := by
  simp only [opRun] at h
  split at h
  · rename_i n el id off k ix hu hx hi
    have h1 := hv.is _ _ hx
    have h2 := hv.is _ _ hi
    simp only [SV.is, Cell.den] at h1 h2
    split at h
    · rename_i m hm
      have run : ∀ j : Nat, j < n → ix.den d.Φ d.ρ = (j : Int) → (execOp e o).run C.P w = .ok (.value (.pointer (some ⟨(d.α id).1, (d.α id).2 + (off + j * m), none⟩))) w := by
        intro j hj he
        simp only [execOp, ho, h1, h2, Instr.indexAt, Sem.run_bind, run_und hu, Result.andThen_ok, asIntOf, Sem.run_pure, Instr.sureAddr, he]
        have hb : (0 : Int) ≤ (j : Int) ∧ (j : Int) < (n : Int) := ⟨by omega, by omega⟩
        simp [hb, run_size hm, add_mk, Nat.add_assoc]
      split at h
      · rename_i j
        cases c : Nat.blt j n <;> simp only [c, cond_false, cond_true] at h
        · cases h
        · cases h
          rw [Nat.blt_eq] at c
          exact ⟨_, run j c rfl, rfl, show (getH hp id).isSome = true from hv.ok _ _ hx, rfl⟩
      · cases c : Nat.blt 1 n <;> simp only [c, cond_false, cond_true] at h
        · cases h
        · cases h
          obtain ⟨b1, b2⟩ := intBounds hR hos
          obtain ⟨j, hj⟩ := Int.eq_ofNat_of_zero_le b1
          refine ⟨_, run j (by omega) hj, ?_, ⟨show (getH hp id).isSome = true from hv.ok _ _ hx, b1, b2⟩, rfl⟩
          simp only [SV.is, Cell.den, hj, Int.toNat_natCast]
    · cases h
  · rename_i el id off n cap k j hu hx hi
    have h1 := hv.is _ _ hx
    have h2 := hv.is _ _ hi
    simp only [SV.is, Cell.den] at h1 h2
    split at h
    · rename_i m hm
      cases c : Nat.blt j n <;> simp only [c, cond_false, cond_true] at h
      · cases h
      · cases h
        rw [Nat.blt_eq] at c
        refine ⟨.pointer (some ⟨(d.α id).1, (d.α id).2 + (off + j * m), none⟩), ?_, rfl, show (getH hp id).isSome = true from hv.ok _ _ hx, rfl⟩
        simp only [execOp, ho, h1, h2, Instr.indexAt, Sem.run_bind, run_und hu, Result.andThen_ok, asIntOf, Sem.run_pure, Instr.sureAddr, E.den]
        have hb : (0 : Int) ≤ (Int.ofNat j : Int) ∧ (Int.ofNat j : Int) < (n : Int) := ⟨Int.natCast_nonneg j, by show (j : Int) < n; omega⟩
        simp only [hb, and_self, if_true, Sem.run_bind, run_size hm, Result.andThen_ok, Sem.run_pure]
        simp [add_mk, Nat.add_assoc]
    · cases h
  · rename_i n el id s p f k j hu hx hi
    have h1 := hv.is _ _ hx
    have h2 := hv.is _ _ hi
    simp only [SV.is, Cell.den] at h1 h2
    split at h
    · rename_i m hm
      cases c : Nat.blt j n <;> simp only [c, cond_false, cond_true] at h
      · cases h
      · cases h
        rw [Nat.blt_eq] at c
        refine ⟨.pointer (some ⟨(d.α id).1, (d.α id).2 + ((p.den d.Φ d.ρ).toNat * s + (f + j * m)), none⟩), ?_, rfl, show (getH hp id).isSome = true ∧ 0 ≤ p.den d.Φ d.ρ from hv.ok _ _ hx, rfl⟩
        simp only [execOp, ho, h1, h2, Instr.indexAt, Sem.run_bind, run_und hu, Result.andThen_ok, asIntOf, Sem.run_pure, Instr.sureAddr, E.den]
        have hb : (0 : Int) ≤ (Int.ofNat j : Int) ∧ (Int.ofNat j : Int) < (n : Int) := ⟨Int.natCast_nonneg j, by show (j : Int) < n; omega⟩
        simp only [hb, and_self, if_true, Sem.run_bind, run_size hm, Result.andThen_ok, Sem.run_pure]
        simp [add_mk, Nat.add_assoc]
    · cases h
  · rename_i el id s off len k ix hu hx hi
    have h1 := hv.is _ _ hx
    have h2 := hv.is _ _ hi
    simp only [SV.is, Cell.den] at h1 h2
    have hk := hv.ok _ _ hx
    obtain ⟨hk1, hk2, hk3⟩ : (getH hp id).isSome = true ∧ 0 ≤ off.den d.Φ d.ρ ∧ 0 ≤ len.den d.Φ d.ρ := hk
    split at h
    · rename_i m hm
      split at h
      · rename_i ks l htl
        rw [Option.bind_eq_some_iff] at htl
        obtain ⟨g, hg, htl⟩ := htl
        have hg := hrd _ _ hg
        cases c : Nat.beq m s <;> simp only [c, cond_false, cond_true] at h
        · cases h
        · cases h
          have c : m = s := Nat.eq_of_beq_eq_true c
          subst c
          have b1 := must_hold hos.left
          have b2 := must_hold hos.right.left
          rw [mkLe_den hR] at b1
          rw [mkLt_den hR] at b2
          have b1 := of_decide_eq_true b1
          have b2 := of_decide_eq_true b2
          simp only [E.den] at b1
          have b3 : off.den d.Φ d.ρ + ix.den d.Φ d.ρ < (nelE l m).den d.Φ d.ρ := by
            have b3 := hos.right.right
            cases c : (off.eqb (.lit 0) && len.eqb (nelE l m)) <;> simp only [c, cond_false, cond_true] at b3
            · have b3 := must_hold b3
              rw [mkLt_den hR, mkAdd_den] at b3
              exact of_decide_eq_true b3
            · simp only [Bool.and_eq_true] at c
              rw [E.eqb_eq _ _ c.1, ← E.eqb_eq _ _ c.2]
              simp only [E.den]
              omega
          obtain ⟨j, hj⟩ := Int.eq_ofNat_of_zero_le b1
          obtain ⟨p, hp'⟩ := Int.eq_ofNat_of_zero_le hk2
          obtain ⟨n, hn⟩ := Int.eq_ofNat_of_zero_le hk3
          have hreg := hP.reg _ _ hg
          cases hκ : d.κ id with
          | none =>
            exfalso
            unfold RegIs at hreg
            rw [htl] at hreg
            have := hreg.2.2.1 hκ
            simp only at this
            rw [nelE_den, this] at b3
            split at b3 <;> simp at b3 <;> omega
          | some cp =>
            rw [hκ] at h1
            refine ⟨.pointer (some ⟨(d.α id).1, (d.α id).2 + ((off.den d.Φ d.ρ + ix.den d.Φ d.ρ).toNat * m + 0), none⟩), ?_, by simp only [SV.is, Cell.den, mkAdd_den], ⟨hk1, by rw [mkAdd_den]; omega⟩, rfl⟩
            simp only [execOp, ho, h1, h2, Instr.indexAt, Sem.run_bind, run_und hu, Result.andThen_ok, asIntOf, Sem.run_pure, Instr.sureAddr]
            have hb : (0 : Int) ≤ ix.den d.Φ d.ρ ∧ ix.den d.Φ d.ρ < ((len.den d.Φ d.ρ).toNat : Int) := ⟨b1, by omega⟩
            simp only [hb, and_self, if_true, Sem.run_bind, run_size hm, Result.andThen_ok, Sem.run_pure, add_mk]
            rw [hj, hp']
            simp only [Int.toNat_natCast]
            congr 5
            rw [show ((p : Int) + (j : Int)).toNat = p + j by omega, Nat.add_mul]
            omega
      · cases h
    · cases h
  · cases h

theorem op_index {t : TypeId} {x i : Operand} (hR : RV d.Φ R d.ρ) (hv : Reads d hp v e) (h : opRun C R (.index t x i) v rd new = some r) (ho : o.op = .index t x i)
    (hos : OsHold d.Φ Pr d.ρ r.os) : Yld C.P e o w d hp r := by
  simp only [opRun] at h
  split at h
  · rename_i n el cs k ix hu hx hi
    have h1 := hv.is _ _ hx
    have h2 := hv.is _ _ hi
    simp only [SV.is, Cell.den] at h1 h2
    split at h
    · rename_i m hm
      have run : ∀ (j : Nat) (sv : SV), j < n → ix.den d.Φ d.ρ = (j : Int) → partT C.P el cs (j * m) = some sv → ∃ y, (execOp e o).run C.P w = .ok (.value y) w ∧ sv.is d y := by
        intro j sv hj he hs
        obtain ⟨y, hy, hy2⟩ := part_run (w := w) d hs
        refine ⟨y, ?_, hy2⟩
        have hb : (0 : Int) ≤ (j : Int) ∧ (j : Int) < (n : Int) := ⟨by omega, by omega⟩
        simp [execOp, ho, h1, h2, Instr.index, run_und hu, asIntOf, he, hb, run_size hm, hy]
        omega
      split at h
      · rename_i j
        cases c : Nat.blt j n <;> simp only [c, cond_false, cond_true] at h
        · cases h
        · simp only [Option.map_eq_some_iff] at h
          obtain ⟨sv, hs, rfl⟩ := h
          rw [Nat.blt_eq] at c
          obtain ⟨y, hy, hy2⟩ := run j sv c rfl hs
          exact ⟨y, hy, hy2, partT_ok hs (hv.ok _ _ hx), rfl⟩
      · cases c : (Nat.beq m 1 && !aggT C.P el && (C.P.underlying el).isSome && Nat.beq cs.length n && Nat.blt 0 n) <;> simp only [c, cond_false, cond_true] at h
        · cases h
        · simp only [Bool.and_eq_true, Bool.not_eq_true'] at c
          obtain ⟨⟨⟨⟨c1, c2⟩, cu⟩, c3⟩, c4⟩ := c
          have c1 := Nat.eq_of_beq_eq_true c1
          have c3 := Nat.eq_of_beq_eq_true c3
          subst c1
          simp only [Option.map_eq_some_iff] at h
          obtain ⟨c, hc, rfl⟩ := h
          obtain ⟨b1, b2⟩ := intBounds hR hos
          obtain ⟨j, hj⟩ := Int.eq_ofNat_of_zero_le b1
          have hjn : j < n := by omega
          obtain ⟨c', g1, g2, g3⟩ := selCell_some hc (n := j) (by omega) hj
          have hs : partT C.P el cs (j * 1) = some (.one c') := by
            unfold partT
            obtain ⟨u, hue⟩ := Option.isSome_iff_exists.1 cu
            rw [hue, hm, c2]
            simp only [cond_false, Nat.mul_one]
            have : (cs.drop j)[0]? = some c' := by rw [List.getElem?_drop]; exact g1
            cases hd : cs.drop j with
            | nil => rw [hd] at this; cases this
            | cons a b => rw [hd] at this; simp at this; subst this; rfl
          obtain ⟨y, hy, hy2⟩ := run j (.one c') hjn hj hs
          refine ⟨y, hy, ?_, g3 hp, rfl⟩
          simp only [SV.is] at hy2 ⊢
          rw [hy2, g2]
    · cases h
  · rename_i l k ix hu hx hi
    have h1 := hv.is _ _ hx
    have h2 := hv.is _ _ hi
    simp only [SV.is, Cell.den] at h1 h2
    split at h
    · rename_i p hp'
      cases c : p.1.sub ⟨0, 255⟩ <;> simp only [c, cond_false, cond_true] at h
      · cases h
      · cases h
        have b1 := must_hold hos.left
        have b2 := must_hold hos.right
        rw [mkLe_den hR] at b1
        rw [mkLt_den hR] at b2
        have b1 := of_decide_eq_true b1
        have b2 := of_decide_eq_true b2
        simp only [E.den] at b1 b2
        obtain ⟨j, hj⟩ := Int.eq_ofNat_of_zero_le b1
        have hjl : j < (l.den d.Φ d.ρ).length := by omega
        have hb := (L.iv_ok hR l hp').1 ((l.den d.Φ d.ρ)[j]) (List.getElem_mem hjl)
        have hb := Iv.sub_has c hb
        simp only [Iv.has] at hb
        refine ⟨.int .u8 ((l.den d.Φ d.ρ)[j]), ?_, ?_, trivial, rfl⟩
        · have hg : (⟨((l.den d.Φ d.ρ).map u8).toArray⟩ : ByteArray)[j]? = some (u8 (l.den d.Φ d.ρ)[j]) := by
            have : j < (⟨((l.den d.Φ d.ρ).map u8).toArray⟩ : ByteArray).size := by simp [ByteArray.size, hjl]
            rw [getElem?_pos (⟨((l.den d.Φ d.ρ).map u8).toArray⟩ : ByteArray) j this]
            congr 1
            simp [ByteArray.getElem_eq_getElem_data]
          have e8 : ((u8 (l.den d.Φ d.ρ)[j]).toNat : Int) = (l.den d.Φ d.ρ)[j] := by
            simp only [u8, UInt8.toNat_ofNat']; omega
          simp [execOp, ho, h1, h2, Instr.index, run_und hu, asIntOf, hj, hg, e8]
        · simp only [SV.is, Cell.den, E.den, hj, Int.toNat_natCast]
          simp [List.getD_eq_getElem?_getD, hjl]
    · cases h
  · cases h

/-- A slice of an array, from its first element on. -/
theorem op_slice {t : TypeId} {x : Operand} {hi : Option Operand} (hv : Reads d hp v e) (h : opRun C R (.slice t x none hi none) v rd new = some r) (ho : o.op = .slice t x none hi none) : Yld C.P e o w d hp r := by
  simp only [opRun] at h
  split at h
  · rename_i n el id off hu hx hh
    cases c : (Nat.blt 0 n && (sizeT C.P el).isSome) <;> simp only [c, cond_false, cond_true] at h
    · cases h
    · cases h
      simp only [Bool.and_eq_true] at c
      have c1 : 0 < n := by simpa [Nat.blt_eq] using c.1
      obtain ⟨m, hm⟩ := Option.isSome_iff_exists.1 c.2
      have h1 := hv.is _ _ hx
      simp only [SV.is, Cell.den] at h1
      have hhi : hi = none := by cases hi with
        | none => rfl
        | some _ => cases hh
      subst hhi
      refine ⟨_, ?_, rfl, (show (getH hp id).isSome = true from hv.ok _ _ hx), rfl⟩
      simp only [execOp, ho, Instr.sliceAt, Sem.run_bind, run_und hu, Result.andThen_ok, h1, Instr.sureAddr, Instr.sliceBounds, Option.map_none, Sem.run_pure, run_size hm, if_neg (by omega : ¬ n = 0), Nat.zero_mul, Addr.add, if_true, Nat.sub_zero]
      rfl
  · rename_i n el id off k j hu hx hh
    cases c : (Nat.blt 0 n && (Nat.ble j n && (sizeT C.P el).isSome)) <;> simp only [c, cond_false, cond_true] at h
    · cases h
    · cases h
      simp only [Bool.and_eq_true] at c
      have c1 : 0 < n := by simpa [Nat.blt_eq] using c.1
      have c2 : j ≤ n := Nat.le_of_ble_eq_true c.2.1
      obtain ⟨m, hm⟩ := Option.isSome_iff_exists.1 c.2.2
      have h1 := hv.is _ _ hx
      simp only [SV.is, Cell.den] at h1
      cases hi with
      | none => cases hh
      | some y =>
        simp only [Option.map_some, Option.some.injEq] at hh
        have h2 := hv.is _ _ hh
        simp only [SV.is, Cell.den, E.den] at h2
        refine ⟨_, ?_, rfl, (show (getH hp id).isSome = true from hv.ok _ _ hx), rfl⟩
        have hb : (0 : Int) ≤ Int.ofNat j ∧ Int.ofNat j ≤ (n : Int) := ⟨Int.natCast_nonneg j, by show (j : Int) ≤ n; omega⟩
        simp only [execOp, ho, Instr.sliceAt, Sem.run_bind, run_und hu, Result.andThen_ok, h1, Instr.sureAddr, Instr.sliceBounds, Option.map_none, Option.map_some, Sem.run_pure, h2, Instr.sliceBound, asIntOf, if_pos hb, run_size hm, if_neg (by omega : ¬ n = 0), Nat.zero_mul, Addr.add, if_true, Nat.sub_zero]
        rfl
  · cases h
theorem op_sl2ap {t : TypeId} {x : Operand} (hv : Reads d hp v e) (h : opRun C R (.sliceToArrayPointer t x) v rd new = some r) (ho : o.op = .sliceToArrayPointer t x) : Yld C.P e o w d hp r := by
  simp only [opRun] at h
  split at h
  · rename_i n el id off len cap hu hx
    cases c : Nat.ble n len <;> simp only [c, cond_false, cond_true] at h
    · cases h
    · cases h
      have c1 := Nat.le_of_ble_eq_true c
      have h1 := hv.is _ _ hx
      simp only [SV.is, Cell.den] at h1
      refine ⟨_, ?_, rfl, (show (getH hp id).isSome = true from hv.ok _ _ hx), rfl⟩
      simp only [execOp, ho, Instr.arrayAt, Sem.run_bind, run_und hu, Result.andThen_ok, h1, Sem.run_pure, if_neg (by omega : ¬ len < n)]
      rfl
  · cases h

end
end Go.Proofs.YtelfpnkhdaaeoaaDoor.Sx
