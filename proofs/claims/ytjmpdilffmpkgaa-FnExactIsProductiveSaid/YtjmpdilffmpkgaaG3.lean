/-
  A tree that grows: numbers of nodes, by the code.
-/
import Derived.Test.YtjmpdilffmpkgaaTP
import Derived.Test.YtjmpdilffmpkgaaM0
import Derived.Deep.QuietTactic
import Derived.BigQuiet
namespace Go.Proofs.Ytjmpdilffmpkgaa.Sx
open Go Go.RowKit Go.ChangeShapes Go.WideShapes Go.Maps
set_option linter.unusedVariables false
set_option linter.unusedSimpArgs false

open Classical in
/-- Which number a node has. -/
noncomputable def fmN (l : List Nat) : Value → Option Int := fun x => if h : ∃ v, v ∈ l ∧ x = .int .i16 (v : Nat) then some (l.idxOf h.choose : Nat) else none
theorem i16_inj {u v : Nat} (h : Value.int .i16 (u : Nat) = Value.int .i16 (v : Nat)) : u = v := by
  injection h with _ h2
  exact Int.ofNat_inj.1 h2
theorem fmN_in {l : List Nat} {v : Nat} (h : v ∈ l) : fmN l (.int .i16 (v : Nat)) = some (l.idxOf v : Nat) := by
  unfold fmN
  have hh : ∃ u, u ∈ l ∧ Value.int .i16 (v : Nat) = .int .i16 (u : Nat) := ⟨v, h, rfl⟩
  rw [dif_pos hh]
  have := i16_inj hh.choose_spec.2
  rw [← this]
  rfl
theorem fmN_out {l : List Nat} {v : Nat} (h : ¬ v ∈ l) : fmN l (.int .i16 (v : Nat)) = none := by
  unfold fmN
  rw [dif_neg]
  rintro ⟨u, hu, e⟩
  rw [i16_inj e] at h
  exact h hu
theorem fmN_nil : fmN [] = fun _ => none := by
  funext x
  unfold fmN
  rw [dif_neg]
  rintro ⟨u, hu, _⟩
  cases hu
theorem fmN_put {l : List Nat} {v : Nat} (h : ¬ v ∈ l) : updF (fmN l) (.int .i16 (v : Nat)) (l.length : Nat) = fmN (l ++ [v]) := by
  funext x
  by_cases hx : ∃ u : Nat, x = .int .i16 (u : Nat)
  · obtain ⟨u, rfl⟩ := hx
    by_cases e : u = v
    · subst e
      rw [updF_same, fmN_in (by simp)]
      rw [List.idxOf_append, if_neg h]
      simp
    · rw [updF_other _ _ (fun hh => e (i16_inj hh))]
      by_cases hu : u ∈ l
      · rw [fmN_in hu, fmN_in (by simp [hu]), List.idxOf_append, if_pos hu]
      · rw [fmN_out hu, fmN_out (by simp [hu, e])]
  · rw [updF_other _ _ (fun hh => hx ⟨v, hh⟩)]
    unfold fmN
    rw [dif_neg (fun ⟨u, _, e⟩ => hx ⟨u, e⟩), dif_neg (fun ⟨u, _, e⟩ => hx ⟨u, e⟩)]
theorem ty16G : (59 : TypeId) ≠ 119 := of_decide_eq_true (by kernel_rfl)
/-- What stands while a tree grows. -/
structure GS (w : World) (B gB mB : Nat) (c1 c2 : Value) (l : List Nat) (ov : Value) : Prop where
  mk ::
  gb : w.heap[gB]? = some (.cells #[ov, .map (some mB), .int .i64 60, c1, c2] 119 (0, 0))
  ow : w.ownsRow B 59 1 ov l.length (vI l)
  mp : Gives Try.prog 59 59 .i16 w mB l.length (fmN l)
  bg : B ≤ gB
  bm : B ≤ mB
/-- Blocks of other kinds stay. -/
def Kp (w w' : World) : Prop := ∀ (b : Nat) (cs : Array Value) (t : TypeId) (f : Nat × Nat), w.heap[b]? = some (.cells cs t f) → t ≠ 59 → t ≠ 119 → w'.heap[b]? = some (.cells cs t f)
theorem Kp.refl (w : World) : Kp w w := fun _ _ _ _ h _ _ => h
theorem Kp.trans {u v w : World} (h : Kp u v) (k : Kp v w) : Kp u w := fun b cs t f hb h1 h2 => k b cs t f (h b cs t f hb h1 h2) h1 h2
theorem Kp.of_below {w w' : World} (h : Below w.heap.size w w') : Kp w w' := fun b cs t f hb _ _ => at_keep hb h
theorem Kp.of_grown {w w' : World} {r : Option Nat} (h : w.grownBy w' r) (hr : ∀ b cs t f, r = some b → w.heap[b]? = some (.cells cs t f) → t = 59 ∨ t = 119) : Kp w w' := fun b cs t f hb h1 h2 => by
  refine (h.block b (heap_lt hb) (fun e => ?_)).trans hb
  rcases hr b cs t f e.symm hb with h | h
  · exact h1 h
  · exact h2 h
theorem GS.keep {w w' : World} {B gB mB : Nat} {c1 c2 : Value} {l : List Nat} {ov : Value} (h : GS w B gB mB c1 c2 l ov) (hB : Below w.heap.size w w') : GS w' B gB mB c1 c2 l ov :=
  ⟨at_keep h.gb hB, row_underN (k := 0) h.ow hB, h.mp.kept (row := none) ⟨hB.os, hB.tape, hB.output, hB.size, fun j hj _ => hB.block j hj⟩ (by simp), h.bg, h.bm⟩
theorem Gives.isMap {P : Program} {k e : TypeId} {q : IntKind} {w : World} {b n : Nat} {f : Value → Option Int} (h : Gives P k e q w b n f) : ∃ es c, w.heap[b]? = some (.map es c) := by
  obtain ⟨D, ⟨es, clock, hb, _⟩, _⟩ := h
  exact ⟨es, clock, hb⟩
theorem wf16 {v : Int} (h0 : 0 ≤ v) (h : v < 60) : (Lit.int .i16 v).wf = true := by
  simp [Lit.wf, IntKind.min, IntKind.max, IntKind.signed, IntKind.bits]
  omega
/-- A number is given: that of v. -/
structure PlG (w w' : World) (B gB mB : Nat) (c1 c2 : Value) (l : List Nat) (v : Nat) (e : Ending) : Prop where
  mk ::
  e : e = .returned (.tuple #[.int .i16 ((addN l v).idxOf v : Nat), .nilIface])
  st : ∃ ov, GS w' B gB mB c1 c2 (addN l v) ov
  below : Below B w w'
  kp : Kp w w'
  sz : w.heap.size ≤ w'.heap.size
set_option maxRecDepth 1000000 in
set_option maxHeartbeats 16000000 in
theorem placeI {w : World} {B gB mB v : Nat} {c1 c2 ov : Value} {l : List Nat} {n : Nat} (h : GS w B gB mB c1 c2 l ov) (hl : Fnd l n) (hv : v < n) (hn : n ≤ 60) :
    Calls Try.prog 79 #[.pointer (some ⟨gB, 0, none⟩), .int .i16 v] w fun e w' => PlG w w' B gB mB c1 c2 l v e := by
  obtain ⟨i0, ha, ha0, ha1, ha2⟩ := info_parts info16
  have hlB : ∀ (s : Option Addr) (n k : Nat) (W : World), (Builtin.len_ #[54] 3 #[.slice s n k]).run Try.prog W = .ok (.int .i64 n) W := fun s n k W => rfl
  obtain ⟨su, cu, rfl⟩ := own_formN h.ow
  have q0 : w.cell? ⟨gB, 0, none⟩ = some (.slice su l.length cu) := by rw [Lib.cell_of_heap h.gb]; rfl
  have q1 : w.cell? ⟨gB, 1, none⟩ = some (.map (some mB)) := by rw [Lib.cell_of_heap h.gb]; rfl
  have q2 : w.cell? ⟨gB, 2, none⟩ = some (.int .i64 60) := by rw [Lib.cell_of_heap h.gb]; rfl
  have K : Keyed Try.prog 59 := int_keyed Try.underlying59
  have hkl : keyOf Try.prog 59 (.int .i16 (v : Nat)) = some (.int .i16 (v : Nat)) := keyOf_int_mk Try.underlying59 (wf16 (by omega) (by omega))
  have lk := h.mp.look K Try.underlying115 Try.underlying59 (Try.zeroValue59 _) hkl
  have hll := hl.len
  by_cases hm : v ∈ l
  · rw [fmN_in hm] at lk
    have HI := Lib.hid (addN_in hm)
    have HS := Lib.hid h
    clear h hl K hkl hm
    go_enter Try.func79, Try.ntmps79
    go_wp2
    refine bodyPost_ret (v := .tuple #[.int .i16 (l.idxOf v : Nat), .nilIface]) (by simp [results, Try.results79, go_sem]) rfl ?_
    exact ⟨by rw [HI.out], ⟨_, by rw [HI.out]; exact HS.out⟩, Below.refl _ _, Kp.refl _, Nat.le_refl _⟩
  · rw [fmN_out hm] at lk
    have hlen : l.length < 60 := by
      have := (hl.add hv).len
      rw [addN_out hm, List.length_append] at this
      simp at this
      omega
    have HI := Lib.hid (addN_out hm)
    have hix : (l ++ [v]).idxOf v = l.length := by rw [List.idxOf_append, if_neg hm]; simp
    have HIX := Lib.hid hix
    have HP := Lib.hid (fmN_put hm)
    have HS := Lib.hid h
    obtain ⟨ln, hln⟩ : ∃ y, l.length = y := ⟨_, rfl⟩
    have HL := Lib.hid hln
    rw [hln] at q0 hlen
    have ew : IntKind.i16.wrap (ln : Int) = ln := by
      simp [IntKind.wrap, IntKind.signed, IntKind.bits]
      omega
    have gl : ¬ (ln : Int) = 60 := by omega
    have gl2 : ((ln : Int) == 60) = false := by rw [beq_eq_false_iff_ne]; exact gl
    have HK := Lib.hid K
    have HKL := Lib.hid hkl
    clear h hl K hkl hm hix hln hll
    go_enter Try.func79, Try.ntmps79
    go_upto_region 3 with (fail)
    go_quiet (fail)
    obtain ⟨X0, hX0⟩ : ∃ X, w.drewN nq = X := ⟨_, rfl⟩
    rw [hX0]
    have bd : Below w.heap.size w X0 := by rw [← hX0]; exact ⟨rfl, rfl, rfl, Nat.le_refl _, fun _ _ => rfl⟩
    have hz0 : X0.heap.size = w.heap.size := by rw [← hX0]; rfl
    have s0 := HS.out.keep bd
    rw [HL.out] at s0
    obtain ⟨W2, hrun, hmp, hg2⟩ := s0.mp.put HK.out Try.underlying115 Try.underlying59 (by rw [HL.out]; unfold maxLen; omega) HKL.out (c := ln) (wf16 (by omega) (by omega))
    have hBw : B ≤ w.heap.size := Nat.le_trans HS.out.bg (Nat.le_of_lt (heap_lt HS.out.gb))
    have hne1 : gB ≠ mB := by
      rintro rfl
      obtain ⟨es, ck, e⟩ := s0.mp.isMap
      rw [s0.gb] at e
      cases e
    have hne2 : (Value.slice su ln cu).ownBlock ≠ some mB := by
      intro eq
      rcases s0.ow.2 with ⟨h, _⟩ | ⟨g, cap, cur, h, _, h3, _⟩
      · rw [h] at eq; cases eq
      · rw [h] at eq
        have e2 : g = mB := by cases eq; rfl
        subst e2
        obtain ⟨es, ck, e⟩ := s0.mp.isMap
        rw [h3] at e
        cases e
    have gb2 := (hg2.block gB (heap_lt s0.gb) (fun e => hne1 (Option.some.inj e))).trans s0.gb
    have ow2 := s0.ow.kept hg2 (.inr hne2)
    have bl2 : Below B w W2 := (bd.mono hBw).grown hg2 (by omega) fun j e => by have := Option.some.inj e; have := HS.out.bm; omega
    have kp2 : Kp w W2 := (Kp.of_below bd).trans (Kp.of_grown hg2 fun b cs t f e hb => by
      have e2 := Option.some.inj e
      subst e2
      obtain ⟨es, ck, e⟩ := s0.mp.isMap
      rw [hb] at e
      cases e)
    have sz2 : w.heap.size ≤ W2.heap.size := by have := hg2.size; omega
    have hBm := HS.out.bm
    have q0 : X0.cell? ⟨gB, 0, none⟩ = some (.slice su ln cu) := by rw [Lib.cell_of_heap s0.gb]; rfl
    have q1 : X0.cell? ⟨gB, 1, none⟩ = some (.map (some mB)) := by rw [Lib.cell_of_heap s0.gb]; rfl
    have p0 : W2.cell? ⟨gB, 0, none⟩ = some (.slice su ln cu) := by rw [Lib.cell_of_heap gb2]; rfl
    have GB2 := Lib.hid gb2
    have KP2 := Lib.hid kp2
    have BL2 := Lib.hid bl2
    have HNE := Lib.hid (And.intro hne1 hne2)
    obtain ⟨xs, hxs⟩ : ∃ xs, vI l = xs := ⟨_, rfl⟩
    rw [hxs, HL.out] at ow2
    rw [HL.out] at hmp
    have HXS := Lib.hid hxs
    have HMP := Lib.hid hmp
    have hB2 : B ≤ W2.heap.size := by omega
    clear hmp hg2 s0 bd hz0 hne1 hne2 gb2 bl2 kp2 hxs
    go_wp2_with (at_builtin; refine wpList_append_own _ rfl _ _ 54 rfl B 59 i0 (.int .i16 0) 1 2 Try.underlying54 ha ha0 ha1 ha2 rfl (by decide) _ _ _ rfl (ow2.alloc _) ⟨W2.heap.size, 0, none⟩ 1 1 [.int .i16 v] rfl rfl ?c1 ?c2 ?c3 ?c4 ?c5 ?_)
    try (case c1 => exact new1 _ _ _)
    case c2 => simp [Value.oneCell']
    case c3 => unfold maxLen; omega
    case c4 => omega
    case c5 => first | omega | (simp; omega)
    intro v' w5 hown' hgrow _
    have hgrow : (W2.alloc (.cells #[.int .i16 v] 59)).grownBy w5 (Value.slice su ln cu).ownBlock := hgrow
    have hgr : W2.grownBy w5 (Value.slice su ln cu).ownBlock := ⟨hgrow.os, hgrow.tape, hgrow.output, by have := hgrow.size; simp at this; omega, fun j hj hne => (hgrow.block j (by simp; omega) hne).trans (Below.heap_alloc _ _ j hj)⟩
    have htyp : ∀ b cs t f, (Value.slice su ln cu).ownBlock = some b → W2.heap[b]? = some (.cells cs t f) → t = 59 := by
      intro b cs t f e hb
      rcases ow2.2 with ⟨h, _⟩ | ⟨g, cap, cur, h, _, h3, _⟩
      · rw [h] at e; cases e
      · rw [h] at e
        have e2 : g = b := by cases e; rfl
        subst e2
        rw [hb] at h3
        cases h3
        rfl
    have gne : some gB ≠ (Value.slice su ln cu).ownBlock := fun e => ty16G (htyp _ _ _ _ e.symm GB2.out).symm
    have gb5 := (hgr.block gB (heap_lt GB2.out) gne).trans GB2.out
    have mp5 := HMP.out.kept hgr (fun e => HNE.out.2 e.symm)
    have kp5 : Kp w w5 := KP2.out.trans (Kp.of_grown hgr fun b cs t f e hb => .inl (htyp b cs t f e hb))
    have bl5 : Below B w w5 := BL2.out.grown hgr hB2 fun j e => (ow2.lt j e).1
    have sz5 : w.heap.size ≤ w5.heap.size := by have := hgr.size; omega
    obtain ⟨sv, cv, rfl⟩ := own_formN hown'
    obtain ⟨W9, hW9, r1, r2, r3, r4⟩ := set3 (i := 0) gb5 (.slice sv (ln + 1) cv)
    have hv9 := row_ne hown' gb5 ty16G
    have own9 : W9.ownsRow B 59 1 (.slice sv (ln + 1) cv) (ln + 1) (xs ++ [.int .i16 v]) := by
      obtain ⟨p1, p2 | ⟨g, cap, cur, p2, p3, p4, p5⟩⟩ := hown'
      · exact ⟨p1, .inl p2⟩
      · exact ⟨p1, .inr ⟨g, cap, cur, p2, p3, (r3 _ (fun e => hv9 (by rw [p2, e]; rfl))).trans p4, p5⟩⟩
    have g9 : w5.grownBy W9 (some gB) := ⟨(r2 0 (Nat.zero_le _)).os, (r2 0 (Nat.zero_le _)).tape, (r2 0 (Nat.zero_le _)).output, (r2 0 (Nat.zero_le _)).size, fun j _ hj => r3 j (fun e => hj (by rw [e]))⟩
    have S9 := Lib.hid (show GS W9 B gB mB c1 c2 (l ++ [v]) (.slice sv (ln + 1) cv) from ⟨r1, by
        rw [List.length_append, HL.out]
        show W9.ownsRow B 59 1 (.slice sv (ln + 1) cv) (ln + 1) (vI (l ++ [v]))
        rw [show vI (l ++ [v]) = xs ++ [Value.int .i16 v] by unfold vI at *; rw [List.map_append, ← HXS.out]; rfl]
        exact own9, by
        rw [← HP.out, List.length_append, HL.out]
        exact mp5.kept g9 (fun e => HNE.out.1 (Option.some.inj e).symm), HS.out.bg, hBm⟩)
    have P9 := Lib.hid (show Below B w W9 ∧ Kp w W9 ∧ w.heap.size ≤ W9.heap.size from ⟨bl5.grown g9 (by omega) (fun j e => by have := Option.some.inj e; have := HS.out.bg; omega), kp5.trans (Kp.of_grown g9 fun b cs t f e hb => by
      have e2 := Option.some.inj e
      subst e2
      rw [gb5] at hb
      cases hb
      exact .inr rfl), by have := g9.size; omega⟩)
    have p5 : w5.cell? ⟨gB, 0, none⟩ = some (.slice su ln cu) := by rw [Lib.cell_of_heap gb5]; rfl
    have f5 : w5.frozen? ⟨gB, 0, none⟩ = false := Lib.frozen_of_heap gb5 _
    clear hgrow hgr htyp gne gb5 mp5 kp5 bl5 r1 r2 r3 r4 hv9 own9 g9 hown' ow2 lk
    go_wp2
    refine bodyPost_ret (v := .tuple #[.int .i16 (ln : Nat), .nilIface]) (by simp [results, Try.results79, go_sem]) rfl ?_
    exact ⟨by rw [HI.out, HIX.out, HL.out], ⟨_, by rw [HI.out]; exact S9.out⟩, P9.out.1, P9.out.2.1, P9.out.2.2⟩
end Go.Proofs.Ytjmpdilffmpkgaa.Sx
