/-
  What is reached in a tree, by the model.
-/
import Derived.Test.YtjmpdilffmpkgaaG0r
import Derived.Test.YtjmpdilffmpkgaaTW
import Derived.Test.YtjmpdilffmpkgaaTL
import Derived.Test.YtjmpdilffmpkgaaN1
import Derived.Laws.MakeOwn
import Derived.WalkSpells
import Derived.Deep.DeepCutAuto
namespace Go.Proofs.Ytjmpdilffmpkgaa.Sx
open Go Go.RowKit
set_option linter.unusedVariables false
set_option linter.unusedSimpArgs false

/-- Nodes as values. -/
def vI (l : List Nat) : List Value := l.map fun v : Nat => Value.int .i16 v
theorem vI_at {l : List Nat} {j : Nat} (h : j < l.length) : (vI l)[j]? = some (.int .i16 (l.getD j 0 : Nat)) := by
  unfold vI
  rw [List.getElem?_map, List.getD_eq_getElem?_getD, List.getElem?_eq_getElem h]
  rfl
/-- Which have been found. -/
def fdA (n : Nat) (l : List Nat) : Array Value := ((List.range n).map fun v => Value.bool (decide (v ∈ l))).toArray
theorem fdA_size (n : Nat) (l : List Nat) : (fdA n l).size = n := by simp [fdA]
theorem fdA_at {n v : Nat} {l : List Nat} (h : v < n) : (fdA n l)[v]? = some (.bool (decide (v ∈ l))) := by
  unfold fdA
  rw [List.getElem?_toArray, List.getElem?_map, List.getElem?_range h]
  rfl
theorem fdA_set {n v : Nat} {l m : List Nat} (h : v < n) (hm : ∀ x, x ∈ m ↔ x ∈ l ∨ x = v) : (fdA n l).setIfInBounds v (.bool true) = fdA n m := by
  apply Array.ext_getElem?
  intro i
  rw [Array.getElem?_setIfInBounds]
  by_cases e : v = i
  · subst e
    rw [if_pos rfl, if_pos (by rw [fdA_size]; exact h), fdA_at h]
    rw [decide_eq_true ((hm v).2 (.inr rfl))]
  · rw [if_neg e]
    rcases Nat.lt_or_ge i n with hi | hi
    · rw [fdA_at hi, fdA_at hi]
      have : (i ∈ l) = (i ∈ m) := by
        apply propext
        rw [hm i]
        constructor
        · exact .inl
        · rintro (h | h)
          · exact h
          · exact absurd h.symm e
      rw [show decide (i ∈ l) = decide (i ∈ m) by simp only [this]]
    · rw [Array.getElem?_eq_none (by rw [fdA_size]; exact hi), Array.getElem?_eq_none (by rw [fdA_size]; exact hi)]
theorem addN_iff (l : List Nat) (v x : Nat) : x ∈ addN l v ↔ x ∈ l ∨ x = v := by
  unfold addN
  split
  · rename_i h
    constructor
    · exact .inl
    · rintro (h2 | rfl)
      · exact h2
      · exact h
  · simp
theorem info16 : (Try.prog.info? 59).map (fun i => (i.zero, i.size, i.bytes)) = some (some (.int .i16 0), 1, 2) := by kernel_rfl
theorem infoB : (Try.prog.info? 4).map (fun i => (i.zero, i.size, i.bytes)) = some (some (.bool false), 1, 1) := by kernel_rfl
theorem ty16B : (59 : TypeId) ≠ 4 := of_decide_eq_true (by kernel_rfl)
/-- A row of nodes is another block than one of another kind. -/
theorem row_ne {w : World} {B n s b : Nat} {e t : TypeId} {v : Value} {xs : List Value} {cs : Array Value} {f : Nat × Nat} (h : w.ownsRow B e s v n xs) (hb : w.heap[b]? = some (.cells cs t f)) (hne : e ≠ t) : v.ownBlock ≠ some b := by
  intro eq
  rcases h.2 with ⟨h, _⟩ | ⟨g, cap, cur, h, _, h3, _⟩
  · rw [h] at eq; cases eq
  · rw [h] at eq
    have e2 : g = b := by cases eq; rfl
    subst e2
    rw [hb] at h3
    cases h3
    exact hne rfl
theorem waysF_len {f : Fk} (h : f.k = 1 ∨ f.k = 2) : (f.k = 2 → (waysF f).length = 1) ∧ (f.k = 1 → (waysF f).length = 3) := by
  unfold waysF
  constructor
  · intro e; rw [if_pos e]; rfl
  · intro e; rw [if_neg (by omega)]; rfl
set_option maxRecDepth 1000000 in
set_option maxHeartbeats 4000000 in
theorem waysS {w : World} {g o : Nat} {K : Int} (hc : w.cell? ⟨g, o, none⟩ = some (.int .i8 K)) (hK : K = 1 ∨ K = 2) : Calls Try.prog 56 #[.pointer (some ⟨g, o, none⟩)] w fun e w' => e = .returned (.int .i64 (if K = 2 then 1 else 3)) ∧ Same w w' := by
  rcases hK with rfl | rfl
  · go_enter Try.func56, Try.ntmps56
    go_wp2
    go_ret
    exact ⟨rfl, rfl⟩
  · go_enter Try.func56, Try.ntmps56
    go_wp2
    go_ret
    exact ⟨rfl, rfl⟩
/-- A row of nodes is given. -/
structure RowN (w w' : World) (l : List Nat) (e : Ending) : Prop where
  mk ::
  here : ∃ s k, e = .returned (.slice s l.length k) ∧ w'.ownsRow w.heap.size 59 1 (.slice s l.length k) l.length (vI l)
  below : Below w.heap.size w w'
set_option maxRecDepth 1000000 in
set_option maxHeartbeats 16000000 in
theorem reachedS {w : World} {bt N : Nat} {T : List Fk} {v : Value} (h : HereT w bt T v) (hT : trB T = true) (hN : N = (rch T N).length) (hNT : N ≤ T.length) (hq : ∀ i, i < N → i < (rch T i).length) :
    Calls Try.prog 34 #[.pointer (some ⟨bt, 0, none⟩)] w fun e w' => RowN w w' (rch T N) e := by
  obtain ⟨i0, ha, ha0, ha1, ha2⟩ := info_parts info16
  obtain ⟨ib, hb, hb0, hb1, hb2⟩ := info_parts infoB
  obtain ⟨s, cp, rfl⟩ := h.is.form
  obtain ⟨n, hn⟩ : ∃ n, T.length = n := ⟨_, rfl⟩
  rw [hn] at h hNT
  have hT1 := (trB_iff.1 hT).1
  rw [hn] at hT1
  have HN := Lib.hid hn
  have hlB : ∀ (s : Option Addr) (n k : Nat) (W : World), (Builtin.len_ #[54] 3 #[.slice s n k]).run Try.prog W = .ok (.int .i64 n) W := fun s n k W => rfl
  have hlT : ∀ (s : Option Addr) (n k : Nat) (W : World), (Builtin.len_ #[28] 3 #[.slice s n k]).run Try.prog W = .ok (.int .i64 n) W := fun s n k W => rfl
  obtain ⟨W1, hW1, hB1, x1⟩ := boxN w #[.int .i16 0] 59
  have hmk : ∀ W : World, (Instr.makeSlice 75 (.int .i64 n) (.int .i64 n)).run Try.prog W = .ok (.slice (some ⟨W.heap.size, 0, none⟩) n n) (W.alloc (.cells (madeCells #[.bool false] n) 4)) := fun W => by
    have := run_make (P := Try.prog) W 75 4 ib (.bool false) Try.underlying75 hb hb0 .i64 .i64 n n (by omega) (Int.le_refl _) (by rw [hb2]; omega) (by omega)
    rw [this, hb1]
    simp [Value.cells]
  have hfd : madeCells #[.bool false] n = fdA n [] := by
    apply Array.ext_getElem?
    intro i
    rcases Nat.lt_or_ge i n with hi | hi
    · rw [fdA_at hi]
      simp [madeCells, hi, Nat.mod_one]
    · rw [Array.getElem?_eq_none (by rw [size_madeCells]; exact hi), Array.getElem?_eq_none (by rw [fdA_size]; exact hi)]
  rw [hfd] at hmk
  obtain ⟨W2, hW2, hB2, x2⟩ := boxN W1 (fdA n []) 4
  have z1 : W1.heap.size = w.heap.size + 1 := by rw [← hW1]; simp
  have z2 : W2.heap.size = W1.heap.size + 1 := by rw [← hW2]; simp
  have f0 : W2.frozen? ⟨W1.heap.size, 0, none⟩ = false := Lib.frozen_of_heap x2 _
  have c0 : W2.cell? ⟨W1.heap.size, 0, none⟩ = some (.bool false) := by rw [Lib.cell_of_heap x2, fdA_at (by omega)]; rfl
  obtain ⟨W3, hW3, g1, g2, g3, g4⟩ := set3 (i := 0) x2 (.bool true)
  rw [fdA_set (l := []) (m := [0]) (by omega) (fun x => by simp)] at g1
  have hr1 : W1.ownsRow w.heap.size 59 1 (.slice (some ⟨w.heap.size, 0, none⟩) 1 1) 1 (vI [0]) := ⟨rfl, .inr ⟨w.heap.size, 1, _, rfl, Nat.le_refl _, x1, Nat.le_refl _, by decide, rfl, rfl⟩⟩
  have hr3 : W3.ownsRow w.heap.size 59 1 (.slice (some ⟨w.heap.size, 0, none⟩) 1 1) 1 (vI [0]) := by
    have := row_underN (k := 0) hr1 hB2
    obtain ⟨p1, p2 | ⟨g, cap, cur, p2, p3, p4, p5⟩⟩ := this
    · exact ⟨p1, .inl p2⟩
    · exact ⟨p1, .inr ⟨g, cap, cur, p2, p3, (g3 _ (by cases p2; omega)).trans p4, p5⟩⟩
  have hb3 : Below w.heap.size w W3 := (hB1.trans (hB2.mono hB1.size)).trans (g2 _ (by omega))
  have k0 : W1.cell? ⟨bt, 0, none⟩ = some (.slice s n cp) := (h.keep hB1).c
  have HT := Lib.hid fun (X : World) (hb : Below w.heap.size w X) => h.keep hb
  have START := Lib.hid (And.intro hr3 (And.intro g1 hb3))
  have TV := Lib.hid hT
  have HE := Lib.hid hN
  have HQ := Lib.hid hq
  have ZZ := Lib.hid (And.intro z1 (And.intro z2 g4))
  clear h hT hN hq x1 x2 g1 g2 g3 g4 hr1 hr3 hb3 hB1 hB2 z1 z2 hn hfd hb0 hb1 hb2
  go_enter Try.func34, Try.ntmps34
  go_wp2
  go_loopw [3, 5] (fun ov iv wr => ∃ i : Nat, i ≤ N ∧ iv = .int .i64 i ∧ wr.ownsRow w.heap.size 59 1 ov (rch T i).length (vI (rch T i)) ∧ wr.heap[W1.heap.size]? = some (.cells (fdA n (rch T i)) 4 (0, 0)) ∧ Below w.heap.size w wr) (fun _ iv _ => N - (RowKit.intOf iv).toNat)
  case atStart => exact ⟨0, Nat.zero_le _, rfl, START.out.1, START.out.2.1, START.out.2.2⟩
  case round =>
    obtain ⟨i, hi, rfl, hown, hfb, hbw⟩ := hrel
    have hfn := (rch_fnd TV.out i).1
    rw [HN.out] at hfn
    have hlen := hfn.len
    by_cases hlt : i < N
    · have hil := HQ.out i hlt
      obtain ⟨vv, hvv⟩ : ∃ y, (rch T i).getD i 0 = y := ⟨_, rfl⟩
      have hvT : vv < T.length := by rw [← hvv]; exact rch_lt TV.out hil
      have hw := ways_lt TV.out hvT
      have hh := HT.out wr hbw
      obtain ⟨g, o, c', hf, x0, x1, x2, x3, x4⟩ := hh.is.node hvT
      rw [HN.out] at hf hvT hw
      obtain ⟨rfl, rfl⟩ : s = some ⟨g, o, none⟩ ∧ cp = c' := by simp at hf; exact hf
      have hkk : (fkAt T vv).k = 1 ∨ (fkAt T vv).k = 2 := by
        rcases (fkB_iff.1 ((trB_iff.1 TV.out).2 _ (List.mem_of_getElem? (fkAt_get (by rw [HN.out]; exact hvT))))).2.2.2 with h | h
        · exact .inl h.1
        · exact .inr h.1
      have hnn := fkB_iff.1 ((trB_iff.1 TV.out).2 _ (List.mem_of_getElem? (fkAt_get (by rw [HN.out]; exact hvT))))
      have hwl := waysF_len hkk
      have q0 : wr.cell? ⟨bt, 0, none⟩ = some (.slice (some ⟨g, o, none⟩) n cp) := hh.c
      obtain ⟨su, cu, rfl⟩ := own_formN hown
      obtain ⟨gu, cpu, hfu, _, _⟩ := hown.form (by omega)
      obtain rfl : su = some ⟨gu, 0, none⟩ := by simp at hfu; exact hfu.1
      have q1 : wr.cell? ⟨gu, i, none⟩ = some (.int .i16 vv) := by
        have := row_cell hown (vI_at hil)
        rwa [hvv] at this
      obtain ⟨li, hli⟩ : ∃ y, rch T i = y := ⟨_, rfl⟩
      have hvis : rch T (i + 1) = vis T li vv := by show vis T (rch T i) ((rch T i).getD i 0) = _; rw [hvv, hli]
      rw [hli] at hown hfb hil hfn hlen
      rw [hli]
      obtain ⟨ln, hln⟩ : ∃ y, li.length = y := ⟨_, rfl⟩
      have HVIS := Lib.hid hvis
      have HFN := Lib.hid hfn
      have HW := Lib.hid hw
      have HWL := Lib.hid hwl
      have HBW := Lib.hid hbw
      have HOW := Lib.hid hown
      have HFB := Lib.hid hfb
      have HL := Lib.hid hln
      have HNN := Lib.hid hnn
      rw [hln] at hil hlen
      rw [hln]
      have gi : (i : Int) < ln := by omega
      obtain ⟨⟨K, D, P, Q, R⟩, hff⟩ : ∃ f, fkAt T vv = f := ⟨_, rfl⟩
      rw [hff] at hkk hnn
      simp only at hkk hnn
      obtain ⟨y0, rfl⟩ : ∃ y : Nat, P = y := ⟨P.toNat, by omega⟩
      obtain ⟨y1, rfl⟩ : ∃ y : Nat, Q = y := ⟨Q.toNat, by omega⟩
      obtain ⟨y2, rfl⟩ : ∃ y : Nat, R = y := ⟨R.toNat, by omega⟩
      have HFF := Lib.hid hff
      have hvT' : vv < n := hvT
      clear hvis hfn hw hwl hbw hown hfb hln hli hvv hf hfu hh hnn x1 x2 x3 x4 hff x0
      go_upto_region 7 with (fail)
      go_quiet (fail)
      go_wp2
      obtain ⟨X0, hX0⟩ : ∃ X, wr.drewN nq = X := ⟨_, rfl⟩
      have HX0 := Lib.hid (show X0.ownsRow w.heap.size 59 1 (.slice (some ⟨gu, 0, none⟩) ln cu) (visK T li vv 0).length (vI (visK T li vv 0)) ∧ X0.heap[W1.heap.size]? = some (.cells (fdA n (visK T li vv 0)) 4 (0, 0)) ∧ Below w.heap.size w X0 from by
        have bd : Below wr.heap.size wr X0 := by rw [← hX0]; exact ⟨rfl, rfl, rfl, Nat.le_refl _, fun _ _ => rfl⟩
        refine ⟨?_, at_keep HFB.out bd, HBW.out.trans (bd.mono HBW.out.size)⟩
        have := row_underN (k := 0) HOW.out bd
        rw [HL.out] at this
        show X0.ownsRow _ _ _ _ li.length (vI li)
        rw [HL.out]
        exact this)
      rw [hX0]
      rcases hkk with rfl | rfl
      · go_loopw [3, 7] (fun ov kv wr => ∃ q : Nat, q ≤ 3 ∧ kv = .int .i64 q ∧ wr.ownsRow w.heap.size 59 1 ov (visK T li vv q).length (vI (visK T li vv q)) ∧ wr.heap[W1.heap.size]? = some (.cells (fdA n (visK T li vv q)) 4 (0, 0)) ∧ Below w.heap.size w wr) (fun _ kv _ => 3 - (RowKit.intOf kv).toNat)
        case atStart => exact ⟨0, by omega, rfl, HX0.out.1, HX0.out.2.1, HX0.out.2.2⟩
        case round =>
          obtain ⟨q, hq, rfl, hrow, hfb2, hb2⟩ := hrel
          obtain ⟨su2, cu2, rfl⟩ := own_formN hrow
          have hh2 := HT.out wr hb2
          obtain ⟨g2, o2, c2, hf, x0, x1, x2, x3, x4⟩ := hh2.is.node (i := vv) (by rw [HN.out]; exact hvT)
          rw [HN.out] at hf
          obtain ⟨⟨rfl, rfl⟩, rfl⟩ : (g = g2 ∧ o = o2) ∧ cp = c2 := by simp at hf; exact ⟨hf.1, hf.2⟩
          rw [HFF.out] at x0 x1 x2 x3 x4
          simp only at x0 x1 x2 x3 x4
          clear x1
          rcases (show q = 0 ∨ q = 1 ∨ q = 2 ∨ q = 3 by omega) with rfl | rfl | rfl | rfl
          · have hy : (waysF (fkAt T vv))[0]? = some y0 := by rw [HFF.out]; rfl
            have hvs := visK_succ (l := li) hy
            have hyn : y0 < n := HW.out _ (List.mem_of_getElem? hy)
            obtain ⟨l, hl⟩ : ∃ l, visK T li vv 0 = l := ⟨_, rfl⟩
            rw [hl] at hvs hrow hfb2
            have hfl : Fnd l n := by rw [← hl]; exact (fold_fnd _ HFN.out (fun z hz => HW.out z (List.mem_of_mem_take hz))).1
            have hll := hfl.len
            have cf : wr.cell? ⟨W1.heap.size, y0, none⟩ = some (.bool (decide (y0 ∈ l))) := by rw [Lib.cell_of_heap hfb2, fdA_at hyn]
            have ff : wr.frozen? ⟨W1.heap.size, y0, none⟩ = false := Lib.frozen_of_heap hfb2 _
            have ws := waysS (w := wr) x0 (by omega)
            have HVS := Lib.hid hvs
            have HL2 := Lib.hid hl
            have HR2 := Lib.hid hrow
            have HF2 := Lib.hid hfb2
            have HB2 := Lib.hid hb2
            have gy : (y0 : Int) < n := by omega
            rw [hl]
            clear hvs hl hrow hfb2 hb2 hh2 hf hy
            by_cases hmem : y0 ∈ l
            · rw [decide_eq_true hmem] at cf
              have HA := Lib.hid (addN_in hmem)
              clear hmem
              go_wp2_with (go_at_call 56; refine ws.mono ?_)
              first | (rintro e W5 rfl hs) | (rintro e W5 ⟨rfl, hs⟩)
              rw [hs.out]
              clear hs ws
              try dsimp only
              go_wp2
              first
                | exact ⟨⟨0 + 1, by omega, rfl, by rw [HVS.out, HA.out]; exact HR2.out, by rw [HVS.out, HA.out]; exact HF2.out, HB2.out⟩, by simp [RowKit.intOf]⟩
                | (go_roundw
                   case rel => exact ⟨0 + 1, by omega, rfl, by rw [HVS.out, HA.out]; exact HR2.out, by rw [HVS.out, HA.out]; exact HF2.out, HB2.out⟩
                   case measure => simp [RowKit.intOf])
                | (go_roundw
                   case rel => exact ⟨0 + 1, by omega, rfl, by rw [HVS.out, HA.out]; exact HR2.out, by rw [HVS.out, HA.out]; exact HF2.out, HB2.out⟩)
            · rw [decide_eq_false hmem] at cf
              have HA := Lib.hid (addN_out hmem)
              obtain ⟨X1, hX1, r1, r2, r3, r4⟩ := set3 (i := y0) (HF2.out) (.bool true)
              rw [fdA_set (m := l ++ [y0]) hyn (fun x => by simp)] at r1
              have hne := row_ne HR2.out HF2.out ty16B
              have rowX : X1.ownsRow w.heap.size 59 1 (.slice su2 l.length cu2) l.length (vI l) := by
                obtain ⟨p1, p2 | ⟨g, cap, cur, p2, p3, p4, p5⟩⟩ := HR2.out
                · exact ⟨p1, .inl p2⟩
                · exact ⟨p1, .inr ⟨g, cap, cur, p2, p3, (r3 _ (fun e => hne (by rw [p2, e]; rfl))).trans p4, p5⟩⟩
              have bX : Below w.heap.size w X1 := HB2.out.trans (r2 _ (by have := ZZ.out; omega))
              have hhX := HT.out X1 bX
              obtain ⟨g2, o2, c2, hf2, e0, e1, e2, e3, e4⟩ := hhX.is.node (i := vv) (by rw [HN.out]; exact hvT)
              rw [HN.out] at hf2
              obtain ⟨⟨rfl, rfl⟩, rfl⟩ : (g = g2 ∧ o = o2) ∧ cp = c2 := by simp at hf2; exact ⟨hf2.1, hf2.2⟩
              rw [HFF.out] at e2 e3 e4
              simp only at e2 e3 e4
              have hzX : w.heap.size ≤ X1.heap.size := bX.size
              obtain ⟨zs, hzs⟩ : ∃ zs, vI l = zs := ⟨_, rfl⟩
              rw [hzs] at rowX
              have HZS := Lib.hid hzs
              have HR1 := Lib.hid r1
              have HBX := Lib.hid bX
              have hneX := row_ne rowX r1 ty16B
              have HNE := Lib.hid hneX
              clear hmem r1 r2 r3 r4 hne bX hhX hf2 hzs e0 e1 hneX
              go_wp2_with (first | (go_at_call 56; refine ws.mono ?_) | (at_builtin; refine wpList_append_own _ rfl _ _ 54 rfl w.heap.size 59 i0 (.int .i16 0) 1 2 Try.underlying54 ha ha0 ha1 ha2 rfl (by decide) _ _ _ rfl (rowX.alloc _) ⟨X1.heap.size, 0, none⟩ 1 1 [.int .i16 y0] rfl rfl ?c1 ?c2 ?c3 ?c4 ?c5 ?_) | fail)
              first | (rintro e W5 rfl hs) | (rintro e W5 ⟨rfl, hs⟩)
              rw [hs.out]
              clear hs ws
              try dsimp only
              go_wp2_with (at_builtin; refine wpList_append_own _ rfl _ _ 54 rfl w.heap.size 59 i0 (.int .i16 0) 1 2 Try.underlying54 ha ha0 ha1 ha2 rfl (by decide) _ _ _ rfl (rowX.alloc _) ⟨X1.heap.size, 0, none⟩ 1 1 [.int .i16 y0] rfl rfl ?c1 ?c2 ?c3 ?c4 ?c5 ?_)
              case c1 => exact new1 _ _ _
              case c2 => simp [Value.oneCell']
              case c3 => unfold maxLen; omega
              case c4 => omega
              case c5 => simp; omega
              intro v' w1 hown' hgrow _
              have hbg : Below w.heap.size X1 w1 := own_grow (B := w.heap.size) rowX (Below.refl _ _) hzX hgrow
              have HO9 := Lib.hid (show w1.ownsRow w.heap.size 59 1 v' (l ++ [y0]).length (vI (l ++ [y0])) by unfold vI; rw [List.map_append, List.length_append, show List.map (fun v : Nat => Value.int .i16 v) l = zs from HZS.out]; exact hown')
              have HF9 := Lib.hid (show w1.heap[W1.heap.size]? = some (.cells (fdA n (l ++ [y0])) 4 (0, 0)) from (hgrow.block _ (by simp; have := heap_lt HR1.out; omega) (fun e => HNE.out e.symm)).trans (at_keep HR1.out ((Below.refl _ _).alloc (Nat.le_refl _) _)))
              have HB9 := Lib.hid (HBX.out.trans hbg)
              clear hown' hgrow hbg
              go_wp2
              first
                | exact ⟨⟨0 + 1, by omega, rfl, by rw [HVS.out, HA.out]; exact HO9.out, by rw [HVS.out, HA.out]; exact HF9.out, HB9.out⟩, by simp [RowKit.intOf]⟩
                | (go_roundw
                   case rel => exact ⟨0 + 1, by omega, rfl, by rw [HVS.out, HA.out]; exact HO9.out, by rw [HVS.out, HA.out]; exact HF9.out, HB9.out⟩
                   case measure => simp [RowKit.intOf])
                | (go_roundw
                   case rel => exact ⟨0 + 1, by omega, rfl, by rw [HVS.out, HA.out]; exact HO9.out, by rw [HVS.out, HA.out]; exact HF9.out, HB9.out⟩)
          · have hy : (waysF (fkAt T vv))[1]? = some y1 := by rw [HFF.out]; rfl
            have hvs := visK_succ (l := li) hy
            have hyn : y1 < n := HW.out _ (List.mem_of_getElem? hy)
            obtain ⟨l, hl⟩ : ∃ l, visK T li vv 1 = l := ⟨_, rfl⟩
            rw [hl] at hvs hrow hfb2
            have hfl : Fnd l n := by rw [← hl]; exact (fold_fnd _ HFN.out (fun z hz => HW.out z (List.mem_of_mem_take hz))).1
            have hll := hfl.len
            have cf : wr.cell? ⟨W1.heap.size, y1, none⟩ = some (.bool (decide (y1 ∈ l))) := by rw [Lib.cell_of_heap hfb2, fdA_at hyn]
            have ff : wr.frozen? ⟨W1.heap.size, y1, none⟩ = false := Lib.frozen_of_heap hfb2 _
            have ws := waysS (w := wr) x0 (by omega)
            have HVS := Lib.hid hvs
            have HL2 := Lib.hid hl
            have HR2 := Lib.hid hrow
            have HF2 := Lib.hid hfb2
            have HB2 := Lib.hid hb2
            have gy : (y1 : Int) < n := by omega
            rw [hl]
            clear hvs hl hrow hfb2 hb2 hh2 hf hy
            by_cases hmem : y1 ∈ l
            · rw [decide_eq_true hmem] at cf
              have HA := Lib.hid (addN_in hmem)
              clear hmem
              go_wp2_with (go_at_call 56; refine ws.mono ?_)
              first | (rintro e W5 rfl hs) | (rintro e W5 ⟨rfl, hs⟩)
              rw [hs.out]
              clear hs ws
              try dsimp only
              go_wp2
              first
                | exact ⟨⟨1 + 1, by omega, rfl, by rw [HVS.out, HA.out]; exact HR2.out, by rw [HVS.out, HA.out]; exact HF2.out, HB2.out⟩, by simp [RowKit.intOf]⟩
                | (go_roundw
                   case rel => exact ⟨1 + 1, by omega, rfl, by rw [HVS.out, HA.out]; exact HR2.out, by rw [HVS.out, HA.out]; exact HF2.out, HB2.out⟩
                   case measure => simp [RowKit.intOf])
                | (go_roundw
                   case rel => exact ⟨1 + 1, by omega, rfl, by rw [HVS.out, HA.out]; exact HR2.out, by rw [HVS.out, HA.out]; exact HF2.out, HB2.out⟩)
            · rw [decide_eq_false hmem] at cf
              have HA := Lib.hid (addN_out hmem)
              obtain ⟨X1, hX1, r1, r2, r3, r4⟩ := set3 (i := y1) (HF2.out) (.bool true)
              rw [fdA_set (m := l ++ [y1]) hyn (fun x => by simp)] at r1
              have hne := row_ne HR2.out HF2.out ty16B
              have rowX : X1.ownsRow w.heap.size 59 1 (.slice su2 l.length cu2) l.length (vI l) := by
                obtain ⟨p1, p2 | ⟨g, cap, cur, p2, p3, p4, p5⟩⟩ := HR2.out
                · exact ⟨p1, .inl p2⟩
                · exact ⟨p1, .inr ⟨g, cap, cur, p2, p3, (r3 _ (fun e => hne (by rw [p2, e]; rfl))).trans p4, p5⟩⟩
              have bX : Below w.heap.size w X1 := HB2.out.trans (r2 _ (by have := ZZ.out; omega))
              have hhX := HT.out X1 bX
              obtain ⟨g2, o2, c2, hf2, e0, e1, e2, e3, e4⟩ := hhX.is.node (i := vv) (by rw [HN.out]; exact hvT)
              rw [HN.out] at hf2
              obtain ⟨⟨rfl, rfl⟩, rfl⟩ : (g = g2 ∧ o = o2) ∧ cp = c2 := by simp at hf2; exact ⟨hf2.1, hf2.2⟩
              rw [HFF.out] at e2 e3 e4
              simp only at e2 e3 e4
              have hzX : w.heap.size ≤ X1.heap.size := bX.size
              obtain ⟨zs, hzs⟩ : ∃ zs, vI l = zs := ⟨_, rfl⟩
              rw [hzs] at rowX
              have HZS := Lib.hid hzs
              have HR1 := Lib.hid r1
              have HBX := Lib.hid bX
              have hneX := row_ne rowX r1 ty16B
              have HNE := Lib.hid hneX
              clear hmem r1 r2 r3 r4 hne bX hhX hf2 hzs e0 e1 hneX
              go_wp2_with (first | (go_at_call 56; refine ws.mono ?_) | (at_builtin; refine wpList_append_own _ rfl _ _ 54 rfl w.heap.size 59 i0 (.int .i16 0) 1 2 Try.underlying54 ha ha0 ha1 ha2 rfl (by decide) _ _ _ rfl (rowX.alloc _) ⟨X1.heap.size, 0, none⟩ 1 1 [.int .i16 y1] rfl rfl ?c1 ?c2 ?c3 ?c4 ?c5 ?_) | fail)
              first | (rintro e W5 rfl hs) | (rintro e W5 ⟨rfl, hs⟩)
              rw [hs.out]
              clear hs ws
              try dsimp only
              go_wp2_with (at_builtin; refine wpList_append_own _ rfl _ _ 54 rfl w.heap.size 59 i0 (.int .i16 0) 1 2 Try.underlying54 ha ha0 ha1 ha2 rfl (by decide) _ _ _ rfl (rowX.alloc _) ⟨X1.heap.size, 0, none⟩ 1 1 [.int .i16 y1] rfl rfl ?c1 ?c2 ?c3 ?c4 ?c5 ?_)
              case c1 => exact new1 _ _ _
              case c2 => simp [Value.oneCell']
              case c3 => unfold maxLen; omega
              case c4 => omega
              case c5 => simp; omega
              intro v' w1 hown' hgrow _
              have hbg : Below w.heap.size X1 w1 := own_grow (B := w.heap.size) rowX (Below.refl _ _) hzX hgrow
              have HO9 := Lib.hid (show w1.ownsRow w.heap.size 59 1 v' (l ++ [y1]).length (vI (l ++ [y1])) by unfold vI; rw [List.map_append, List.length_append, show List.map (fun v : Nat => Value.int .i16 v) l = zs from HZS.out]; exact hown')
              have HF9 := Lib.hid (show w1.heap[W1.heap.size]? = some (.cells (fdA n (l ++ [y1])) 4 (0, 0)) from (hgrow.block _ (by simp; have := heap_lt HR1.out; omega) (fun e => HNE.out e.symm)).trans (at_keep HR1.out ((Below.refl _ _).alloc (Nat.le_refl _) _)))
              have HB9 := Lib.hid (HBX.out.trans hbg)
              clear hown' hgrow hbg
              go_wp2
              first
                | exact ⟨⟨1 + 1, by omega, rfl, by rw [HVS.out, HA.out]; exact HO9.out, by rw [HVS.out, HA.out]; exact HF9.out, HB9.out⟩, by simp [RowKit.intOf]⟩
                | (go_roundw
                   case rel => exact ⟨1 + 1, by omega, rfl, by rw [HVS.out, HA.out]; exact HO9.out, by rw [HVS.out, HA.out]; exact HF9.out, HB9.out⟩
                   case measure => simp [RowKit.intOf])
                | (go_roundw
                   case rel => exact ⟨1 + 1, by omega, rfl, by rw [HVS.out, HA.out]; exact HO9.out, by rw [HVS.out, HA.out]; exact HF9.out, HB9.out⟩)
          · have hy : (waysF (fkAt T vv))[2]? = some y2 := by rw [HFF.out]; rfl
            have hvs := visK_succ (l := li) hy
            have hyn : y2 < n := HW.out _ (List.mem_of_getElem? hy)
            obtain ⟨l, hl⟩ : ∃ l, visK T li vv 2 = l := ⟨_, rfl⟩
            rw [hl] at hvs hrow hfb2
            have hfl : Fnd l n := by rw [← hl]; exact (fold_fnd _ HFN.out (fun z hz => HW.out z (List.mem_of_mem_take hz))).1
            have hll := hfl.len
            have cf : wr.cell? ⟨W1.heap.size, y2, none⟩ = some (.bool (decide (y2 ∈ l))) := by rw [Lib.cell_of_heap hfb2, fdA_at hyn]
            have ff : wr.frozen? ⟨W1.heap.size, y2, none⟩ = false := Lib.frozen_of_heap hfb2 _
            have ws := waysS (w := wr) x0 (by omega)
            have HVS := Lib.hid hvs
            have HL2 := Lib.hid hl
            have HR2 := Lib.hid hrow
            have HF2 := Lib.hid hfb2
            have HB2 := Lib.hid hb2
            have gy : (y2 : Int) < n := by omega
            rw [hl]
            clear hvs hl hrow hfb2 hb2 hh2 hf hy
            by_cases hmem : y2 ∈ l
            · rw [decide_eq_true hmem] at cf
              have HA := Lib.hid (addN_in hmem)
              clear hmem
              go_wp2_with (go_at_call 56; refine ws.mono ?_)
              first | (rintro e W5 rfl hs) | (rintro e W5 ⟨rfl, hs⟩)
              rw [hs.out]
              clear hs ws
              try dsimp only
              go_wp2
              first
                | exact ⟨⟨2 + 1, by omega, rfl, by rw [HVS.out, HA.out]; exact HR2.out, by rw [HVS.out, HA.out]; exact HF2.out, HB2.out⟩, by simp [RowKit.intOf]⟩
                | (go_roundw
                   case rel => exact ⟨2 + 1, by omega, rfl, by rw [HVS.out, HA.out]; exact HR2.out, by rw [HVS.out, HA.out]; exact HF2.out, HB2.out⟩
                   case measure => simp [RowKit.intOf])
                | (go_roundw
                   case rel => exact ⟨2 + 1, by omega, rfl, by rw [HVS.out, HA.out]; exact HR2.out, by rw [HVS.out, HA.out]; exact HF2.out, HB2.out⟩)
            · rw [decide_eq_false hmem] at cf
              have HA := Lib.hid (addN_out hmem)
              obtain ⟨X1, hX1, r1, r2, r3, r4⟩ := set3 (i := y2) (HF2.out) (.bool true)
              rw [fdA_set (m := l ++ [y2]) hyn (fun x => by simp)] at r1
              have hne := row_ne HR2.out HF2.out ty16B
              have rowX : X1.ownsRow w.heap.size 59 1 (.slice su2 l.length cu2) l.length (vI l) := by
                obtain ⟨p1, p2 | ⟨g, cap, cur, p2, p3, p4, p5⟩⟩ := HR2.out
                · exact ⟨p1, .inl p2⟩
                · exact ⟨p1, .inr ⟨g, cap, cur, p2, p3, (r3 _ (fun e => hne (by rw [p2, e]; rfl))).trans p4, p5⟩⟩
              have bX : Below w.heap.size w X1 := HB2.out.trans (r2 _ (by have := ZZ.out; omega))
              have hhX := HT.out X1 bX
              obtain ⟨g2, o2, c2, hf2, e0, e1, e2, e3, e4⟩ := hhX.is.node (i := vv) (by rw [HN.out]; exact hvT)
              rw [HN.out] at hf2
              obtain ⟨⟨rfl, rfl⟩, rfl⟩ : (g = g2 ∧ o = o2) ∧ cp = c2 := by simp at hf2; exact ⟨hf2.1, hf2.2⟩
              rw [HFF.out] at e2 e3 e4
              simp only at e2 e3 e4
              have hzX : w.heap.size ≤ X1.heap.size := bX.size
              obtain ⟨zs, hzs⟩ : ∃ zs, vI l = zs := ⟨_, rfl⟩
              rw [hzs] at rowX
              have HZS := Lib.hid hzs
              have HR1 := Lib.hid r1
              have HBX := Lib.hid bX
              have hneX := row_ne rowX r1 ty16B
              have HNE := Lib.hid hneX
              clear hmem r1 r2 r3 r4 hne bX hhX hf2 hzs e0 e1 hneX
              go_wp2_with (first | (go_at_call 56; refine ws.mono ?_) | (at_builtin; refine wpList_append_own _ rfl _ _ 54 rfl w.heap.size 59 i0 (.int .i16 0) 1 2 Try.underlying54 ha ha0 ha1 ha2 rfl (by decide) _ _ _ rfl (rowX.alloc _) ⟨X1.heap.size, 0, none⟩ 1 1 [.int .i16 y2] rfl rfl ?c1 ?c2 ?c3 ?c4 ?c5 ?_) | fail)
              first | (rintro e W5 rfl hs) | (rintro e W5 ⟨rfl, hs⟩)
              rw [hs.out]
              clear hs ws
              try dsimp only
              go_wp2_with (at_builtin; refine wpList_append_own _ rfl _ _ 54 rfl w.heap.size 59 i0 (.int .i16 0) 1 2 Try.underlying54 ha ha0 ha1 ha2 rfl (by decide) _ _ _ rfl (rowX.alloc _) ⟨X1.heap.size, 0, none⟩ 1 1 [.int .i16 y2] rfl rfl ?c1 ?c2 ?c3 ?c4 ?c5 ?_)
              case c1 => exact new1 _ _ _
              case c2 => simp [Value.oneCell']
              case c3 => unfold maxLen; omega
              case c4 => omega
              case c5 => simp; omega
              intro v' w1 hown' hgrow _
              have hbg : Below w.heap.size X1 w1 := own_grow (B := w.heap.size) rowX (Below.refl _ _) hzX hgrow
              have HO9 := Lib.hid (show w1.ownsRow w.heap.size 59 1 v' (l ++ [y2]).length (vI (l ++ [y2])) by unfold vI; rw [List.map_append, List.length_append, show List.map (fun v : Nat => Value.int .i16 v) l = zs from HZS.out]; exact hown')
              have HF9 := Lib.hid (show w1.heap[W1.heap.size]? = some (.cells (fdA n (l ++ [y2])) 4 (0, 0)) from (hgrow.block _ (by simp; have := heap_lt HR1.out; omega) (fun e => HNE.out e.symm)).trans (at_keep HR1.out ((Below.refl _ _).alloc (Nat.le_refl _) _)))
              have HB9 := Lib.hid (HBX.out.trans hbg)
              clear hown' hgrow hbg
              go_wp2
              first
                | exact ⟨⟨2 + 1, by omega, rfl, by rw [HVS.out, HA.out]; exact HO9.out, by rw [HVS.out, HA.out]; exact HF9.out, HB9.out⟩, by simp [RowKit.intOf]⟩
                | (go_roundw
                   case rel => exact ⟨2 + 1, by omega, rfl, by rw [HVS.out, HA.out]; exact HO9.out, by rw [HVS.out, HA.out]; exact HF9.out, HB9.out⟩
                   case measure => simp [RowKit.intOf])
                | (go_roundw
                   case rel => exact ⟨2 + 1, by omega, rfl, by rw [HVS.out, HA.out]; exact HO9.out, by rw [HVS.out, HA.out]; exact HF9.out, HB9.out⟩)
          · have ws := waysS (w := wr) x0 (by omega)
            have HR2 := Lib.hid hrow
            have HF2 := Lib.hid hfb2
            have HB2 := Lib.hid hb2
            have hva : visK T li vv 3 = vis T li vv := visK_all (by rw [HFF.out]; rfl)
            rw [hva] at HR2 HF2 ⊢
            rw [← HVIS.out] at HR2 HF2 ⊢
            clear hrow hfb2 hb2 hh2 hf hva
            go_wp2_with (go_at_call 56; refine ws.mono ?_)
            first | (rintro e W5 rfl hs) | (rintro e W5 ⟨rfl, hs⟩)
            rw [hs.out]
            clear hs ws
            try dsimp only
            go_wp2
            first
              | exact ⟨⟨i + 1, by omega, rfl, HR2.out, HF2.out, HB2.out⟩, by simp [RowKit.intOf]; omega⟩
              | (go_roundw
                 case rel => exact ⟨i + 1, by omega, rfl, HR2.out, HF2.out, HB2.out⟩
                 case measure => simp [RowKit.intOf]; omega)
              | (go_roundw
                 case rel => exact ⟨i + 1, by omega, rfl, HR2.out, HF2.out, HB2.out⟩)
      · go_loopw [3, 7] (fun ov kv wr => ∃ q : Nat, q ≤ 1 ∧ kv = .int .i64 q ∧ wr.ownsRow w.heap.size 59 1 ov (visK T li vv q).length (vI (visK T li vv q)) ∧ wr.heap[W1.heap.size]? = some (.cells (fdA n (visK T li vv q)) 4 (0, 0)) ∧ Below w.heap.size w wr) (fun _ kv _ => 1 - (RowKit.intOf kv).toNat)
        case atStart => exact ⟨0, by omega, rfl, HX0.out.1, HX0.out.2.1, HX0.out.2.2⟩
        case round =>
          obtain ⟨q, hq, rfl, hrow, hfb2, hb2⟩ := hrel
          obtain ⟨su2, cu2, rfl⟩ := own_formN hrow
          have hh2 := HT.out wr hb2
          obtain ⟨g2, o2, c2, hf, x0, x1, x2, x3, x4⟩ := hh2.is.node (i := vv) (by rw [HN.out]; exact hvT)
          rw [HN.out] at hf
          obtain ⟨⟨rfl, rfl⟩, rfl⟩ : (g = g2 ∧ o = o2) ∧ cp = c2 := by simp at hf; exact ⟨hf.1, hf.2⟩
          rw [HFF.out] at x0 x1 x2 x3 x4
          simp only at x0 x1 x2 x3 x4
          clear x1
          rcases (show q = 0 ∨ q = 1 by omega) with rfl | rfl
          · have hy : (waysF (fkAt T vv))[0]? = some y0 := by rw [HFF.out]; rfl
            have hvs := visK_succ (l := li) hy
            have hyn : y0 < n := HW.out _ (List.mem_of_getElem? hy)
            obtain ⟨l, hl⟩ : ∃ l, visK T li vv 0 = l := ⟨_, rfl⟩
            rw [hl] at hvs hrow hfb2
            have hfl : Fnd l n := by rw [← hl]; exact (fold_fnd _ HFN.out (fun z hz => HW.out z (List.mem_of_mem_take hz))).1
            have hll := hfl.len
            have cf : wr.cell? ⟨W1.heap.size, y0, none⟩ = some (.bool (decide (y0 ∈ l))) := by rw [Lib.cell_of_heap hfb2, fdA_at hyn]
            have ff : wr.frozen? ⟨W1.heap.size, y0, none⟩ = false := Lib.frozen_of_heap hfb2 _
            have ws := waysS (w := wr) x0 (by omega)
            have HVS := Lib.hid hvs
            have HL2 := Lib.hid hl
            have HR2 := Lib.hid hrow
            have HF2 := Lib.hid hfb2
            have HB2 := Lib.hid hb2
            have gy : (y0 : Int) < n := by omega
            rw [hl]
            clear hvs hl hrow hfb2 hb2 hh2 hf hy
            by_cases hmem : y0 ∈ l
            · rw [decide_eq_true hmem] at cf
              have HA := Lib.hid (addN_in hmem)
              clear hmem
              go_wp2_with (go_at_call 56; refine ws.mono ?_)
              first | (rintro e W5 rfl hs) | (rintro e W5 ⟨rfl, hs⟩)
              rw [hs.out]
              clear hs ws
              try dsimp only
              go_wp2
              first
                | exact ⟨⟨0 + 1, by omega, rfl, by rw [HVS.out, HA.out]; exact HR2.out, by rw [HVS.out, HA.out]; exact HF2.out, HB2.out⟩, by simp [RowKit.intOf]⟩
                | (go_roundw
                   case rel => exact ⟨0 + 1, by omega, rfl, by rw [HVS.out, HA.out]; exact HR2.out, by rw [HVS.out, HA.out]; exact HF2.out, HB2.out⟩
                   case measure => simp [RowKit.intOf])
                | (go_roundw
                   case rel => exact ⟨0 + 1, by omega, rfl, by rw [HVS.out, HA.out]; exact HR2.out, by rw [HVS.out, HA.out]; exact HF2.out, HB2.out⟩)
            · rw [decide_eq_false hmem] at cf
              have HA := Lib.hid (addN_out hmem)
              obtain ⟨X1, hX1, r1, r2, r3, r4⟩ := set3 (i := y0) (HF2.out) (.bool true)
              rw [fdA_set (m := l ++ [y0]) hyn (fun x => by simp)] at r1
              have hne := row_ne HR2.out HF2.out ty16B
              have rowX : X1.ownsRow w.heap.size 59 1 (.slice su2 l.length cu2) l.length (vI l) := by
                obtain ⟨p1, p2 | ⟨g, cap, cur, p2, p3, p4, p5⟩⟩ := HR2.out
                · exact ⟨p1, .inl p2⟩
                · exact ⟨p1, .inr ⟨g, cap, cur, p2, p3, (r3 _ (fun e => hne (by rw [p2, e]; rfl))).trans p4, p5⟩⟩
              have bX : Below w.heap.size w X1 := HB2.out.trans (r2 _ (by have := ZZ.out; omega))
              have hhX := HT.out X1 bX
              obtain ⟨g2, o2, c2, hf2, e0, e1, e2, e3, e4⟩ := hhX.is.node (i := vv) (by rw [HN.out]; exact hvT)
              rw [HN.out] at hf2
              obtain ⟨⟨rfl, rfl⟩, rfl⟩ : (g = g2 ∧ o = o2) ∧ cp = c2 := by simp at hf2; exact ⟨hf2.1, hf2.2⟩
              rw [HFF.out] at e2 e3 e4
              simp only at e2 e3 e4
              have hzX : w.heap.size ≤ X1.heap.size := bX.size
              obtain ⟨zs, hzs⟩ : ∃ zs, vI l = zs := ⟨_, rfl⟩
              rw [hzs] at rowX
              have HZS := Lib.hid hzs
              have HR1 := Lib.hid r1
              have HBX := Lib.hid bX
              have hneX := row_ne rowX r1 ty16B
              have HNE := Lib.hid hneX
              clear hmem r1 r2 r3 r4 hne bX hhX hf2 hzs e0 e1 hneX
              go_wp2_with (first | (go_at_call 56; refine ws.mono ?_) | (at_builtin; refine wpList_append_own _ rfl _ _ 54 rfl w.heap.size 59 i0 (.int .i16 0) 1 2 Try.underlying54 ha ha0 ha1 ha2 rfl (by decide) _ _ _ rfl (rowX.alloc _) ⟨X1.heap.size, 0, none⟩ 1 1 [.int .i16 y0] rfl rfl ?c1 ?c2 ?c3 ?c4 ?c5 ?_) | fail)
              first | (rintro e W5 rfl hs) | (rintro e W5 ⟨rfl, hs⟩)
              rw [hs.out]
              clear hs ws
              try dsimp only
              go_wp2_with (at_builtin; refine wpList_append_own _ rfl _ _ 54 rfl w.heap.size 59 i0 (.int .i16 0) 1 2 Try.underlying54 ha ha0 ha1 ha2 rfl (by decide) _ _ _ rfl (rowX.alloc _) ⟨X1.heap.size, 0, none⟩ 1 1 [.int .i16 y0] rfl rfl ?c1 ?c2 ?c3 ?c4 ?c5 ?_)
              case c1 => exact new1 _ _ _
              case c2 => simp [Value.oneCell']
              case c3 => unfold maxLen; omega
              case c4 => omega
              case c5 => simp; omega
              intro v' w1 hown' hgrow _
              have hbg : Below w.heap.size X1 w1 := own_grow (B := w.heap.size) rowX (Below.refl _ _) hzX hgrow
              have HO9 := Lib.hid (show w1.ownsRow w.heap.size 59 1 v' (l ++ [y0]).length (vI (l ++ [y0])) by unfold vI; rw [List.map_append, List.length_append, show List.map (fun v : Nat => Value.int .i16 v) l = zs from HZS.out]; exact hown')
              have HF9 := Lib.hid (show w1.heap[W1.heap.size]? = some (.cells (fdA n (l ++ [y0])) 4 (0, 0)) from (hgrow.block _ (by simp; have := heap_lt HR1.out; omega) (fun e => HNE.out e.symm)).trans (at_keep HR1.out ((Below.refl _ _).alloc (Nat.le_refl _) _)))
              have HB9 := Lib.hid (HBX.out.trans hbg)
              clear hown' hgrow hbg
              go_wp2
              first
                | exact ⟨⟨0 + 1, by omega, rfl, by rw [HVS.out, HA.out]; exact HO9.out, by rw [HVS.out, HA.out]; exact HF9.out, HB9.out⟩, by simp [RowKit.intOf]⟩
                | (go_roundw
                   case rel => exact ⟨0 + 1, by omega, rfl, by rw [HVS.out, HA.out]; exact HO9.out, by rw [HVS.out, HA.out]; exact HF9.out, HB9.out⟩
                   case measure => simp [RowKit.intOf])
                | (go_roundw
                   case rel => exact ⟨0 + 1, by omega, rfl, by rw [HVS.out, HA.out]; exact HO9.out, by rw [HVS.out, HA.out]; exact HF9.out, HB9.out⟩)
          · have ws := waysS (w := wr) x0 (by omega)
            have HR2 := Lib.hid hrow
            have HF2 := Lib.hid hfb2
            have HB2 := Lib.hid hb2
            have hva : visK T li vv 1 = vis T li vv := visK_all (by rw [HFF.out]; rfl)
            rw [hva] at HR2 HF2 ⊢
            rw [← HVIS.out] at HR2 HF2 ⊢
            clear hrow hfb2 hb2 hh2 hf hva
            go_wp2_with (go_at_call 56; refine ws.mono ?_)
            first | (rintro e W5 rfl hs) | (rintro e W5 ⟨rfl, hs⟩)
            rw [hs.out]
            clear hs ws
            try dsimp only
            go_wp2
            first
              | exact ⟨⟨i + 1, by omega, rfl, HR2.out, HF2.out, HB2.out⟩, by simp [RowKit.intOf]; omega⟩
              | (go_roundw
                 case rel => exact ⟨i + 1, by omega, rfl, HR2.out, HF2.out, HB2.out⟩
                 case measure => simp [RowKit.intOf]; omega)
              | (go_roundw
                 case rel => exact ⟨i + 1, by omega, rfl, HR2.out, HF2.out, HB2.out⟩)
    · obtain rfl : i = N := by omega
      obtain ⟨su, cu, rfl⟩ := own_formN hown
      obtain ⟨ln, hln⟩ : ∃ y, (rch T i).length = y := ⟨_, rfl⟩
      have hil : ¬ (i : Int) < ln := by have := HE.out; omega
      have hin : ¬ i < ln := by have := HE.out; omega
      have HOW := Lib.hid hown
      have HBW := Lib.hid hbw
      have HL := Lib.hid hln
      rw [hln]
      clear hown hbw hfb hln hfn
      go_wp2
      go_ret
      have h1 := HOW.out
      have h2 := HL.out
      exact ⟨⟨su, cu, by rw [h2]; rfl, h1⟩, HBW.out⟩
end Go.Proofs.Ytjmpdilffmpkgaa.Sx
