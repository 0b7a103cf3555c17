/-
  A tree that grows, by the code.
-/
import Derived.Test.YtjmpdilffmpkgaaG5
import Derived.Deep.RegionWith
import Derived.Deep.DeepCutAuto
namespace Go.Proofs.Ytjmpdilffmpkgaa.Sx
open Go Go.RowKit
set_option linter.unusedVariables false
set_option linter.unusedSimpArgs false

theorem newN5 (w : World) (cs : Array Value) (t : TypeId) : ∀ (j : Nat) (u : Value), cs.toList[j]? = some u → (w.alloc (.cells cs t)).cell? ((⟨w.heap.size, 0, none⟩ : Addr).add j) = some u := by
  intro j u h
  have e : ((⟨w.heap.size, 0, none⟩ : Addr).add j) = ⟨w.heap.size, j, none⟩ := by unfold Addr.add; split <;> simp_all
  rw [e, Lib.cell_of_heap (heap_alloc_new w _)]
  simpa using h
theorem infoF : (Try.prog.info? 62).map (fun i => (i.zero, i.size, i.bytes)) = some (some (.agg #[.int .i8 0, .int .i8 0, .int .i16 0, .int .i16 0, .int .i16 0]), 5, 8) := by kernel_rfl
theorem tyTr16 : (30 : TypeId) ≠ 59 := of_decide_eq_true (by kernel_rfl)
theorem tyTrG : (30 : TypeId) ≠ 119 := of_decide_eq_true (by kernel_rfl)
theorem row_kp {w w' : World} {B s n : Nat} {e : TypeId} {v : Value} {xs : List Value} (h : w.ownsRow B e s v n xs) (k : Kp w w') (h1 : e ≠ 59) (h2 : e ≠ 119) : w'.ownsRow B e s v n xs := by
  obtain ⟨p1, p2 | ⟨g, cap, cur, p2, p3, p4, p5⟩⟩ := h
  · exact ⟨p1, .inl p2⟩
  · exact ⟨p1, .inr ⟨g, cap, cur, p2, p3, k _ _ _ _ p4 h1 h2, p5⟩⟩
theorem reF_pre {l m : List Nat} {f : Fk} (h : l <+: m) (hw : ∀ y ∈ waysF f, y ∈ l) : reF l f = reF m f := by
  unfold waysF at hw
  unfold reF
  split
  · rename_i hk
    rw [if_pos hk] at hw
    rw [idx_pre h (hw _ (by simp))]
  · rename_i hk
    rw [if_neg hk] at hw
    rw [idx_pre h (hw _ (by simp)), idx_pre h (hw _ (by simp)), idx_pre h (hw _ (by simp))]
theorem rcT_succ (T : List Fk) (R : List Nat) (i : Nat) : rcT T R (i + 1) = rcT T R i ++ [reF R (fkAt T (R.getD i 0))] := by
  unfold rcT
  rw [List.range_succ, List.map_append]
  rfl
theorem fkC_snoc (T : List Fk) (f : Fk) : fkC (T ++ [f]) = fkC T ++ f.cells := by
  unfold fkC
  rw [List.flatMap_append]
  simp
theorem GS.grownO {w w' : World} {B gB mB : Nat} {r : Option Nat} {c1 c2 ov : Value} {l : List Nat} (h : GS w B gB mB c1 c2 l ov) (g : w.grownBy w' r) (hr : ∀ b, r = some b → ∃ cs t f, w.heap[b]? = some (.cells cs t f) ∧ t ≠ 59 ∧ t ≠ 119) : GS w' B gB mB c1 c2 l ov := by
  have key : ∀ b, r = some b → gB ≠ b ∧ mB ≠ b ∧ ov.ownBlock ≠ some b := fun b hb => by
    obtain ⟨cs, t, f, hc, h1, h2⟩ := hr b hb
    refine ⟨?_, ?_, row_ne h.ow hc (fun e => h1 e.symm)⟩
    · rintro rfl
      rw [h.gb] at hc
      cases hc
      exact h2 rfl
    · rintro rfl
      obtain ⟨es, c, e⟩ := h.mp.isMap
      rw [e] at hc
      cases hc
  refine ⟨(g.block _ (heap_lt h.gb) (fun e => (key _ e.symm).1 rfl)).trans h.gb, h.ow.kept g ?_, h.mp.kept g (fun e => (key _ e.symm).2.1 rfl), h.bg, h.bm⟩
  cases hv : ov.ownBlock with
  | none => exact .inl rfl
  | some c => exact .inr (fun e => (key c e.symm).2.2 hv)
theorem own_of {w : World} {B s n b : Nat} {e : TypeId} {v : Value} {xs : List Value} (h : w.ownsRow B e s v n xs) (hb : v.ownBlock = some b) : ∃ cs, w.heap[b]? = some (.cells cs e (0, 0)) := by
  rcases h.2 with ⟨h, _⟩ | ⟨g, cap, cur, h, _, h3, _⟩
  · rw [h] at hb; cases hb
  · rw [h] at hb
    have e2 : g = b := by cases hb; rfl
    subst e2
    exact ⟨_, h3⟩
theorem tyFTr : (62 : TypeId) ≠ 30 := of_decide_eq_true (by kernel_rfl)
/-- What stands while nodes are made. -/
structure GI (w wr : World) (B gB mB tB : Nat) (c1 c2 : Value) (T : List Fk) (R : List Nat) (i : Nat) (tv : Value) : Prop where
  mk ::
  st : ∃ ov, GS wr B gB mB c1 c2 (rch T i) ov
  t : wr.heap[tB]? = some (.cells #[tv] 30 (0, 0))
  o : wr.ownsRow B 62 5 tv i (fkC (rcT T R i))
  r : wr.heap[B]? = some (.cells #[.slice none 0 0] 30 (0, 0))
  bl : Below B w wr
theorem GI.keep {w wr X : World} {B gB mB tB : Nat} {c1 c2 : Value} {T : List Fk} {R : List Nat} {i : Nat} {tv : Value} (h : GI w wr B gB mB tB c1 c2 T R i tv) (hb : Below wr.heap.size wr X) : GI w X B gB mB tB c1 c2 T R i tv := by
  obtain ⟨ov, st⟩ := h.st
  exact ⟨⟨ov, st.keep hb⟩, at_keep h.t hb, row_underN (k := 0) h.o hb, at_keep h.r hb, h.bl.trans (hb.mono (Nat.le_trans st.bg (Nat.le_of_lt (heap_lt st.gb))))⟩
/-- A node has been made and stands in a block. -/
structure GotF (Z wx : World) (B gB mB : Nat) (c1 c2 : Value) (l : List Nat) (cf : Array Value) (fb : Nat) : Prop where
  mk ::
  st : ∃ ov, GS wx B gB mB c1 c2 l ov
  f : wx.heap[fb]? = some (.cells cf 62 (0, 0))
  bl : Below B Z wx
  kp : Kp Z wx
  sz : Z.heap.size ≤ wx.heap.size
structure FkS (w w' : World) (B gB mB : Nat) (c1 c2 : Value) (l : List Nat) : Prop where
  mk ::
  st : ∃ ov, GS w' B gB mB c1 c2 l ov
  below : Below B w w'
  kp : Kp w w'
  sz : w.heap.size ≤ w'.heap.size
theorem FkS.got0 {Z W : World} {B gB mB : Nat} {c1 c2 : Value} {l : List Nat} (h : FkS Z W B gB mB c1 c2 l) (cf : Array Value) : GotF Z (W.alloc (.cells cf 62)) B gB mB c1 c2 l cf W.heap.size := by
  obtain ⟨ov, st⟩ := h.st
  have b : Below W.heap.size W (W.alloc (.cells cf 62)) := (Below.refl _ _).alloc (Nat.le_refl _) _
  exact ⟨⟨ov, st.keep b⟩, heap_alloc_new W _, h.below.trans (b.mono (Nat.le_trans st.bg (Nat.le_of_lt (heap_lt st.gb)))), h.kp.trans (Kp.of_below b), Nat.le_trans h.sz b.size⟩
theorem FkS.got1 {Z W W9 : World} {B gB mB : Nat} {c1 c2 : Value} {l : List Nat} {x0 x1 x2 x3 x4 u0 u1 u2 u3 u4 : Value} (hB : B ≤ Z.heap.size) (h : FkS (Z.alloc (.cells #[x0, x1, x2, x3, x4] 62)) W B gB mB c1 c2 l)
    (h9 : (((((W.setCell ⟨Z.heap.size, 0, none⟩ u0).setCell ⟨Z.heap.size, 1, none⟩ u1).setCell ⟨Z.heap.size, 2, none⟩ u2).setCell ⟨Z.heap.size, 3, none⟩ u3).setCell ⟨Z.heap.size, 4, none⟩ u4) = W9) : GotF Z W9 B gB mB c1 c2 l #[u0, u1, u2, u3, u4] Z.heap.size := by
  obtain ⟨ov, st⟩ := h.st
  have b : Below Z.heap.size Z (Z.alloc (.cells #[x0, x1, x2, x3, x4] 62)) := (Below.refl _ _).alloc (Nat.le_refl _) _
  have ys := h.kp _ _ _ _ (heap_alloc_new Z (.cells #[x0, x1, x2, x3, x4] 62)) tyF16 tyFG
  have g := grow5 ys u0 u1 u2 u3 u4
  obtain ⟨W8, h8, r8, b8⟩ := all5 ys u0 u1 u2 u3 u4
  rw [h8] at g h9
  subst h9
  have hs : (Z.alloc (.cells #[x0, x1, x2, x3, x4] 62)).heap.size = Z.heap.size + 1 := by simp
  refine ⟨⟨ov, st.grown ys tyF16 tyFG g⟩, r8, ((b.mono hB).trans h.below).trans (b8 _ hB), fun c cs t f hc k1 k2 => ?_, ?_⟩
  · have hlt := heap_lt hc
    exact (g.block _ (by have := h.sz; omega) (fun e => by have := Option.some.inj e; omega)).trans (h.kp c cs t f (at_keep hc b) k1 k2)
  · have := h.sz
    have := g.size
    omega
def lenC (w : World) (b : Nat) : Nat := match w.cell? ⟨b, 0, none⟩ with | some (.slice _ n _) => n | _ => 0
/-- A tree is given. -/
structure TrG (w w' : World) (T : List Fk) (v : Value) : Prop where
  mk ::
  row : w'.ownsRow w.heap.size 62 5 v T.length (fkC T)
  below : Below w.heap.size w w'
set_option maxRecDepth 1000000 in
set_option maxHeartbeats 16000000 in
theorem growI {w : World} {n N : Nat} {vn vb : Value} {bs : List Nat} {T T' : List Fk} (hF : IsF w T vn) (hT : trB T = true) (hTn : T.length = n) (hb : IsN w bs vb) (hbl : bs.length = n) (hbn : ∀ i, i < n → bs.getD i 0 < n) (hb0 : bs.getD 0 0 = 0) (hT' : reBT T bs = T')
    (hN : N = (rch T' N).length) (hNn : N ≤ n) (hq : ∀ i, i < N → i < (rch T' i).length) :
    Calls Try.prog 70 #[.int .i16 0, .int .i64 60, clo1 vn, clo2 vn vb] w fun e w' => ∃ v, e = .returned (.tuple #[.agg #[v], .nilIface]) ∧ TrG w w' (rcT T' (rch T' N) N) v := by
  obtain ⟨iF, ha, ha0, ha1, ha2⟩ := info_parts infoF
  have hTV : trB T' = true := by rw [← hT']; exact reBT_ok hT (by rw [hTn]; exact hbn)
  have hTl : T'.length = n := by rw [← hT', reBT_len, hTn]
  have hn60 : 1 ≤ n ∧ n ≤ 60 := by rw [← hTn]; exact (trB_iff.1 hT).1
  obtain ⟨B, hB⟩ : ∃ B, w.heap.size = B := ⟨_, rfl⟩
  have hmm : ∀ W : World, (Instr.makeMap 115 none).run Try.prog W = .ok (.map (some W.heap.size)) (W.alloc (.map #[] 0)) := fun W => by
    simp [Instr.makeMap, go_sem, Try.underlying115]
  have hlB : ∀ (s : Option Addr) (n k : Nat) (W : World), (Builtin.len_ #[54] 3 #[.slice s n k]).run Try.prog W = .ok (.int .i64 n) W := fun s n k W => rfl
  have hlF : ∀ (s : Option Addr) (n k : Nat) (W : World), (Builtin.len_ #[28] 3 #[.slice s n k]).run Try.prog W = .ok (.int .i64 n) W := fun s n k W => rfl
  obtain ⟨W1, hW1, b1, x1⟩ := boxN w #[.slice none 0 0] 30
  obtain ⟨V, hV⟩ : ∃ V, W1.alloc (.map #[] 0) = V := ⟨_, rfl⟩
  have bV : Below W1.heap.size W1 V := by rw [← hV]; exact (Below.refl _ _).alloc (Nat.le_refl _) _
  have m0 : Gives Try.prog 59 59 .i16 V W1.heap.size 0 (fmN []) := by rw [← hV, fmN_nil]; exact Gives.made W1
  obtain ⟨U, hU, bU, xU⟩ := boxN V #[.slice none 0 0, .map (some W1.heap.size), .int .i64 60, clo1 vn, clo2 vn vb] 119
  unfold clo1 clo2 at hU
  have z1 : W1.heap.size = w.heap.size + 1 := by rw [← hW1]; simp
  have z2 : V.heap.size = W1.heap.size + 1 := by rw [← hV]; simp
  have z3 : U.heap.size = V.heap.size + 1 := by rw [← hU]; simp
  have sU : GS U B V.heap.size W1.heap.size (clo1 vn) (clo2 vn vb) [] (.slice none 0 0) := ⟨xU, ⟨rfl, .inl ⟨rfl, rfl⟩⟩, m0.kept (row := none) ⟨bU.os, bU.tape, bU.output, bU.size, fun j hj _ => bU.block j hj⟩ (by simp), by omega, by omega⟩
  have b1U : Below w.heap.size w U := (b1.trans (bV.mono b1.size)).trans (bU.mono (by omega))
  have xr : U.heap[w.heap.size]? = _ := at_keep (at_keep x1 bV) bU
  rw [hB] at b1U xr
  have fd0 := findI (w := U) (y := 0) hb hB b1U sU ⟨List.nodup_nil, fun x hx => by cases hx⟩ hn60.2 (by omega) (hbn 0 (by omega))
  rw [hb0] at fd0
  have FK := Lib.hid fun (X : World) (hX : Below B w X) (v : Nat) (hv : v < n) (l : List Nat) (hl : Fnd l n) (ov : Value) (h : GS X B V.heap.size W1.heap.size (clo1 vn) (clo2 vn vb) l ov) => (show Calls Try.prog 78 #[.pointer (some ⟨V.heap.size, 0, none⟩), .int .i16 v] X fun e w' => FkG X w' B V.heap.size W1.heap.size (clo1 vn) (clo2 vn vb) T' l v e from by
    rw [← hT']
    have hk := (fkB_iff.1 ((trB_iff.1 hT).2 _ (List.mem_of_getElem? (fkAt_get (show v < T.length by omega))))).2.2.2
    rcases hk with hk | hk
    · exact forkA hF hT hTn hb hbl hbn hB hX h hl hv hk.1
    · exact forkT hF hT hTn hb hbl hbn hB hX h hl hv hk.1)
  have TV := Lib.hid hTV
  have TL := Lib.hid hTl
  have HN := Lib.hid hN
  have HQ := Lib.hid hq
  have SU := Lib.hid (And.intro sU (And.intro b1U xr))
  have ZZ := Lib.hid (And.intro z1 (And.intro z2 (And.intro z3 hB)))
  obtain ⟨R, hR⟩ : ∃ R, rch T' N = R := ⟨_, rfl⟩
  have HR := Lib.hid hR
  rw [hR]
  clear hF hT hTn hb hbl hbn hb0 hT' hN hq hTV hTl hB x1 b1 bV m0 xU bU sU b1U xr z1 z2 z3 hR
  unfold clo1 clo2
  go_enter Try.func70, Try.ntmps70
  go_wp2_with (go_at_call 77; refine fd0.mono ?_)
  rintro e W2 hp
  obtain rfl := hp.e
  try dsimp only
  obtain ⟨ov2, s2⟩ := hp.st
  obtain ⟨W3, hW3, b3, x3⟩ := boxN W2 #[.slice none 0 0] 30
  have hz := ZZ.out
  have r2 := hp.kp _ _ _ _ SU.out.2.2 tyTr16 tyTrG
  have G0 := Lib.hid (show GI w W3 B V.heap.size W1.heap.size W2.heap.size (clo1 vn) (clo2 vn vb) T' R 0 (.slice none 0 0) from ⟨⟨ov2, s2.keep b3⟩, x3, ⟨rfl, .inl ⟨rfl, rfl⟩⟩, at_keep r2 b3, (SU.out.2.1.trans hp.below).trans (b3.mono (by have := heap_lt r2; omega))⟩)
  have hBt : B < W2.heap.size := heap_lt r2
  clear fd0 hp s2 b3 x3 r2 hz
  go_wp2
  go_loopw [] (fun wr => ∃ (i : Nat) (tv : Value), i ≤ N ∧ GI w wr B V.heap.size W1.heap.size W2.heap.size (clo1 vn) (clo2 vn vb) T' R i tv) (fun wr => N - lenC wr W2.heap.size)
  case atStart => exact ⟨0, _, Nat.zero_le _, G0.out⟩
  case round =>
    obtain ⟨i, tv, hi, hg⟩ := hrel
    obtain ⟨st, ct, rfl⟩ := own_formN hg.o
    obtain ⟨ov, hgs⟩ := hg.st
    obtain ⟨so, co, rfl⟩ := own_formN hgs.ow
    obtain ⟨li, hli⟩ : ∃ y, rch T' i = y := ⟨_, rfl⟩
    have hfn := (rch_fnd TV.out i).1
    rw [TL.out] at hfn
    obtain ⟨ln, hln⟩ : ∃ y, li.length = y := ⟨_, rfl⟩
    rw [hli] at hgs hfn
    have t0 : wr.cell? ⟨W2.heap.size, 0, none⟩ = some (.slice st i ct) := by rw [Lib.cell_of_heap hg.t]; rfl
    have g0 : wr.cell? ⟨V.heap.size, 0, none⟩ = some (.slice so ln co) := by rw [Lib.cell_of_heap hgs.gb, hln]; rfl
    have hlen : lenC wr W2.heap.size = i := by unfold lenC; rw [t0]
    rw [hlen]
    have hle : li.length ≤ n := hfn.len
    rw [hln] at hle
    have HG := Lib.hid hg
    have HGS := Lib.hid hgs
    have HLI := Lib.hid hli
    have HLN := Lib.hid hln
    have HFN := Lib.hid hfn
    clear hg hgs hli hln hfn hlen
    by_cases hlt : i < N
    · have hil : i < ln := by
        have := HQ.out i hlt
        rw [HLI.out, HLN.out] at this
        exact this
      have gi : (i : Int) < ln := by omega
      go_upto_region 6 with (fail)
      go_quiet (fail)
      obtain ⟨X0, hX0⟩ : ∃ X, wr.drewN nq = X := ⟨_, rfl⟩
      rw [hX0]
      have bz : Below wr.heap.size wr X0.drew := by rw [← hX0]; exact ⟨rfl, rfl, rfl, Nat.le_refl _, fun _ _ => rfl⟩
      have bx : Below wr.heap.size wr X0 := by rw [← hX0]; exact ⟨rfl, rfl, rfl, Nat.le_refl _, fun _ _ => rfl⟩
      have gz := HG.out.keep bz
      have sz := HGS.out.keep bz
      have sx := HGS.out.keep bx
      obtain ⟨vv, hvv⟩ : ∃ y, R.getD i 0 = y := ⟨_, rfl⟩
      have hpre : li <+: R := by rw [← HLI.out, ← HR.out]; exact rch_mono TV.out (by omega) HQ.out
      have hvl : li.getD i 0 = vv := by rw [← hvv, pre_get hpre (by rw [HLN.out]; exact hil)]
      have hvT : vv < n := by
        have := rch_lt TV.out (i := i) (j := i) (by rw [HLI.out, HLN.out]; exact hil)
        rw [HLI.out, hvl, TL.out] at this
        exact this
      have hnx : rch T' (i + 1) = vis T' li vv := by show vis T' (rch T' i) ((rch T' i).getD i 0) = _; rw [HLI.out, hvl]
      have hpre1 : vis T' li vv <+: R := by rw [← hnx, ← HR.out]; exact rch_mono TV.out (by omega) HQ.out
      have hway : ∀ y ∈ waysF (fkAt T' vv), y ∈ vis T' li vv := by
        have := (rch_pre TV.out i (by rw [HLI.out, HLN.out]; exact hil)).2
        rw [HLI.out, hvl, hnx] at this
        exact this
      have hre := reF_pre hpre1 hway
      obtain ⟨l1, hl1⟩ : ∃ y, vis T' li vv = y := ⟨_, rfl⟩
      obtain ⟨⟨fk, fd, fa, fb, fc⟩, hff⟩ : ∃ f, reF R (fkAt T' vv) = f := ⟨_, rfl⟩
      have hrt : fkC (rcT T' R (i + 1)) = fkC (rcT T' R i) ++ [.int .i8 fk, .int .i8 fd, .int .i16 fa, .int .i16 fb, .int .i16 fc] := by
        rw [rcT_succ, fkC_snoc, hvv, hff]
        rfl
      have CON := Lib.hid fun (X : World) (hb : Below wr.heap.size wr X) => (show Calls Try.prog 78 #[.pointer (some ⟨V.heap.size, 0, none⟩), .int .i16 vv] X fun e w' => e = .returned (.tuple #[.agg #[.int .i8 fk, .int .i8 fd, .int .i16 fa, .int .i16 fb, .int .i16 fc], .nilIface]) ∧ FkS X w' B V.heap.size W1.heap.size (clo1 vn) (clo2 vn vb) l1 from
        (FK.out X (HG.out.bl.trans (hb.mono (Nat.le_trans HGS.out.bg (Nat.le_of_lt (heap_lt HGS.out.gb))))) vv hvT li HFN.out _ (HGS.out.keep hb)).mono fun e w' h => by
          obtain ⟨h1, h2, h3, h4, h5⟩ := h
          rw [hre, hff] at h1
          rw [hl1] at h2
          exact ⟨h1, h2, h3, h4, h5⟩)
      have hBz : B ≤ X0.drew.heap.size := Nat.le_trans sz.bg (Nat.le_of_lt (heap_lt sz.gb))
      have t1 : X0.cell? ⟨W2.heap.size, 0, none⟩ = some (.slice st i ct) := by rw [Lib.cell_of_heap (at_keep HG.out.t bx)]; rfl
      have g1 : X0.cell? ⟨V.heap.size, 0, none⟩ = some (.slice so ln co) := by rw [Lib.cell_of_heap sx.gb, HLN.out]; rfl
      obtain ⟨gu, cpu, hfu, _, _⟩ := sx.ow.form (by rw [HLN.out]; omega)
      obtain rfl : so = some ⟨gu, 0, none⟩ := by simp at hfu; exact hfu.1
      have v1 : X0.cell? ⟨gu, i, none⟩ = some (.int .i16 vv) := by
        have := row_cell sx.ow (vI_at (by rw [HLN.out]; exact hil))
        rwa [hvl] at this
      have nn1 := World.new_ne X0 _ t1
      have nn2 := World.new_ne X0 _ g1
      have nn3 := World.new_ne X0 _ v1
      have nl1 : W2.heap.size < X0.heap.size := cell_lt (a := ⟨W2.heap.size, 0, none⟩) t1
      have nl2 : V.heap.size < X0.heap.size := cell_lt (a := ⟨V.heap.size, 0, none⟩) g1
      have nl3 : gu < X0.heap.size := cell_lt (a := ⟨gu, i, none⟩) v1
      have fk0 := CON.out X0.drew bz
      have fk1 := CON.out (X0.drew.alloc (.cells #[.int .i8 0, .int .i8 0, .int .i16 0, .int .i16 0, .int .i16 0] 62)) (bz.alloc (by rw [← hX0]; exact Nat.le_refl _) _)
      have HGZ := Lib.hid gz
      have HRT := Lib.hid hrt
      have HNX := Lib.hid hnx
      have HL1 := Lib.hid hl1
      have BZ := Lib.hid bz
      have HBZ := Lib.hid hBz
      clear gz sz sx hvv hpre hvl hnx hpre1 hway hre hl1 hff hrt bz bx hfu hX0 t0 g0 hBz
      go_upto_region 7 with (fail)
      go_cut [14, 15] (fun fp er wx => er = .nilIface ∧ ∃ fb', fp = .pointer (some ⟨fb', 0, none⟩) ∧ GotF X0.drew wx B V.heap.size W1.heap.size (clo1 vn) (clo2 vn vb) l1 #[.int .i8 fk, .int .i8 fd, .int .i16 fa, .int .i16 fb, .int .i16 fc] fb')
      case first =>
        go_region_with (first
          | (go_at_call 78; refine fk0.mono ?_; rintro e W4 ⟨rfl, hp4⟩)
          | (go_at_call 78; refine fk1.mono ?_; rintro e W5 ⟨rfl, hp5⟩; have ys : W5.heap[X0.heap.size]? = some (.cells #[.int .i8 0, .int .i8 0, .int .i16 0, .int .i16 0, .int .i16 0] (62 : Nat) (0, 0)) := (hp5.kp _ _ _ _ (heap_alloc_new X0.drew _) tyF16 tyFG); have hc5 := cells5 ys; obtain ⟨o0, o1, o2, o3, o4⟩ := hc5; have r0 : W5.frozen? ⟨X0.heap.size, 0, none⟩ = false := Lib.frozen_of_heap ys _; have r1 : W5.frozen? ⟨X0.heap.size, 1, none⟩ = false := Lib.frozen_of_heap ys _; have r2 : W5.frozen? ⟨X0.heap.size, 2, none⟩ = false := Lib.frozen_of_heap ys _; have r3 : W5.frozen? ⟨X0.heap.size, 3, none⟩ = false := Lib.frozen_of_heap ys _; have r4 : W5.frozen? ⟨X0.heap.size, 4, none⟩ = false := Lib.frozen_of_heap ys _))
        all_goals (go_wp2_with fail; go_meet; first | exact ⟨rfl, _, rfl, FkS.got1 HBZ.out hp5 rfl⟩ | exact ⟨rfl, _, rfl, hp4.got0 _⟩)
      case rest =>
      obtain ⟨rfl, fb', rfl, gf⟩ := hcut
      obtain ⟨f0, f1, f2, f3, f4⟩ := cells5 gf.f
      have tw := gf.kp _ _ _ _ HGZ.out.t tyTr16 tyTrG
      have rw' := gf.kp _ _ _ _ HGZ.out.r tyTr16 tyTrG
      have ow := row_kp HGZ.out.o gf.kp tyF16 tyFG
      have hBc : B ≤ wc.heap.size := Nat.le_trans HBZ.out gf.sz
      have t2 : wc.cell? ⟨W2.heap.size, 0, none⟩ = some (.slice st i ct) := by rw [Lib.cell_of_heap tw]; rfl
      have blw : Below B w wc := HGZ.out.bl.trans gf.bl
      obtain ⟨xs, hxs⟩ : ∃ xs, fkC (rcT T' R i) = xs := ⟨_, rfl⟩
      rw [hxs] at ow
      have HXS := Lib.hid hxs
      have GF := Lib.hid gf
      have TW := Lib.hid (And.intro tw (And.intro rw' blw))
      clear gf tw rw' blw hxs t1 g1 v1 nn1 nn2 nn3 nl1 nl2 nl3 fk0 fk1
      go_wp2_with (at_builtin; refine wpList_append_own _ rfl _ _ 28 rfl B 62 iF (.agg #[.int .i8 0, .int .i8 0, .int .i16 0, .int .i16 0, .int .i16 0]) 5 8 Try.underlying28 ha ha0 ha1 ha2 rfl (by decide) _ _ _ rfl (ow.alloc _) ⟨wc.heap.size, 0, none⟩ 1 1 [.int .i8 fk, .int .i8 fd, .int .i16 fa, .int .i16 fb, .int .i16 fc] rfl rfl ?c1 ?c2 ?c3 ?c4 ?c5 ?_)
      try (case c1 => exact newN5 _ _ _)
      case c2 => simp [Value.oneCell']
      case c3 => unfold maxLen; omega
      case c4 => omega
      case c5 => first | omega | (simp; omega)
      intro v' w5 hown' hgrow _
      have hgr : wc.grownBy w5 (Value.slice st i ct).ownBlock := ⟨hgrow.os, hgrow.tape, hgrow.output, by have := hgrow.size; simp at this; omega, fun j hj hne => (hgrow.block j (by simp; omega) hne).trans (Below.heap_alloc _ _ j hj)⟩
      obtain ⟨ovc, stc⟩ := GF.out.st
      have st5 := stc.grownO hgr fun b hb => by
        obtain ⟨cs, hc⟩ := own_of ow hb
        exact ⟨_, _, _, hc, tyF16, tyFG⟩
      have tne : some W2.heap.size ≠ (Value.slice st i ct).ownBlock := fun e => by
        obtain ⟨cs, hc⟩ := own_of ow e.symm
        rw [TW.out.1] at hc
        cases hc
      have rne : some B ≠ (Value.slice st i ct).ownBlock := fun e => by
        obtain ⟨cs, hc⟩ := own_of ow e.symm
        rw [TW.out.2.1] at hc
        cases hc
      have t5 := (hgr.block _ (heap_lt TW.out.1) tne).trans TW.out.1
      have r5 := (hgr.block _ (heap_lt TW.out.2.1) rne).trans TW.out.2.1
      have bl5 : Below B w w5 := TW.out.2.2.grown hgr hBc fun j e => (ow.lt j e).1
      obtain ⟨sv, cv, rfl⟩ := own_formN hown'
      obtain ⟨W9, hW9, q1, q2, q3, q4⟩ := set3 (i := 0) t5 (.slice sv (i + 1) cv)
      have g9 : w5.grownBy W9 (some W2.heap.size) := ⟨(q2 0 (Nat.zero_le _)).os, (q2 0 (Nat.zero_le _)).tape, (q2 0 (Nat.zero_le _)).output, (q2 0 (Nat.zero_le _)).size, fun j _ hj => q3 j (fun e => hj (by rw [e]))⟩
      have own9 := hown'.kept g9 (.inr (row_ne hown' t5 tyFTr))
      have G9 := Lib.hid (show GI w W9 B V.heap.size W1.heap.size W2.heap.size (clo1 vn) (clo2 vn vb) T' R (i + 1) (.slice sv (i + 1) cv) from ⟨⟨ovc, by rw [HNX.out, HL1.out]; exact st5.grown t5 tyTr16 tyTrG g9⟩, q1, by rw [HRT.out, HXS.out]; exact own9, (q3 _ (Nat.ne_of_lt hBt)).trans r5, bl5.trans (q2 _ (Nat.le_of_lt hBt))⟩)
      have t6 : w5.cell? ⟨W2.heap.size, 0, none⟩ = some (.slice st i ct) := by rw [Lib.cell_of_heap t5]; rfl
      have f6 : w5.frozen? ⟨W2.heap.size, 0, none⟩ = false := Lib.frozen_of_heap t5 _
      have l9 : lenC W9 W2.heap.size = i + 1 := by unfold lenC; rw [Lib.cell_of_heap q1]; rfl
      clear hown' hgrow hgr stc st5 tne rne t5 r5 bl5 q1 q2 q3 q4 g9 own9 ow
      go_wp2
      exact ⟨⟨i + 1, _, by omega, G9.out⟩, by rw [l9]; omega⟩
    · obtain rfl : i = N := by omega
      have hle2 : ln = i := by
        have := HN.out
        rw [HLI.out, HLN.out] at this
        exact this.symm
      subst hle2
      have gi : ¬ (ln : Int) < ln := by omega
      go_upto_region 6 with (fail)
      go_quiet (fail)
      obtain ⟨X0, hX0⟩ : ∃ X, wr.drewN nq = X := ⟨_, rfl⟩
      rw [hX0]
      have bx : Below wr.heap.size wr X0 := by rw [← hX0]; exact ⟨rfl, rfl, rfl, Nat.le_refl _, fun _ _ => rfl⟩
      have gx := HG.out.keep bx
      have hBw := ZZ.out.2.2.2
      obtain ⟨W9, hW9, q1, q2, q3, q4⟩ := set3 (i := 0) gx.r (.slice st ln ct)
      have g9 : X0.grownBy W9 (some B) := ⟨(q2 0 (Nat.zero_le _)).os, (q2 0 (Nat.zero_le _)).tape, (q2 0 (Nat.zero_le _)).output, (q2 0 (Nat.zero_le _)).size, fun j _ hj => q3 j (fun e => hj (by rw [e]))⟩
      have own9 := gx.o.kept g9 (.inr (row_ne gx.o gx.r tyFTr))
      have bl9 : Below B w W9 := gx.bl.trans (q2 _ (Nat.le_refl _))
      have t1 : X0.cell? ⟨W2.heap.size, 0, none⟩ = some (.slice st ln ct) := by rw [Lib.cell_of_heap gx.t]; rfl
      have c1 : X0.cell? ⟨B, 0, none⟩ = some (.slice none 0 0) := by rw [Lib.cell_of_heap gx.r]; rfl
      have f1 : X0.frozen? ⟨B, 0, none⟩ = false := Lib.frozen_of_heap gx.r _
      have u1 : W9.cell? ⟨B, 0, none⟩ = some (.slice st ln ct) := by rw [Lib.cell_of_heap q1]; rfl
      rw [← hBw] at c1 f1 u1 own9 bl9 hW9
      have END := Lib.hid (And.intro own9 bl9)
      clear bx gx q1 q2 q3 q4 g9 own9 bl9 hBw t0 g0
      go_wp2
      refine bodyPost_ret (v := .tuple #[.agg #[.slice st ln ct], .nilIface]) (by simp [results, Try.results70, go_sem, u1]) rfl ?_
      exact ⟨_, rfl, by rw [rcT_len]; exact END.out.1, END.out.2⟩
end Go.Proofs.Ytjmpdilffmpkgaa.Sx
