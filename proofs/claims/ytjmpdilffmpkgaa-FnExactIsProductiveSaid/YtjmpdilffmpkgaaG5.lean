/-
  A tree that grows: a node of it, by the code.
-/
import Derived.Test.YtjmpdilffmpkgaaG4
import Derived.Deep.RegionHeld3
namespace Go.Proofs.Ytjmpdilffmpkgaa.Sx
open Go Go.RowKit
set_option linter.unusedVariables false
set_option linter.unusedSimpArgs false

theorem GS.grown {w w' : World} {B gB mB b : Nat} {c1 c2 ov : Value} {l : List Nat} {cs : Array Value} {t : TypeId} {f : Nat × Nat} (h : GS w B gB mB c1 c2 l ov) (hb : w.heap[b]? = some (.cells cs t f)) (h1 : t ≠ 59) (h2 : t ≠ 119) (g : w.grownBy w' (some b)) : GS w' B gB mB c1 c2 l ov := by
  have n1 : gB ≠ b := by
    rintro rfl
    rw [h.gb] at hb
    cases hb
    exact h2 rfl
  have n2 : mB ≠ b := by
    rintro rfl
    obtain ⟨es, c, e⟩ := h.mp.isMap
    rw [e] at hb
    cases hb
  have n3 : ov.ownBlock ≠ some b := row_ne h.ow hb (fun e => h1 e.symm)
  exact ⟨(g.block _ (heap_lt h.gb) (fun e => n1 (Option.some.inj e))).trans h.gb, h.ow.kept g (.inr n3), h.mp.kept g (fun e => n2 (Option.some.inj e)), h.bg, h.bm⟩
def zF : Array Value := #[.int .i8 0, .int .i8 0, .int .i16 0, .int .i16 0, .int .i16 0]
/-- What stands while a node is made. -/
structure FS (w X : World) (B gB mB : Nat) (c1 c2 : Value) (l : List Nat) (rB fB aB : Nat) (cf ca : Array Value) (ta : TypeId) : Prop where
  mk ::
  st : ∃ ov, GS X B gB mB c1 c2 l ov
  r : X.heap[rB]? = some (.cells zF 62 (0, 0))
  f : X.heap[fB]? = some (.cells cf 62 (0, 0))
  a : X.heap[aB]? = some (.cells ca ta (0, 0))
  bl : Below B w X
  kp : Kp w X
  sz : w.heap.size ≤ X.heap.size
theorem tyF16 : (62 : TypeId) ≠ 59 := of_decide_eq_true (by kernel_rfl)
theorem tyFG : (62 : TypeId) ≠ 119 := of_decide_eq_true (by kernel_rfl)
theorem tyA16 : (83 : TypeId) ≠ 59 := of_decide_eq_true (by kernel_rfl)
theorem tyAG : (83 : TypeId) ≠ 119 := of_decide_eq_true (by kernel_rfl)
theorem tyT16 : (85 : TypeId) ≠ 59 := of_decide_eq_true (by kernel_rfl)
theorem tyTG : (85 : TypeId) ≠ 119 := of_decide_eq_true (by kernel_rfl)
theorem FS.find {w X X' : World} {B gB mB z : Nat} {c1 c2 : Value} {l : List Nat} {rB fB aB : Nat} {cf ca : Array Value} {ta : TypeId} {e : Ending} (h : FS w X B gB mB c1 c2 l rB fB aB cf ca ta) (h1 : ta ≠ 59) (h2 : ta ≠ 119) (p : PlG X X' B gB mB c1 c2 l z e) : FS w X' B gB mB c1 c2 (addN l z) rB fB aB cf ca ta :=
  ⟨p.st, p.kp _ _ _ _ h.r tyF16 tyFG, p.kp _ _ _ _ h.f tyF16 tyFG, p.kp _ _ _ _ h.a h1 h2, h.bl.trans p.below, h.kp.trans p.kp, Nat.le_trans h.sz p.sz⟩
theorem FS.store {w X : World} {B gB mB i : Nat} {c1 c2 : Value} {l : List Nat} {rB fB aB : Nat} {cf ca : Array Value} {ta : TypeId} (h : FS w X B gB mB c1 c2 l rB fB aB cf ca ta) (hw : w.heap.size ≤ fB) (hB : B ≤ fB) (h1 : rB ≠ fB) (h2 : aB ≠ fB) (v : Value) : ∃ X', X.setCell ⟨fB, i, none⟩ v = X' ∧ FS w X' B gB mB c1 c2 l rB fB aB (cf.setIfInBounds i v) ca ta := by
  obtain ⟨X', hX', g1, g2, g3, g4⟩ := set3 (i := i) h.f v
  have g : X.grownBy X' (some fB) := ⟨(g2 0 (Nat.zero_le _)).os, (g2 0 (Nat.zero_le _)).tape, (g2 0 (Nat.zero_le _)).output, (g2 0 (Nat.zero_le _)).size, fun j _ hj => g3 j (fun e => hj (by rw [e]))⟩
  obtain ⟨ov, st⟩ := h.st
  refine ⟨X', hX', ⟨ov, st.grown h.f tyF16 tyFG g⟩, (g3 _ h1).trans h.r, g1, (g3 _ h2).trans h.a, h.bl.trans (g2 _ hB), fun b cs t f hb k1 k2 => ?_, by rw [g4]; exact h.sz⟩
  have := heap_lt hb
  exact (g3 _ (by omega)).trans (h.kp b cs t f hb k1 k2)
theorem FS.keep {w X X' : World} {B gB mB : Nat} {c1 c2 : Value} {l : List Nat} {rB fB aB : Nat} {cf ca : Array Value} {ta : TypeId} (h : FS w X B gB mB c1 c2 l rB fB aB cf ca ta) (hb : Below X.heap.size X X') (hB : B ≤ X.heap.size) : FS w X' B gB mB c1 c2 l rB fB aB cf ca ta := by
  obtain ⟨ov, st⟩ := h.st
  exact ⟨⟨ov, st.keep hb⟩, at_keep h.r hb, at_keep h.f hb, at_keep h.a hb, h.bl.trans (hb.mono hB), h.kp.trans (Kp.of_below hb), Nat.le_trans h.sz hb.size⟩
/-- A node is given. -/
structure FkG (w w' : World) (B gB mB : Nat) (c1 c2 : Value) (T : List Fk) (l : List Nat) (v : Nat) (e : Ending) : Prop where
  mk ::
  e : e = .returned (.tuple #[.agg (reF (vis T l v) (fkAt T v)).cells.toArray, .nilIface])
  st : ∃ ov, GS w' B gB mB c1 c2 (vis T l v) ov
  below : Below B w w'
  kp : Kp w w'
  sz : w.heap.size ≤ w'.heap.size
theorem mAw (P Q R : Int) (w : World) : (Go.method 244 83 (.agg #[.int .i16 P, .int .i16 Q, .int .i16 R]) "loop.example/g01242/impl.ways").run Try.prog w = .ok (97, .agg #[.int .i16 P, .int .i16 Q, .int .i16 R]) w := by kernel_rfl
theorem mTw (D P : Int) (w : World) : (Go.method 244 85 (.agg #[.int .i8 D, .int .i16 P]) "loop.example/g01242/impl.ways").run Try.prog w = .ok (98, .agg #[.int .i8 D, .int .i16 P]) w := by kernel_rfl
theorem grow5 {w : World} {b : Nat} {x0 x1 x2 x3 x4 : Value} {t : TypeId} (h : w.heap[b]? = some (.cells #[x0, x1, x2, x3, x4] t (0, 0))) (u0 u1 u2 u3 u4 : Value) :
    w.grownBy (((((w.setCell ⟨b, 0, none⟩ u0).setCell ⟨b, 1, none⟩ u1).setCell ⟨b, 2, none⟩ u2).setCell ⟨b, 3, none⟩ u3).setCell ⟨b, 4, none⟩ u4) (some b) := by
  obtain ⟨W, hW, _, hb⟩ := all5 h u0 u1 u2 u3 u4
  have h0 := hb 0 (Nat.zero_le _)
  rw [← hW] at h0
  refine ⟨h0.os, h0.tape, h0.output, h0.size, fun j _ hj => ?_⟩
  have hj : j ≠ b := fun e => hj (by rw [e])
  exact (heap_setCell_other _ _ _ _ hj).trans ((heap_setCell_other _ _ _ _ hj).trans ((heap_setCell_other _ _ _ _ hj).trans ((heap_setCell_other _ _ _ _ hj).trans (heap_setCell_other _ _ _ _ hj))))
set_option maxRecDepth 1000000 in
set_option maxHeartbeats 16000000 in
theorem forkA {w0 w : World} {B gB mB v n : Nat} {vn vb ov : Value} {l bs : List Nat} {T : List Fk} (hF : IsF w0 T vn) (hT : trB T = true) (hTn : T.length = n) (hb : IsN w0 bs vb) (hbl : bs.length = n) (hbn : ∀ i, i < n → bs.getD i 0 < n) (hB : w0.heap.size = B) (hw : Below B w0 w) (h : GS w B gB mB (clo1 vn) (clo2 vn vb) l ov) (hl : Fnd l n) (hv : v < n) (hk : (fkAt T v).k = 1) :
    Calls Try.prog 78 #[.pointer (some ⟨gB, 0, none⟩), .int .i16 v] w fun e w' => FkG w w' B gB mB (clo1 vn) (clo2 vn vb) (reBT T bs) l v e := by
  have hn60 : n ≤ 60 := by rw [← hTn]; exact (trB_iff.1 hT).1.2
  have hrb := reBT_at (bs := bs) (show v < T.length by omega)
  have hfb := fkB_iff.1 ((trB_iff.1 hT).2 _ (List.mem_of_getElem? (fkAt_get (show v < T.length by omega))))
  have hlB : ∀ (s : Option Addr) (n k : Nat) (W : World), (Builtin.len_ #[54] 3 #[.slice s n k]).run Try.prog W = .ok (.int .i64 n) W := fun s n k W => rfl
  obtain ⟨W1, hW1, b1, x1⟩ := boxN w zF 62
  obtain ⟨W2, hW2, b2, x2⟩ := boxN W1 zF 62
  unfold zF at hW1 hW2
  have x1 := at_keep x1 b2
  have b12 := b1.trans (b2.mono b1.size)
  have z1 : W1.heap.size = w.heap.size + 1 := by rw [← hW1]; simp
  have z2 : W2.heap.size = w.heap.size + 2 := by rw [← hW2]; simp; omega
  have hBw : B ≤ w.heap.size := Nat.le_trans h.bg (Nat.le_of_lt (heap_lt h.gb))
  have hw2 : Below B w0 W2 := hw.trans (b12.mono hBw)
  have at0 := atTI (hF.keep (by rw [hB]; exact hw2)) hT (show v < T.length by omega)
  have s2 := h.keep b12
  have q3 : W2.cell? ⟨gB, 3, none⟩ = some (.func (.func 71) #[.agg #[vn]] #[]) := by rw [Lib.cell_of_heap s2.gb]; rfl
  obtain ⟨⟨K, D, P, Q, R⟩, hff⟩ : ∃ f, fkAt T v = f := ⟨_, rfl⟩
  rw [hff] at at0 hk hrb hfb
  simp only at hk hfb
  subst hk
  obtain ⟨y0, rfl⟩ : ∃ y : Nat, P = y := ⟨P.toNat, by omega⟩
  obtain ⟨y1, rfl⟩ : ∃ y : Nat, Q = y := ⟨Q.toNat, by omega⟩
  obtain ⟨y2, rfl⟩ : ∃ y : Nat, R = y := ⟨R.toNat, by omega⟩
  have hy : y0 < n ∧ y1 < n ∧ y2 < n := by omega
  have hz := And.intro (hbn y0 hy.1) (And.intro (hbn y1 hy.2.1) (hbn y2 hy.2.2))
  have hrb : fkAt (reBT T bs) v = ⟨1, 0, (bs.getD y0 0 : Nat), (bs.getD y1 0 : Nat), (bs.getD y2 0 : Nat)⟩ := hrb
  obtain ⟨z0, hz0⟩ : ∃ z, bs.getD y0 0 = z := ⟨_, rfl⟩
  obtain ⟨z1', hz1⟩ : ∃ z, bs.getD y1 0 = z := ⟨_, rfl⟩
  obtain ⟨z2', hz2⟩ : ∃ z, bs.getD y2 0 = z := ⟨_, rfl⟩
  have FND := Lib.hid fun (X : World) (hX : Below B w0 X) (y : Nat) (hyn : y < n) (l' : List Nat) (hl' : Fnd l' n) (ov' : Value) (h' : GS X B gB mB (clo1 vn) (clo2 vn vb) l' ov') => findI (w := X) (y := y) hb hB hX h' hl' hn60 (by rw [hbl]; exact hyn) (hbn y hyn)
  rw [hz0, hz1, hz2] at hz hrb
  have hvis : vis (reBT T bs) l v = addN (addN (addN l z0) z1') z2' := by unfold vis; rw [hrb]; rfl
  have l0 := hl
  have l1 := l0.add hz.1
  have l2 := l1.add hz.2.1
  have l3 := l2.add hz.2.2
  obtain ⟨L1, hL1⟩ : ∃ L, addN l z0 = L := ⟨_, rfl⟩
  obtain ⟨L2, hL2⟩ : ∃ L, addN L1 z1' = L := ⟨_, rfl⟩
  obtain ⟨L3, hL3⟩ : ∃ L, addN L2 z2' = L := ⟨_, rfl⟩
  rw [hL1, hL2, hL3] at hvis
  rw [hL1] at l1 l2 l3
  rw [hL2] at l2 l3
  rw [hL3] at l3
  have p12 : L1 <+: L2 := by rw [← hL2]; exact addN_pre _ _
  have p23 : L2 <+: L3 := by rw [← hL3]; exact addN_pre _ _
  have m0 : z0 ∈ L1 := by rw [← hL1]; exact addN_mem _ _
  have m1 : z1' ∈ L2 := by rw [← hL2]; exact addN_mem _ _
  have RES := Lib.hid (show (reF (vis (reBT T bs) l v) (fkAt (reBT T bs) v)).cells.toArray = #[.int .i8 1, .int .i8 0, .int .i16 (L1.idxOf z0 : Nat), .int .i16 (L2.idxOf z1' : Nat), .int .i16 (L3.idxOf z2' : Nat)] from by
    rw [hvis, hrb, ← idx_pre (p12.trans p23) m0, ← idx_pre p23 m1]
    rfl)
  rw [show qV ⟨1, D, (y0 : Int), (y1 : Int), (y2 : Int)⟩ = .iface 83 (.agg #[.int .i16 y0, .int .i16 y1, .int .i16 y2]) from rfl] at at0
  have ta := tA y0 y1 y2
  have ma := mAw y0 y1 y2
  have HVIS := Lib.hid hvis
  have LL := Lib.hid (And.intro l0 (And.intro l1 l2))
  have HL := Lib.hid (And.intro hL1 (And.intro hL2 hL3))
  have HZ := Lib.hid (And.intro hz0 (And.intro hz1 hz2))
  have HY := Lib.hid hy
  have S2 := Lib.hid (And.intro s2 (And.intro x1 (And.intro x2 (And.intro b12 hw))))
  have ZZ := Lib.hid (And.intro z1 (And.intro z2 hBw))
  clear hF hT hTn hb hbl hbn hB hw h hl hrb hfb x1 x2 b1 b2 b12 hw2 s2 hff hz hz0 hz1 hz2 hvis l0 l1 l2 l3 hL1 hL2 hL3 p12 p23 m0 m1 z1 z2 hBw hy hn60 hv
  go_enter Try.func78, Try.ntmps78
  go_wp2_with (go_at_call 71; refine at0.mono ?_)
  first | (rintro e W3 rfl b3) | (rintro e W3 ⟨rfl, b3⟩)
  try dsimp only
  obtain ⟨W4, hW4, b4, x4⟩ := boxN W3 #[.int .i16 y0, .int .i16 y1, .int .i16 y2] 83
  have hn1 := ZZ.out
  have s3 := b3.size
  have z4 : W4.heap.size = W3.heap.size + 1 := by rw [← hW4]; simp
  have b24 := b3.trans (b4.mono b3.size)
  have F4 : FS w W4 B gB mB (clo1 vn) (clo2 vn vb) l w.heap.size W1.heap.size W3.heap.size zF #[.int .i16 y0, .int .i16 y1, .int .i16 y2] 83 :=
    ⟨⟨_, S2.out.1.keep b24⟩, at_keep S2.out.2.1 b24, at_keep S2.out.2.2.1 b24, x4, (S2.out.2.2.2.1.mono hn1.2.2).trans (b24.mono (by omega)), (Kp.of_below S2.out.2.2.2.1).trans (Kp.of_below b24), by omega⟩
  obtain ⟨W5, hW5, F5⟩ := F4.store (i := 0) (by omega) (by omega) (by omega) (by omega) (.int .i8 1)
  have c4 : W4.cell? ⟨W1.heap.size, 0, none⟩ = some (.int .i8 0) := by rw [Lib.cell_of_heap F4.f]; rfl
  have f4 : W4.frozen? ⟨W1.heap.size, 0, none⟩ = false := Lib.frozen_of_heap F4.f _
  have z5 : W5.heap.size = W4.heap.size := by rw [← hW5]; simp [World.setCell]
  have ws := waysA y0 y1 y2 W5
  have NUM := Lib.hid (show w.heap.size ≤ W1.heap.size ∧ B ≤ W1.heap.size ∧ w.heap.size ≠ W1.heap.size ∧ W5.heap.size ≠ W1.heap.size from by omega)
  have FF5 := Lib.hid F5
  clear at0 x4 b3 b4 b24 F4 F5 hn1 s3 z4 z5
  go_wp2_with (go_at_call 97; refine ws.mono ?_)
  first | (rintro e W6 rfl ⟨x6, b6⟩) | (rintro e W6 ⟨rfl, x6, b6⟩)
  try dsimp only
  have F6 := FF5.out.keep b6 (by have := FF5.out.sz; have := ZZ.out; omega)
  have F6 : FS w W6 B gB mB (clo1 vn) (clo2 vn vb) l w.heap.size W1.heap.size W5.heap.size #[.int .i8 1, .int .i8 0, .int .i16 0, .int .i16 0, .int .i16 0] #[.int .i16 y0, .int .i16 y1, .int .i16 y2] 83 := ⟨F6.st, F6.r, F6.f, x6, F6.bl, F6.kp, F6.sz⟩
  have FA := Lib.hid F6
  clear F6 x6 b6 ws
  go_wp2
  refine wp_loop_rounds 4 ?_
  rw [rounds_succ]
  obtain ⟨ov0, st0⟩ := FA.out.st
  have fd := FND.out _ (S2.out.2.2.2.2.trans FA.out.bl) y0 HY.out.1 l LL.out.1 ov0 st0
  rw [HZ.out.1] at fd
  obtain ⟨ca0, ca1, ca2⟩ := cells3 FA.out.a
  clear st0
  go_wp2_with (go_at_call 77; refine fd.mono ?_)
  rintro e V0 hp0
  obtain rfl := hp0.e
  try dsimp only
  have FB := FA.out.find tyA16 tyAG hp0
  rw [HL.out.1] at FB ⊢
  obtain ⟨X0, hX0, FC⟩ := FB.store (i := 2) NUM.out.1 NUM.out.2.1 NUM.out.2.2.1 NUM.out.2.2.2 (.int .i16 (L1.idxOf z0 : Nat))
  obtain ⟨d0, d1, d2, d3, d4⟩ := cells5 FB.f
  have fr : V0.frozen? ⟨W1.heap.size, 2, none⟩ = false := Lib.frozen_of_heap FB.f _
  have FC : FS w X0 B gB mB (clo1 vn) (clo2 vn vb) L1 w.heap.size W1.heap.size W5.heap.size #[.int .i8 1, .int .i8 0, .int .i16 (L1.idxOf z0 : Nat), .int .i16 0, .int .i16 0] #[.int .i16 y0, .int .i16 y1, .int .i16 y2] 83 := FC
  have FA := Lib.hid FC
  clear fd hp0 FB FC ca0 ca1 ca2
  go_wp2
  clear d0 d1 d2 d3 d4 fr
  rw [rounds_succ]
  obtain ⟨ov1, st1⟩ := FA.out.st
  have fd := FND.out _ (S2.out.2.2.2.2.trans FA.out.bl) y1 HY.out.2.1 L1 LL.out.2.1 ov1 st1
  rw [HZ.out.2.1] at fd
  obtain ⟨ca0, ca1, ca2⟩ := cells3 FA.out.a
  clear st1
  go_wp2_with (go_at_call 77; refine fd.mono ?_)
  rintro e V1 hp1
  obtain rfl := hp1.e
  try dsimp only
  have FB := FA.out.find tyA16 tyAG hp1
  rw [HL.out.2.1] at FB ⊢
  obtain ⟨X1, hX1, FC⟩ := FB.store (i := 3) NUM.out.1 NUM.out.2.1 NUM.out.2.2.1 NUM.out.2.2.2 (.int .i16 (L2.idxOf z1' : Nat))
  obtain ⟨d0, d1, d2, d3, d4⟩ := cells5 FB.f
  have fr : V1.frozen? ⟨W1.heap.size, 3, none⟩ = false := Lib.frozen_of_heap FB.f _
  have FC : FS w X1 B gB mB (clo1 vn) (clo2 vn vb) L2 w.heap.size W1.heap.size W5.heap.size #[.int .i8 1, .int .i8 0, .int .i16 (L1.idxOf z0 : Nat), .int .i16 (L2.idxOf z1' : Nat), .int .i16 0] #[.int .i16 y0, .int .i16 y1, .int .i16 y2] 83 := FC
  have FA := Lib.hid FC
  clear fd hp1 FB FC ca0 ca1 ca2
  go_wp2
  clear d0 d1 d2 d3 d4 fr
  rw [rounds_succ]
  obtain ⟨ov2, st2⟩ := FA.out.st
  have fd := FND.out _ (S2.out.2.2.2.2.trans FA.out.bl) y2 HY.out.2.2 L2 LL.out.2.2 ov2 st2
  rw [HZ.out.2.2] at fd
  obtain ⟨ca0, ca1, ca2⟩ := cells3 FA.out.a
  clear st2
  go_wp2_with (go_at_call 77; refine fd.mono ?_)
  rintro e V2 hp2
  obtain rfl := hp2.e
  try dsimp only
  have FB := FA.out.find tyA16 tyAG hp2
  rw [HL.out.2.2] at FB ⊢
  obtain ⟨X2, hX2, FC⟩ := FB.store (i := 4) NUM.out.1 NUM.out.2.1 NUM.out.2.2.1 NUM.out.2.2.2 (.int .i16 (L3.idxOf z2' : Nat))
  obtain ⟨d0, d1, d2, d3, d4⟩ := cells5 FB.f
  have fr : V2.frozen? ⟨W1.heap.size, 4, none⟩ = false := Lib.frozen_of_heap FB.f _
  have FC : FS w X2 B gB mB (clo1 vn) (clo2 vn vb) L3 w.heap.size W1.heap.size W5.heap.size #[.int .i8 1, .int .i8 0, .int .i16 (L1.idxOf z0 : Nat), .int .i16 (L2.idxOf z1' : Nat), .int .i16 (L3.idxOf z2' : Nat)] #[.int .i16 y0, .int .i16 y1, .int .i16 y2] 83 := FC
  have FA := Lib.hid FC
  clear fd hp2 FB FC ca0 ca1 ca2
  go_wp2
  clear d0 d1 d2 d3 d4 fr
  rw [rounds_succ]
  obtain ⟨d0, d1, d2, d3, d4⟩ := cells5 FA.out.f
  obtain ⟨r0, r1, r2, r3, r4⟩ := cells5 FA.out.r
  have h0 : X2.frozen? ⟨w.heap.size, 0, none⟩ = false := Lib.frozen_of_heap FA.out.r _
  have h1 : X2.frozen? ⟨w.heap.size, 1, none⟩ = false := Lib.frozen_of_heap FA.out.r _
  have h2 : X2.frozen? ⟨w.heap.size, 2, none⟩ = false := Lib.frozen_of_heap FA.out.r _
  have h3 : X2.frozen? ⟨w.heap.size, 3, none⟩ = false := Lib.frozen_of_heap FA.out.r _
  have h4 : X2.frozen? ⟨w.heap.size, 4, none⟩ = false := Lib.frozen_of_heap FA.out.r _
  obtain ⟨Y, hY, v1, v2⟩ := all5 FA.out.r (.int .i8 1) (.int .i8 0) (.int .i16 (L1.idxOf z0 : Nat)) (.int .i16 (L2.idxOf z1' : Nat)) (.int .i16 (L3.idxOf z2' : Nat))
  have g5 := grow5 FA.out.r (.int .i8 1) (.int .i8 0) (.int .i16 (L1.idxOf z0 : Nat)) (.int .i16 (L2.idxOf z1' : Nat)) (.int .i16 (L3.idxOf z2' : Nat))
  rw [hY] at g5
  obtain ⟨u0, u1, u2, u3, u4⟩ := cells5 v1
  obtain ⟨ov9, st9⟩ := FA.out.st
  have END := Lib.hid (show GS Y B gB mB (clo1 vn) (clo2 vn vb) L3 ov9 ∧ Below B w Y ∧ Kp w Y ∧ w.heap.size ≤ Y.heap.size from ⟨st9.grown FA.out.r tyF16 tyFG g5, FA.out.bl.trans (v2 _ ZZ.out.2.2), fun b cs t f hb k1 k2 => by
      have := heap_lt hb
      exact (g5.block _ (by have := FA.out.sz; omega) (fun e => by have := Option.some.inj e; omega)).trans (FA.out.kp b cs t f hb k1 k2), Nat.le_trans FA.out.sz g5.size⟩)
  clear v1 v2 g5 st9
  go_wp2
  refine bodyPost_ret (v := .tuple #[.agg #[.int .i8 1, .int .i8 0, .int .i16 (L1.idxOf z0 : Nat), .int .i16 (L2.idxOf z1' : Nat), .int .i16 (L3.idxOf z2' : Nat)], .nilIface]) (by simp [results, Try.results78, go_sem, u0, u1, u2, u3, u4]) rfl ?_
  exact ⟨by rw [RES.out], ⟨_, by rw [HVIS.out]; exact END.out.1⟩, END.out.2.1, END.out.2.2.1, END.out.2.2.2⟩
set_option maxRecDepth 1000000 in
set_option maxHeartbeats 16000000 in
theorem forkT {w0 w : World} {B gB mB v n : Nat} {vn vb ov : Value} {l bs : List Nat} {T : List Fk} (hF : IsF w0 T vn) (hT : trB T = true) (hTn : T.length = n) (hb : IsN w0 bs vb) (hbl : bs.length = n) (hbn : ∀ i, i < n → bs.getD i 0 < n) (hB : w0.heap.size = B) (hw : Below B w0 w) (h : GS w B gB mB (clo1 vn) (clo2 vn vb) l ov) (hl : Fnd l n) (hv : v < n) (hk : (fkAt T v).k = 2) :
    Calls Try.prog 78 #[.pointer (some ⟨gB, 0, none⟩), .int .i16 v] w fun e w' => FkG w w' B gB mB (clo1 vn) (clo2 vn vb) (reBT T bs) l v e := by
  have hn60 : n ≤ 60 := by rw [← hTn]; exact (trB_iff.1 hT).1.2
  have hrb := reBT_at (bs := bs) (show v < T.length by omega)
  have hfb := fkB_iff.1 ((trB_iff.1 hT).2 _ (List.mem_of_getElem? (fkAt_get (show v < T.length by omega))))
  have hlB : ∀ (s : Option Addr) (n k : Nat) (W : World), (Builtin.len_ #[54] 3 #[.slice s n k]).run Try.prog W = .ok (.int .i64 n) W := fun s n k W => rfl
  obtain ⟨W1, hW1, b1, x1⟩ := boxN w zF 62
  obtain ⟨W2, hW2, b2, x2⟩ := boxN W1 zF 62
  unfold zF at hW1 hW2
  have x1 := at_keep x1 b2
  have b12 := b1.trans (b2.mono b1.size)
  have z1 : W1.heap.size = w.heap.size + 1 := by rw [← hW1]; simp
  have z2 : W2.heap.size = w.heap.size + 2 := by rw [← hW2]; simp; omega
  have hBw : B ≤ w.heap.size := Nat.le_trans h.bg (Nat.le_of_lt (heap_lt h.gb))
  have hw2 : Below B w0 W2 := hw.trans (b12.mono hBw)
  have at0 := atTI (hF.keep (by rw [hB]; exact hw2)) hT (show v < T.length by omega)
  have s2 := h.keep b12
  have q3 : W2.cell? ⟨gB, 3, none⟩ = some (.func (.func 71) #[.agg #[vn]] #[]) := by rw [Lib.cell_of_heap s2.gb]; rfl
  obtain ⟨⟨K, D, P, Q, R⟩, hff⟩ : ∃ f, fkAt T v = f := ⟨_, rfl⟩
  rw [hff] at at0 hk hrb hfb
  simp only at hk hfb
  subst hk
  obtain ⟨y0, rfl⟩ : ∃ y : Nat, P = y := ⟨P.toNat, by omega⟩
  have hy : y0 < n := by omega
  have hz := hbn y0 hy
  have hrb : fkAt (reBT T bs) v = ⟨2, D, (bs.getD y0 0 : Nat), 0, 0⟩ := hrb
  obtain ⟨z0, hz0⟩ : ∃ z, bs.getD y0 0 = z := ⟨_, rfl⟩
  have FND := Lib.hid fun (X : World) (hX : Below B w0 X) (y : Nat) (hyn : y < n) (l' : List Nat) (hl' : Fnd l' n) (ov' : Value) (h' : GS X B gB mB (clo1 vn) (clo2 vn vb) l' ov') => findI (w := X) (y := y) hb hB hX h' hl' hn60 (by rw [hbl]; exact hyn) (hbn y hyn)
  rw [hz0] at hz hrb
  have hvis : vis (reBT T bs) l v = addN l z0 := by unfold vis; rw [hrb]; rfl
  have l0 := hl
  obtain ⟨L1, hL1⟩ : ∃ L, addN l z0 = L := ⟨_, rfl⟩
  rw [hL1] at hvis
  have RES := Lib.hid (show (reF (vis (reBT T bs) l v) (fkAt (reBT T bs) v)).cells.toArray = #[.int .i8 2, .int .i8 D, .int .i16 (L1.idxOf z0 : Nat), .int .i16 0, .int .i16 0] from by
    rw [hvis, hrb]
    rfl)
  rw [show qV ⟨2, D, (y0 : Int), Q, R⟩ = .iface 85 (.agg #[.int .i8 D, .int .i16 y0]) from rfl] at at0
  have tb := tB D y0
  have tc := tC D y0
  have ma := mTw D y0
  have HVIS := Lib.hid hvis
  have LL := Lib.hid l0
  have HL := Lib.hid hL1
  have HZ := Lib.hid hz0
  have HY := Lib.hid hy
  have S2 := Lib.hid (And.intro s2 (And.intro x1 (And.intro x2 (And.intro b12 hw))))
  have ZZ := Lib.hid (And.intro z1 (And.intro z2 hBw))
  clear hF hT hTn hb hbl hbn hB hw h hl hrb hfb x1 x2 b1 b2 b12 hw2 s2 hff hz hz0 hvis l0 hL1 z1 z2 hBw hy hn60 hv
  go_enter Try.func78, Try.ntmps78
  go_wp2_with (go_at_call 71; refine at0.mono ?_)
  first | (rintro e W3 rfl b3) | (rintro e W3 ⟨rfl, b3⟩)
  try dsimp only
  obtain ⟨W4, hW4, b4, x4⟩ := boxN W3 #[.int .i8 D, .int .i16 y0] 85
  have hn1 := ZZ.out
  have s3 := b3.size
  have z4 : W4.heap.size = W3.heap.size + 1 := by rw [← hW4]; simp
  have b24 := b3.trans (b4.mono b3.size)
  have F4 : FS w W4 B gB mB (clo1 vn) (clo2 vn vb) l w.heap.size W1.heap.size W3.heap.size zF #[.int .i8 D, .int .i16 y0] 85 :=
    ⟨⟨_, S2.out.1.keep b24⟩, at_keep S2.out.2.1 b24, at_keep S2.out.2.2.1 b24, x4, (S2.out.2.2.2.1.mono hn1.2.2).trans (b24.mono (by omega)), (Kp.of_below S2.out.2.2.2.1).trans (Kp.of_below b24), by omega⟩
  have NUM := Lib.hid (show w.heap.size ≤ W1.heap.size ∧ B ≤ W1.heap.size ∧ w.heap.size ≠ W1.heap.size ∧ W3.heap.size ≠ W1.heap.size from by omega)
  have a4 : W4.cell? ⟨W3.heap.size, 0, none⟩ = some (.int .i8 D) := by rw [Lib.cell_of_heap x4]; rfl
  have c4 : W4.cell? ⟨W1.heap.size, 0, none⟩ = some (.int .i8 0) := by rw [Lib.cell_of_heap F4.f]; rfl
  have c5 : W4.cell? ⟨W1.heap.size, 1, none⟩ = some (.int .i8 0) := by rw [Lib.cell_of_heap F4.f]; rfl
  have f4 : W4.frozen? ⟨W1.heap.size, 0, none⟩ = false := Lib.frozen_of_heap F4.f _
  have f5 : W4.frozen? ⟨W1.heap.size, 1, none⟩ = false := Lib.frozen_of_heap F4.f _
  have FF4 := Lib.hid F4
  clear at0 x4 b3 b4 b24 F4 hn1 s3 z4
  go_wp2
  have nne : (⟨W1.heap.size, 0, none⟩ : Addr) ≠ ⟨W3.heap.size, 0, none⟩ ∧ (⟨W1.heap.size, 1, none⟩ : Addr) ≠ ⟨W3.heap.size, 0, none⟩ := ⟨fun e => NUM.out.2.2.2 (by injection e with e; exact e.symm), fun e => NUM.out.2.2.2 (by injection e with e; exact e.symm)⟩
  have a5 : (W4.setCell ⟨W1.heap.size, 0, none⟩ (.int .i8 2)).cell? ⟨W3.heap.size, 0, none⟩ = some (.int .i8 D) := (World.cell?_setCell_other _ _ _ _ nne.1).trans a4
  have a6 : ((W4.setCell ⟨W1.heap.size, 0, none⟩ (.int .i8 2)).setCell ⟨W1.heap.size, 1, none⟩ (.int .i8 D)).cell? ⟨W3.heap.size, 0, none⟩ = some (.int .i8 D) := (World.cell?_setCell_other _ _ _ _ nne.2).trans a5
  have KA := Lib.hid (And.intro a4 (And.intro a5 a6))
  clear nne a5 a6
  go_region_held3 (fun w' => w'.cell? ⟨W3.heap.size, 0, none⟩ = some (.int .i8 D)) (first | exact KA.out.1 | exact KA.out.2.1 | exact KA.out.2.2) (fail)
  rename_i hHeldR
  clear hHeldR
  obtain ⟨U1, hU1, G1⟩ := FF4.out.store (i := 0) NUM.out.1 NUM.out.2.1 NUM.out.2.2.1 NUM.out.2.2.2 (.int .i8 2)
  obtain ⟨U2, hU2, G2⟩ := G1.store (i := 1) NUM.out.1 NUM.out.2.1 NUM.out.2.2.1 NUM.out.2.2.2 (.int .i8 D)
  rw [hU1, hU2]
  obtain ⟨W5, hW5⟩ : ∃ W, U2.drew = W := ⟨_, rfl⟩
  rw [hW5]
  have b5 : Below U2.heap.size U2 W5 := by rw [← hW5]; exact ⟨rfl, rfl, rfl, Nat.le_refl _, fun _ _ => rfl⟩
  have FF5 := Lib.hid (G2.keep b5 (by have := G2.sz; have := ZZ.out; omega))
  have ws := waysT D y0 W5
  clear G1 G2 b5 hU1 hU2 hW5 a4 c4 c5 f4 f5
  go_wp2_with (go_at_call 98; refine ws.mono ?_)
  first | (rintro e W6 rfl ⟨x6, b6⟩) | (rintro e W6 ⟨rfl, x6, b6⟩)
  try dsimp only
  have F6 := FF5.out.keep b6 (by have := FF5.out.sz; have := ZZ.out; omega)
  have F6 : FS w W6 B gB mB (clo1 vn) (clo2 vn vb) l w.heap.size W1.heap.size W3.heap.size #[.int .i8 2, .int .i8 D, .int .i16 0, .int .i16 0, .int .i16 0] #[.int .i8 D, .int .i16 y0] 85 := F6
  have w6 : W6.cell? ⟨W5.heap.size + 1, 0, none⟩ = some (.int .i16 y0) := by rw [Lib.cell_of_heap x6]; rfl
  have FA := Lib.hid F6
  clear F6 x6 b6 ws
  go_wp2
  refine wp_loop_rounds 2 ?_
  rw [rounds_succ]
  obtain ⟨ov0, st0⟩ := FA.out.st
  have fd := FND.out _ (S2.out.2.2.2.2.trans FA.out.bl) y0 HY.out l LL.out ov0 st0
  rw [HZ.out] at fd
  clear st0
  go_wp2_with (go_at_call 77; refine fd.mono ?_)
  rintro e V0 hp0
  obtain rfl := hp0.e
  try dsimp only
  have FB := FA.out.find tyT16 tyTG hp0
  rw [HL.out] at FB ⊢
  obtain ⟨X0, hX0, FC⟩ := FB.store (i := 2) NUM.out.1 NUM.out.2.1 NUM.out.2.2.1 NUM.out.2.2.2 (.int .i16 (L1.idxOf z0 : Nat))
  obtain ⟨d0, d1, d2, d3, d4⟩ := cells5 FB.f
  have fr : V0.frozen? ⟨W1.heap.size, 2, none⟩ = false := Lib.frozen_of_heap FB.f _
  have FC : FS w X0 B gB mB (clo1 vn) (clo2 vn vb) L1 w.heap.size W1.heap.size W3.heap.size #[.int .i8 2, .int .i8 D, .int .i16 (L1.idxOf z0 : Nat), .int .i16 0, .int .i16 0] #[.int .i8 D, .int .i16 y0] 85 := FC
  have FA := Lib.hid FC
  clear fd hp0 FB FC w6
  go_wp2
  clear d0 d1 d2 d3 d4 fr
  rw [rounds_succ]
  obtain ⟨d0, d1, d2, d3, d4⟩ := cells5 FA.out.f
  obtain ⟨r0, r1, r2, r3, r4⟩ := cells5 FA.out.r
  have h0 : X0.frozen? ⟨w.heap.size, 0, none⟩ = false := Lib.frozen_of_heap FA.out.r _
  have h1 : X0.frozen? ⟨w.heap.size, 1, none⟩ = false := Lib.frozen_of_heap FA.out.r _
  have h2 : X0.frozen? ⟨w.heap.size, 2, none⟩ = false := Lib.frozen_of_heap FA.out.r _
  have h3 : X0.frozen? ⟨w.heap.size, 3, none⟩ = false := Lib.frozen_of_heap FA.out.r _
  have h4 : X0.frozen? ⟨w.heap.size, 4, none⟩ = false := Lib.frozen_of_heap FA.out.r _
  obtain ⟨Y, hY, v1, v2⟩ := all5 FA.out.r (.int .i8 2) (.int .i8 D) (.int .i16 (L1.idxOf z0 : Nat)) (.int .i16 0) (.int .i16 0)
  have g5 := grow5 FA.out.r (.int .i8 2) (.int .i8 D) (.int .i16 (L1.idxOf z0 : Nat)) (.int .i16 0) (.int .i16 0)
  rw [hY] at g5
  obtain ⟨u0, u1, u2, u3, u4⟩ := cells5 v1
  obtain ⟨ov9, st9⟩ := FA.out.st
  have END := Lib.hid (show GS Y B gB mB (clo1 vn) (clo2 vn vb) L1 ov9 ∧ Below B w Y ∧ Kp w Y ∧ w.heap.size ≤ Y.heap.size from ⟨st9.grown FA.out.r tyF16 tyFG g5, FA.out.bl.trans (v2 _ ZZ.out.2.2), fun b cs t f hb k1 k2 => by
      have := heap_lt hb
      exact (g5.block _ (by have := FA.out.sz; omega) (fun e => by have := Option.some.inj e; omega)).trans (FA.out.kp b cs t f hb k1 k2), Nat.le_trans FA.out.sz g5.size⟩)
  clear v1 v2 g5 st9
  go_wp2
  refine bodyPost_ret (v := .tuple #[.agg #[.int .i8 2, .int .i8 D, .int .i16 (L1.idxOf z0 : Nat), .int .i16 0, .int .i16 0], .nilIface]) (by simp [results, Try.results78, go_sem, u0, u1, u2, u3, u4]) rfl ?_
  exact ⟨by rw [RES.out], ⟨_, by rw [HVIS.out]; exact END.out.1⟩, END.out.2.1, END.out.2.2.1, END.out.2.2.2⟩
end Go.Proofs.Ytjmpdilffmpkgaa.Sx
