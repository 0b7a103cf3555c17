/-
  The run of a tree, by the code.
-/
import Derived.Test.YtingfbohkchgbaaDoorTQ
namespace Go.Proofs.YtingfbohkchgbaaDoor.Sx
open Go Go.RowKit
set_option linter.unusedVariables false
set_option linter.unusedSimpArgs false

theorem row_took {w w' : World} {nt np B n s : Nat} {e : TypeId} {v : Value} {xs : List Value} (h : w.ownsRow B e s v n xs) (o : Took w w' nt np) (h1 : nt < B) (h2 : np < B) : w'.ownsRow B e s v n xs := by
  obtain ⟨k1, k2 | ⟨g, cap, cur, k2, k3, k4, k5⟩⟩ := h
  · exact ⟨k1, .inl k2⟩
  · exact ⟨k1, .inr ⟨g, cap, cur, k2, k3, (o.rest _ (heap_lt k4) (by omega) (by omega)).trans k4, k5⟩⟩
/-- What takes digits stays while its blocks do, in which ns is among them. -/
theorem Tk.under9 {w w' : World} {ns nt np m B : Nat} {a b : List Int} {v0 v1 : Value} {k : Nat} (h : Tk w ns nt np a b v0 v1 k) (hB : Below B w w') (h1 : nt < B) (h2 : np < B) (l0 : ∀ q, v0.ownBlock = some q → q < m) (l1 : ∀ q, v1.ownBlock = some q → q < m) (hm : m ≤ B ∧ ns < B) : Tk w' ns nt np a b v0 v1 k :=
  ⟨⟨(hB.block _ hm.2).trans h.here.bk, isL_rest h.here.i0 l0 (hB.mono hm.1), isL_rest h.here.i1 l1 (hB.mono hm.1)⟩, (hB.block _ h1).trans h.tk, (hB.block _ h2).trans h.pl, h.d0, h.d1, h.d2⟩
/-- The error with which a run ends. -/
def errV (c : Int) : Value := if c = 0 then .nilIface else .iface 109 (.int .i64 c)
/-- Digits, a number and an error are given; below m all is as it was. -/
structure GaveE (m : Nat) (w0 w w' : World) (l : List Int) (x c : Int) (e : Ending) : Prop where
  mk ::
  here : ∃ s k, e = .returned (.tuple #[.slice s l.length k, .int .i64 x, errV c]) ∧ OwnL .i8 w.heap.size w' l (.slice s l.length k)
  below : Below m w0 w'
theorem tA (P Q R : Int) (W : World) : (Instr.typeAssert (.iface 107 (.agg #[.int .i16 P, .int .i16 Q, .int .i16 R])) 104 107 true).run Tryd.prog W = .ok (.tuple #[.agg #[.int .i16 P, .int .i16 Q, .int .i16 R], .bool true]) W := by kernel_rfl
theorem tB (D P : Int) (W : World) : (Instr.typeAssert (.iface 112 (.agg #[.int .i8 D, .int .i16 P])) 104 107 true).run Tryd.prog W = .ok (.tuple #[.agg #[.int .i16 0, .int .i16 0, .int .i16 0], .bool false]) W := by kernel_rfl
theorem tC (D P : Int) (W : World) : (Instr.typeAssert (.iface 112 (.agg #[.int .i8 D, .int .i16 P])) 104 112 true).run Tryd.prog W = .ok (.tuple #[.agg #[.int .i8 D, .int .i16 P], .bool true]) W := by kernel_rfl
set_option maxRecDepth 1000000 in
set_option maxHeartbeats 16000000 in
theorem runTI {w0 w : World} {ns nt np n m : Nat} {T : List Fk} {v v0 v1 : Value} {a b : List Int} {J : Nat} {l : List Int} {x c : Int} (hF : IsF w0 T v) (hm : w0.heap.size = m) (hB0 : Below m w0 w) (hk : Tk w ns nt np a b v0 v1 0) (hnt : m ≤ nt ∧ m ≤ np) (l0 : ∀ q, v0.ownBlock = some q → q < m) (l1 : ∀ q, v1.ownBlock = some q → q < m)
    (hT : trB T = true) (hv : vsB a b = true) (hn : n ≤ 60) (hSt : ∀ i, i < J → OkT T a b n i) (hJ : J ≤ n + 400) (hE : EndT T a b n J l x c) :
    Calls Tryd.prog 38 #[.agg #[v], .func (.func 62) #[] #[.pointer (some ⟨nt, 0, none⟩), .pointer (some ⟨ns, 0, none⟩), .pointer (some ⟨np, 0, none⟩)], .int .i64 n] w fun e w' => GaveE m w0 w w' l x c e := by
  have hvv := (vsB_iff a b).1 hv
  have hd : ∀ k, -1 ≤ dg a b k ∧ dg a b k ≤ 1 := fun k => by
    rw [dg_spec]
    split
    · rename_i hk
      exact (dgB_iff _).1 hvv.2.2.2.1 _ (getD_mem hk)
    · exact (dgB_iff _).1 hvv.2.2.2.2 _ (getD_mem (Nat.mod_lt _ (by omega)))
  obtain ⟨i0, ha, ha0, ha1, ha2⟩ := info_parts info8
  have hT1 := (trB_iff.1 hT).1
  obtain ⟨s, cp, rfl⟩ := hF.form
  obtain ⟨W, hW, hB, xb⟩ := boxN w #[.slice s T.length cp] 34
  obtain ⟨mm, hmm⟩ : ∃ m, T.length = m := ⟨_, rfl⟩
  rw [hmm] at hT1 xb hW ⊢
  have hmw : m ≤ w.heap.size := by have := heap_lt hk.tk; omega
  have hnB : nt < w.heap.size ∧ np < w.heap.size ∧ ns < w.heap.size := ⟨heap_lt hk.tk, heap_lt hk.pl, heap_lt hk.here.bk⟩
  have hWz : W.heap.size = w.heap.size + 1 := by rw [← hW]; simp
  have HM := Lib.hid hmm
  have HW := Lib.hid hWz
  have HF := Lib.hid fun (X : World) (hb : Below m w0 X) => (show IsF X T (.slice s T.length cp) from hF.keep (by rw [hm]; exact hb))
  have TV := Lib.hid hT
  have HV := Lib.hid hvv
  have HD := Lib.hid hd
  have SS := Lib.hid hSt
  have EE := Lib.hid hE
  have LL := Lib.hid (And.intro l0 l1)
  have NT := Lib.hid hnt
  have start : Hid (Below m w0 W ∧ Tk W ns nt np a b v0 v1 0 ∧ W.heap[w.heap.size]? = some (.cells #[.slice s mm cp] 34 (0, 0))) := ⟨hB0.trans (hB.mono hmw), hk.keep hB, xb⟩
  have hlB : ∀ (s : Option Addr) (n k : Nat) (W : World), (Builtin.len_ #[25] 3 #[.slice s n k]).run Tryd.prog W = .ok (.int .i64 n) W := fun s n k W => rfl
  clear hF hB0 hk hT hv hvv hd hSt hE hmm l0 l1 xb hB hWz hnt hm
  go_enter Tryd.func38, Tryd.ntmps38
  go_wp2
  go_loopw [9, 10, 11] (fun ov av kv wr => ∃ j : Nat, j ≤ J ∧ kv = .int .i64 (runT T a b j).k ∧ av = .int .i16 (runT T a b j).v ∧ wr.ownsRow (w.heap.size + 1) 75 1 ov (runT T a b j).o.length ((runT T a b j).o.map (Value.int .i8)) ∧ w.heap.size + 1 ≤ wr.heap.size ∧ Below m w0 wr ∧ Tk wr ns nt np a b v0 v1 (runT T a b j).k ∧ wr.heap[w.heap.size]? = some (.cells #[.slice s mm cp] 34 (0, 0))) (fun ov _ kv _ => n + 401 - (lenOf ov + (RowKit.intOf kv).toNat))
  case atStart => exact ⟨0, Nat.zero_le _, rfl, rfl, ⟨rfl, .inl ⟨rfl, rfl⟩⟩, by rw [HW.out]; exact Nat.le_refl _, start.out.1, start.out.2.1, start.out.2.2⟩
  case round =>
    obtain ⟨j, hj, rfl, rfl, hown, hsz, hb, htk, hxb⟩ := hrel
    have hbd := runT_bd (j := j) (fun i hi => SS.out i (by omega))
    have hnode := runT_node (a := a) (b := b) TV.out j
    have hF := HF.out wr hb
    have hat := atTI hF TV.out hnode
    rw [HM.out] at hat hnode
    have hnx := nxF_bd TV.out (i := (runT T a b j).v) (by rw [HM.out]; exact hnode) (dg a b (runT T a b j).k)
    rw [HM.out] at hnx
    have hkk := (fkB_iff.1 ((trB_iff.1 TV.out).2 _ (List.mem_of_getElem? (fkAt_get (by rw [HM.out]; exact hnode))))).2.2.2
    obtain ⟨vj, hvj⟩ : ∃ y, (runT T a b j).v = y := ⟨_, rfl⟩
    obtain ⟨kj, hkj⟩ : ∃ y, (runT T a b j).k = y := ⟨_, rfl⟩
    obtain ⟨oj, hoj⟩ : ∃ y, (runT T a b j).o = y := ⟨_, rfl⟩
    have hkd : kdT T a b j = (fkAt T vj).k := by unfold kdT; rw [hvj]
    have htl : kdT T a b j = 2 → runT T a b (j + 1) = ⟨(fkAt T vj).n0.toNat, oj ++ [(fkAt T vj).d], kj⟩ := fun e => by rw [runT_tell e, hvj, hoj, hkj]
    have hak : ¬ kdT T a b j = 2 → runT T a b (j + 1) = ⟨(nxF (fkAt T vj) (dg a b kj)).toNat, oj, kj + 1⟩ := fun e => by rw [runT_ask e, hvj, hoj, hkj]
    rw [hvj, hkj] at hnx
    rw [hvj] at hat hnode hkk ⊢
    rw [hkj] at hbd htk ⊢
    rw [hoj] at hown hbd
    obtain ⟨⟨K, D, P, Q, R⟩, hff⟩ : ∃ f, fkAt T vj = f := ⟨_, rfl⟩
    rw [hff] at hat hkd htl hak hnx hkk
    simp only at hkd htl hak hnx hkk
    obtain ⟨su, cu, rfl⟩ := own_formN hown
    have k0 : wr.cell? ⟨w.heap.size, 0, none⟩ = some (.slice s mm cp) := by rw [Lib.cell_of_heap hxb]; rfl
    have KD := Lib.hid hkd
    have TL := Lib.hid htl
    have AK := Lib.hid hak
    have NX := Lib.hid hnx
    have OJ := Lib.hid hoj
    have KJ := Lib.hid hkj
    have HOW := Lib.hid hown
    have HTK := Lib.hid htk
    have HXB := Lib.hid hxb
    have HBB := Lib.hid hb
    have hK12 : K = 1 ∨ K = 2 := by rcases hkk with h | h; exact .inl h.1; exact .inr h.1
    clear hvj hkj hoj hkd htl hak hnx hff hown htk hxb hb hF hkk
    by_cases hlen : oj.length < n
    · have g1 : (oj.length : Int) < n := by omega
      rcases hK12 with rfl | rfl
      · rw [show qV ⟨1, D, P, Q, R⟩ = .iface 107 (.agg #[.int .i16 P, .int .i16 Q, .int .i16 R]) from rfl] at hat
        have ta := tA P Q R
        go_wp2_with (go_at_call 60; refine hat.mono ?_)
        first | (rintro e W2 rfl b2) | (rintro e W2 ⟨rfl, b2⟩)
        try dsimp only
        have hK' : ¬ kdT T a b j = 2 := by rw [KD.out]; decide
        obtain ⟨V, hV, hBV, y⟩ := boxN W2 #[.int .i16 P, .int .i16 Q, .int .i16 R] 107
        have b3 := b2.trans (hBV.mono b2.size)
        have tkV := HTK.out.keep b3
        have hmr : m ≤ wr.heap.size := by omega
        have HBV := Lib.hid (HBB.out.trans (b3.mono hmr))
        have HXV := Lib.hid (at_keep HXB.out b3)
        have HOV := Lib.hid (row_underN (k := 0) HOW.out b3)
        have hz2 : wr.heap.size ≤ W2.heap.size := b2.size
        have hzV : V.heap.size = W2.heap.size + 1 := by rw [← hV]; simp
        have HZ := Lib.hid (And.intro hz2 hzV)
        by_cases hk4 : kj = 400
        · have hres : l = [] ∧ x = 0 ∧ c = 7 := by
            rcases Nat.lt_or_ge j J with h | h
            · rcases (SS.out j h).k with h1 | h1
              · exact absurd h1 hK'
              · rw [KJ.out] at h1; omega
            · obtain rfl : j = J := by omega
              cases EE.out with
              | done h => rw [OJ.out] at h; omega
              | budget _ _ _ => exact ⟨rfl, rfl, rfl⟩
          obtain ⟨rfl, rfl, rfl⟩ := hres
          subst hk4
          have tn := takeI_no tkV
          clear b2 b3 y hBV k0 tkV
          go_wp2_with (go_at_call 62; refine tn.mono ?_)
          first | (rintro e W9 rfl hs) | (rintro e W9 ⟨rfl, hs⟩)
          rw [hs.out]
          clear hs tn
          try dsimp only
          go_wp2
          refine bodyPost_ret (v := .tuple #[.slice none 0 0, .int .i64 0, .iface 109 (.int .i64 7)]) (by simp [results, Tryd.results38, go_sem]) rfl ?_
          exact ⟨⟨none, 0, rfl, OwnL.nil⟩, HBV.out⟩
        · have hlt : j < J := by
            rcases Nat.lt_or_ge j J with h | h
            · exact h
            · obtain rfl : j = J := by omega
              cases EE.out with
              | done h => rw [OJ.out] at h; omega
              | budget _ _ h => rw [KJ.out] at h; exact absurd h hk4
          have hvv := HV.out
          have ty := takeI_yes tkV (by omega) (by omega) (by omega) NT.out LL.out.1 LL.out.2
          have hdd3 : dg a b kj = -1 ∨ dg a b kj = 0 ∨ dg a b kj = 1 := by have := HD.out kj; omega
          obtain ⟨d, hdd⟩ : ∃ d, dg a b kj = d := ⟨_, rfl⟩
          have hak := AK.out hK'
          have nx := NX.out
          rw [hdd] at hak nx ty hdd3
          rw [show nxF ⟨1, D, P, Q, R⟩ d = nxF ⟨1, 0, P, Q, R⟩ d from rfl] at hak nx
          have HAK := Lib.hid hak
          have HNX := Lib.hid nx
          have HY := Lib.hid y
          have ek : IntKind.i64.wrap ((kj : Int) + 1) = (kj : Int) + 1 := by rw [IntKind.wrap_i64]; omega
          clear b2 b3 hBV k0 tkV hak nx hdd y
          go_wp2_with (go_at_call 62; refine ty.mono ?_)
          first | (rintro e W9 rfl ⟨tk9, to9⟩) | (rintro e W9 ⟨rfl, tk9, to9⟩)
          try dsimp only
          have hm3 : m ≤ V.heap.size := by have := HZ.out; omega
          have hb9 : Below m w0 W9 := HBV.out.trans (to9.bel m NT.out.1 NT.out.2 hm3)
          have hzz := (to9.bel 0 (Nat.zero_le _) (Nat.zero_le _) (Nat.zero_le _)).size
          have y9 : W9.heap[W2.heap.size]? = _ := (to9.rest _ (by have := HZ.out; omega) (by have := HZ.out; omega) (by have := HZ.out; omega)).trans HY.out
          have x9 : W9.heap[w.heap.size]? = _ := (to9.rest _ (by have := HZ.out; omega) (by omega) (by omega)).trans HXV.out
          have o9 := row_took HOV.out to9 (by omega) (by omega)
          have c0 : W9.cell? ⟨W2.heap.size, 0, none⟩ = some (.int .i16 P) := by rw [Lib.cell_of_heap y9]; rfl
          have c1 : W9.cell? ⟨W2.heap.size, 1, none⟩ = some (.int .i16 Q) := by rw [Lib.cell_of_heap y9]; rfl
          have c2 : W9.cell? ⟨W2.heap.size, 2, none⟩ = some (.int .i16 R) := by rw [Lib.cell_of_heap y9]; rfl
          have bq := behQ P Q R d hdd3 W9
          have hm9 : m ≤ W9.heap.size ∧ w.heap.size + 1 ≤ W9.heap.size := by have := HZ.out; omega
          have H9 := Lib.hid (And.intro hb9 (And.intro x9 (And.intro o9 tk9)))
          have HM9 := Lib.hid hm9
          clear y9 x9 o9 tk9 to9 hb9 hzz hm9 ty
          go_wp2_with (go_at_call 61; refine bq.mono ?_)
          first | (rintro e W10 rfl b10) | (rintro e W10 ⟨rfl, b10⟩)
          try dsimp only
          have F := Lib.hid (show w.heap.size + 1 ≤ W10.heap.size ∧ Below m w0 W10 ∧ Tk W10 ns nt np a b v0 v1 (kj + 1) ∧ W10.heap[w.heap.size]? = some (.cells #[.slice s mm cp] 34 (0, 0)) from ⟨by have := b10.size; have := HM9.out; omega, H9.out.1.trans (b10.mono HM9.out.1), H9.out.2.2.2.keep b10, at_keep H9.out.2.1 b10⟩)
          have HO := Lib.hid (row_underN (k := 0) H9.out.2.2.1 b10)
          clear b10 bq c0 c1 c2
          go_wp2
          exact ⟨⟨j + 1, by omega, by rw [HAK.out]; rfl, by rw [HAK.out]; show Value.int .i16 _ = Value.int .i16 ((nxF ⟨1, 0, P, Q, R⟩ d).toNat : Int); rw [Int.toNat_of_nonneg HNX.out.1], by rw [HAK.out]; exact HO.out, F.out.1, F.out.2.1, by rw [HAK.out]; exact F.out.2.2.1, F.out.2.2.2⟩, by rw [show lenOf (Value.slice su oj.length cu) = oj.length from rfl]; simp [RowKit.intOf]; omega⟩
      · rw [show qV ⟨2, D, P, Q, R⟩ = .iface 112 (.agg #[.int .i8 D, .int .i16 P]) from rfl] at hat
        have tb := tB D P
        have tc := tC D P
        have hlt : j < J := by
          rcases Nat.lt_or_ge j J with h | h
          · exact h
          · obtain rfl : j = J := by omega
            cases EE.out with
            | done h => rw [OJ.out] at h; omega
            | budget _ h _ => exact absurd KD.out h
        have htl := TL.out KD.out
        have HTL := Lib.hid htl
        have nP := NX.out.2.2.1
        clear htl
        go_wp2_with (go_at_call 60; refine hat.mono ?_)
        first | (rintro e W2 rfl b2) | (rintro e W2 ⟨rfl, b2⟩)
        try dsimp only
        obtain ⟨V, hV, hBV, y⟩ := boxN W2 #[.int .i8 D, .int .i16 P] 112
        have b3 := b2.trans (hBV.mono b2.size)
        have c0 : V.cell? ⟨W2.heap.size, 0, none⟩ = some (.int .i8 D) := by rw [Lib.cell_of_heap y]; rfl
        have c1 : V.cell? ⟨W2.heap.size, 1, none⟩ = some (.int .i16 P) := by rw [Lib.cell_of_heap y]; rfl
        have hown := row_underN (k := 0) HOW.out b3
        have hsz2 : w.heap.size + 1 ≤ V.heap.size := by have := b3.size; omega
        obtain ⟨zs, hzs⟩ : ∃ y, oj.map (Value.int .i8) = y := ⟨_, rfl⟩
        rw [hzs] at hown
        have HZS := Lib.hid hzs
        have HY := Lib.hid y
        have hmr : m ≤ wr.heap.size := by omega
        have FV := Lib.hid (show Below m w0 V ∧ Tk V ns nt np a b v0 v1 kj ∧ V.heap[w.heap.size]? = some (.cells #[.slice s mm cp] 34 (0, 0)) from ⟨HBB.out.trans (b3.mono hmr), HTK.out.keep b3, at_keep HXB.out b3⟩)
        clear hzs b2 b3 hBV y hat
        go_wp2_with (at_builtin; refine wpList_append_own _ rfl _ _ 25 rfl (w.heap.size + 1) 75 i0 (.int .i8 0) 1 1 Tryd.underlying25 ha ha0 ha1 ha2 rfl (by decide) _ _ _ rfl (hown.alloc _) ⟨V.heap.size, 0, none⟩ 1 1 [.int .i8 D] rfl rfl ?c1 ?c2 ?c3 ?c4 ?c5 ?_)
        case c1 => exact new1 _ _ _
        case c2 => simp [Value.oneCell']
        case c3 => unfold maxLen; omega
        case c4 => omega
        case c5 => simp; omega
        intro v' w1 hown' hgrow _
        have hbg : Below (w.heap.size + 1) V w1 := own_grow (B := w.heap.size + 1) hown (Below.refl _ _) hsz2 hgrow
        have HO9 := Lib.hid (show w1.ownsRow (w.heap.size + 1) 75 1 v' (oj ++ [D]).length ((oj ++ [D]).map (Value.int .i8)) by rw [List.map_append, HZS.out, List.length_append]; exact hown')
        obtain ⟨sv, cv, rfl⟩ := own_formN hown'
        have hne : (Value.slice su oj.length cu).ownBlock ≠ some W2.heap.size := by
          intro e
          rcases hown.2 with ⟨h, _⟩ | ⟨g, cap, cur, h, _, h3, _⟩
          · rw [h] at e; cases e
          · rw [h] at e
            have e2 : g = W2.heap.size := by cases e; rfl
            subst e2
            rw [HY.out] at h3
            cases h3
        have y1 : w1.heap[W2.heap.size]? = _ := (hgrow.block _ (by simp; have := heap_lt HY.out; omega) (fun e => hne e.symm)).trans (at_keep HY.out ((Below.refl _ _).alloc (Nat.le_refl _) _))
        have c1 : w1.cell? ⟨W2.heap.size, 1, none⟩ = some (.int .i16 P) := by rw [Lib.cell_of_heap y1]; rfl
        have F := Lib.hid (show w.heap.size + 1 ≤ w1.heap.size ∧ Below m w0 w1 ∧ Tk w1 ns nt np a b v0 v1 kj ∧ w1.heap[w.heap.size]? = some (.cells #[.slice s mm cp] 34 (0, 0)) from ⟨by have := hbg.size; omega, FV.out.1.trans (hbg.mono (by omega)), Tk.under9 FV.out.2.1 hbg (by omega) (by omega) LL.out.1 LL.out.2 (by omega), (hbg.block _ (by omega)).trans FV.out.2.2⟩)
        clear hown' hgrow hown hbg y1 hne
        go_wp2
        exact ⟨⟨j + 1, by omega, by rw [HTL.out], by rw [HTL.out]; show Value.int .i16 P = Value.int .i16 (P.toNat : Int); rw [Int.toNat_of_nonneg nP], by rw [HTL.out]; exact HO9.out, F.out.1, F.out.2.1, by rw [HTL.out]; exact F.out.2.2.1, F.out.2.2.2⟩, by rw [show lenOf (Value.slice sv (oj.length + 1) cv) = oj.length + 1 from rfl, show lenOf (Value.slice su oj.length cu) = oj.length from rfl]; simp [RowKit.intOf]; omega⟩
    · have hres : l = oj ∧ x = kj ∧ c = 0 := by
        rcases Nat.lt_or_ge j J with h | h
        · have := (SS.out j h).t
          rw [OJ.out] at this
          omega
        · obtain rfl : j = J := by omega
          cases EE.out with
          | done h => exact ⟨OJ.out, by rw [KJ.out], rfl⟩
          | budget h _ _ => rw [OJ.out] at h; omega
      obtain ⟨rfl, rfl, rfl⟩ := hres
      have g1 : ¬ (l.length : Int) < n := by omega
      have OW := Lib.hid ((OwnL.of_row (K := .i8) HOW.out rfl rfl).mono (Nat.le_succ _))
      clear hat k0
      go_wp2
      refine bodyPost_ret (v := .tuple #[.slice su l.length cu, .int .i64 kj, .nilIface]) (by simp [results, Tryd.results38, go_sem]) rfl ?_
      exact ⟨⟨su, cu, rfl, OW.out⟩, HBB.out⟩
end Go.Proofs.YtingfbohkchgbaaDoor.Sx
