/-
  Machines, by the model: the run.
-/
import Derived.Test.YteemkophifcimaaK5
import Derived.WalkSpells
import Derived.Deep.DeepCutAuto
namespace Go.Proofs.Yteemkophifcimaa.Sx
open Go Go.RowKit
set_option linter.unusedVariables false
set_option linter.unusedSimpArgs false

/-- A block holds a turn. -/
def T6 (w : World) (b : Nat) (x y p q r s : Value) : Prop := w.heap[b]? = some (.cells #[x, y, p, q, r, s] 60 (0, 0))
theorem T6.keep {w w' : World} {b : Nat} {x y p q r s : Value} (h : T6 w b x y p q r s) (hB : Below w.heap.size w w') : T6 w' b x y p q r s := at_keep h hB
theorem T6.lt {w : World} {b : Nat} {x y p q r s : Value} (h : T6 w b x y p q r s) : b < w.heap.size := heap_lt h
theorem T6.c {w : World} {b : Nat} {x y p q r s : Value} (h : T6 w b x y p q r s) : w.cell? ⟨b, 0, none⟩ = some x ∧ w.cell? ⟨b, 1, none⟩ = some y ∧ w.cell? ⟨b, 2, none⟩ = some p ∧ w.cell? ⟨b, 3, none⟩ = some q ∧ w.cell? ⟨b, 4, none⟩ = some r ∧ w.cell? ⟨b, 5, none⟩ = some s := by
  refine ⟨?_, ?_, ?_, ?_, ?_, ?_⟩ <;> (rw [Lib.cell_of_heap (show w.heap[b]? = _ from h)]; rfl)
theorem T6.f {w : World} {b : Nat} {x y p q r s : Value} (h : T6 w b x y p q r s) (i : Nat) : w.frozen? ⟨b, i, none⟩ = false := Lib.frozen_of_heap (show w.heap[b]? = _ from h) _
/-- One block alone is written. -/
structure Only (w w' : World) (b : Nat) : Prop where
  mk ::
  bel : ∀ n, n ≤ b → Below n w w'
  rest : ∀ k, k ≠ b → w'.heap[k]? = w.heap[k]?
  siz : w'.heap.size = w.heap.size
theorem T6.digit {w : World} {b : Nat} {x y p q r s : Value} (h : T6 w b x y p q r s) (v : Value) : ∃ W, w.setCell ⟨b, 1, none⟩ v = W ∧ T6 W b x v p q r s ∧ Only w W b := by
  refine ⟨_, rfl, ?_, fun n hn => (Below.refl _ _).setCell (p := ⟨b, 1, none⟩) hn _, fun k hk => heap_setCell_other _ _ _ _ hk, by simp [World.setCell]⟩
  show _ = _
  rw [heap_setCell_same _ _ _ _ _ _ h]; rfl
theorem T6.state {w : World} {b : Nat} {x y p q r s : Value} (h : T6 w b x y p q r s) (p' q' r' s' : Value) : ∃ W, ((((w.setCell ⟨b, 2, none⟩ p').setCell ⟨b, 3, none⟩ q').setCell ⟨b, 4, none⟩ r').setCell ⟨b, 5, none⟩ s') = W ∧ T6 W b x y p' q' r' s' ∧ Only w W b := by
  refine ⟨_, rfl, ?_, fun n hn => (((((Below.refl _ _).setCell (p := ⟨b, 2, none⟩) hn _).setCell (p := ⟨b, 3, none⟩) hn _).setCell (p := ⟨b, 4, none⟩) hn _).setCell (p := ⟨b, 5, none⟩) hn _), fun k hk => ?_, by simp [World.setCell]⟩
  · show _ = _
    rw [heap_setCell_same _ _ _ _ _ _ (heap_setCell_same _ _ _ _ _ _ (heap_setCell_same _ _ _ _ _ _ (heap_setCell_same _ _ _ _ _ _ h)))]; rfl
  · rw [heap_setCell_other _ _ _ _ hk, heap_setCell_other _ _ _ _ hk, heap_setCell_other _ _ _ _ hk, heap_setCell_other _ _ _ _ hk]
theorem BM.store {w : World} {b : Nat} {A B C D : Int} (h : BM w b A B C D) (A' B' C' D' : Int) : ∃ W, ((((w.setCell ⟨b, 0, none⟩ (.int .i64 A')).setCell ⟨b, 1, none⟩ (.int .i64 B')).setCell ⟨b, 2, none⟩ (.int .i64 C')).setCell ⟨b, 3, none⟩ (.int .i64 D')) = W ∧ BM W b A' B' C' D' ∧ Only w W b := by
  obtain ⟨W, h1, h2, h3, h4, h5⟩ := storedM h A' B' C' D'
  exact ⟨W, h1, h2, h3, h4, h5⟩
theorem BM.only {w w' : World} {b c : Nat} {A B C D : Int} (h : BM w b A B C D) (o : Only w w' c) (hne : b ≠ c) : BM w' b A B C D := (o.rest b hne).trans h
theorem T6.only {w w' : World} {b c : Nat} {x y p q r s : Value} (h : T6 w b x y p q r s) (o : Only w w' c) (hne : b ≠ c) : T6 w' b x y p q r s := (o.rest b hne).trans h
theorem row_only {w w' : World} {B n s c : Nat} {e : TypeId} {v : Value} {xs : List Value} (h : w.ownsRow B e s v n xs) (o : Only w w' c) (hne : v.ownBlock ≠ some c) : w'.ownsRow B e s v n xs := by
  obtain ⟨h1, h2 | ⟨g, cap, cur, h2, h3, h4, h5⟩⟩ := h
  · exact ⟨h1, .inl h2⟩
  · exact ⟨h1, .inr ⟨g, cap, cur, h2, h3, (o.rest g (fun e => hne (by rw [h2, e]; rfl))).trans h4, h5⟩⟩
theorem row_neM {w : World} {B n c : Nat} {v : Value} {xs : List Value} {P Q R S : Int} (h : w.ownsRow B 60 6 v n xs) (x : BM w c P Q R S) : v.ownBlock ≠ some c := by
  intro e
  obtain ⟨h1, ⟨rfl, _⟩ | ⟨g, cap, cur, rfl, h3, h4, h5⟩⟩ := h
  · cases e
  · obtain rfl : g = c := by simpa [Value.ownBlock] using e
    rw [show w.heap[g]? = _ from x] at h4
    simp at h4
theorem row_neT {w w' : World} {B n c : Nat} {v : Value} {xs : List Value} (h : w.ownsRow B 60 6 v n xs) (hc : w.heap.size ≤ c) : v.ownBlock ≠ some c := by
  intro e
  have := (h.lt c e).2
  omega
theorem T6.all {w : World} {b : Nat} {x y p q r s : Value} (h : T6 w b x y p q r s) (x' y' p' q' r' s' : Value) : ∃ W, ((((((w.setCell ⟨b, 0, none⟩ x').setCell ⟨b, 1, none⟩ y').setCell ⟨b, 2, none⟩ p').setCell ⟨b, 3, none⟩ q').setCell ⟨b, 4, none⟩ r').setCell ⟨b, 5, none⟩ s') = W ∧ T6 W b x' y' p' q' r' s' ∧ Only w W b := by
  refine ⟨_, rfl, ?_, fun n hn => (((((((Below.refl _ _).setCell (p := ⟨b, 0, none⟩) hn _).setCell (p := ⟨b, 1, none⟩) hn _).setCell (p := ⟨b, 2, none⟩) hn _).setCell (p := ⟨b, 3, none⟩) hn _).setCell (p := ⟨b, 4, none⟩) hn _).setCell (p := ⟨b, 5, none⟩) hn _), fun k hk => ?_, by simp [World.setCell]⟩
  · show _ = _
    rw [heap_setCell_same _ _ _ _ _ _ (heap_setCell_same _ _ _ _ _ _ (heap_setCell_same _ _ _ _ _ _ (heap_setCell_same _ _ _ _ _ _ (heap_setCell_same _ _ _ _ _ _ (heap_setCell_same _ _ _ _ _ _ h)))))]; rfl
  · rw [heap_setCell_other _ _ _ _ hk, heap_setCell_other _ _ _ _ hk, heap_setCell_other _ _ _ _ hk, heap_setCell_other _ _ _ _ hk, heap_setCell_other _ _ _ _ hk, heap_setCell_other _ _ _ _ hk]
/-- A row of turns and a code are given. -/
structure GaveR (w w' : World) (xs : List Value) (n : Nat) (c : Int) (e : Ending) : Prop where
  mk ::
  here : ∃ s k, e = .returned (.tuple #[.slice s n k, .int .i64 c]) ∧ w'.ownsRow w.heap.size 60 6 (.slice s n k) n xs
  below : Below w.heap.size w w'
theorem infoTurn : (Try.prog.info? 60).map (fun i => (i.zero, i.size, i.bytes)) = some (some (.agg #[.bool false, .int .i8 0, .int .i64 0, .int .i64 0, .int .i64 0, .int .i64 0]), 6, 40) := by kernel_rfl
theorem mulE {E x : Int} (hE : -1 ≤ E ∧ E ≤ 1) (hx : -288230376151711744 ≤ x ∧ x ≤ 288230376151711744) : -288230376151711744 ≤ E * x ∧ E * x ≤ 288230376151711744 := by
  have : E = -1 ∨ E = 0 ∨ E = 1 := by omega
  rcases this with rfl | rfl | rfl <;> omega
theorem w8 {E : Int} (hE : -1 ≤ E ∧ E ≤ 1) : IntKind.i8.wrap E = E := by
  have : E = -1 ∨ E = 0 ∨ E = 1 := by omega
  rcases this with rfl | rfl | rfl <;> rfl
theorem run_ok {a b : List Int} {m0 : Mo} {n : Nat} (h0 : okM (red m0).A (red m0).B (red m0).C (red m0).D) : ∀ {j : Nat}, (∀ i, i < j → OkAt a b m0 n i) → okM (runM a b m0 j).m.A (runM a b m0 j).m.B (runM a b m0 j).m.C (runM a b m0 j).m.D
  | 0, _ => h0
  | j + 1, h => fitM_iff.1 (h j (by omega)).f
theorem red_okM {A B C D : Int} (hp : posM ⟨A, B, C, D⟩) (h0 : -1000000 ≤ A ∧ A ≤ 1000000) (h1 : -1000000 ≤ B ∧ B ≤ 1000000) (h2 : -1000000 ≤ C ∧ C ≤ 1000000) (h3 : -1000000 ≤ D ∧ D ≤ 1000000) : okM (red ⟨A, B, C, D⟩).A (red ⟨A, B, C, D⟩).B (red ⟨A, B, C, D⟩).C (red ⟨A, B, C, D⟩).D := by
  obtain ⟨⟨_, k0⟩, ⟨_, k1⟩, ⟨_, k2⟩, ⟨_, k3⟩⟩ := red_spec hp
  unfold okM
  simp only at k0 k1 k2 k3
  omega
/-- What ends the run at turn k. -/
theorem EndM.at_done {a b : List Int} {m0 : Mo} {n J L : Nat} {c : Int} (hE : EndM a b m0 n J L c) (h : (runM a b m0 J).t = n) : L = J ∧ c = 0 := by
  cases hE with
  | done _ => exact ⟨rfl, rfl⟩
  | budget h1 _ _ => omega
  | limit h1 _ _ => omega
theorem EndM.at_budget {a b : List Int} {m0 : Mo} {n J L : Nat} {c : Int} (hE : EndM a b m0 n J L c) (h : (runM a b m0 J).t < n) (h1 : hasM (runM a b m0 J).m = false) (h2 : (runM a b m0 J).k = 400) : L = 0 ∧ c = 7 := by
  cases hE with
  | done h3 => omega
  | budget _ _ _ => exact ⟨rfl, rfl⟩
  | limit _ h4 _ => rcases h4 with h4 | h4 <;> first | omega | (rw [h1] at h4; cases h4)
theorem EndM.at_limit {a b : List Int} {m0 : Mo} {n J L : Nat} {c : Int} (hE : EndM a b m0 n J L c) (h : (runM a b m0 J).t < n) (h1 : hasM (runM a b m0 J).m = true ∨ (runM a b m0 J).k < 400) (h2 : fitM 288230376151711744 (runM a b m0 (J + 1)).m = false) : L = 0 ∧ c = 3 := by
  cases hE with
  | done h3 => omega
  | budget _ h3 h4 => rcases h1 with h1 | h1 <;> first | omega | (rw [h3] at h1; cases h1)
  | limit _ _ _ => exact ⟨rfl, rfl⟩
theorem EndM.goes {a b : List Int} {m0 : Mo} {n J L k : Nat} {c : Int} (hE : EndM a b m0 n J L c) (hk : k ≤ J) (h : (runM a b m0 k).t < n) (h1 : hasM (runM a b m0 k).m = true ∨ (runM a b m0 k).k < 400) (h2 : fitM 288230376151711744 (runM a b m0 (k + 1)).m = true) : k < J := by
  rcases Nat.lt_or_eq_of_le hk with h3 | rfl
  · exact h3
  · exfalso
    cases hE with
    | done h3 => omega
    | budget _ h3 h4 => rcases h1 with h1 | h1 <;> first | omega | (rw [h3] at h1; cases h1)
    | limit _ _ h3 => rw [h2] at h3; cases h3
set_option maxRecDepth 1000000 in
set_option maxHeartbeats 16000000 in
theorem runS {w : World} {bm bs n : Nat} {A B C D : Int} {a b : List Int} {v0 v1 : Value} {J L : Nat} {c : Int} (x : BM w bm A B C D) (h : Here w bs a b v0 v1) (hp : posM ⟨A, B, C, D⟩) (h0 : -1000000 ≤ A ∧ A ≤ 1000000) (h1 : -1000000 ≤ B ∧ B ≤ 1000000) (h2 : -1000000 ≤ C ∧ C ≤ 1000000) (h3 : -1000000 ≤ D ∧ D ≤ 1000000)
    (la : a.length ≤ 16) (lb : 1 ≤ b.length ∧ b.length ≤ 14) (hd : ∀ n, -1 ≤ dg a b n ∧ dg a b n ≤ 1) (hn : n ≤ 60) (hSt : ∀ i, i < J → OkAt a b ⟨A, B, C, D⟩ n i) (hJ : J ≤ n + 400) (hE : EndM a b ⟨A, B, C, D⟩ n J L c) :
    Calls Try.prog 52 #[.pointer (some ⟨bm, 0, none⟩), .pointer (some ⟨bs, 0, none⟩), .int .i64 n] w fun e w' => GaveR w w' (trL a b ⟨A, B, C, D⟩ L) L c e := by
  obtain ⟨W, hW, bW, r0⟩ : ∃ W, w.alloc (.cells #[] 60) = W ∧ Below w.heap.size w W ∧ W.ownsRow w.heap.size 60 6 (.slice (some ⟨w.heap.size, 0, none⟩) 0 0) 0 [] := ⟨_, rfl, (Below.refl _ _).alloc (Nat.le_refl _) _, World.ownsRow_made w #[] 0 (Nat.le_refl _) (by decide) rfl⟩
  have ls := lessS A B C D W hp (by omega) (by omega) (by omega) (by omega)
  have x := x.keep bW
  obtain ⟨c0, c1, c2, c3⟩ := x.c
  have HH0 := Lib.hid h
  have HO := Lib.hid (red_okM hp h0 h1 h2 h3)
  have HST := Lib.hid hSt
  have HE := Lib.hid hE
  have HD := Lib.hid hd
  have HPOS := Lib.hid (runM_pos (a := a) (b := b) hp hd)
  have HBW := Lib.hid bW
  have HR0 := Lib.hid r0
  obtain ⟨m0, hm0⟩ : ∃ m : Mo, m = ⟨A, B, C, D⟩ := ⟨_, rfl⟩
  have HM0 := Lib.hid hm0
  rw [← hm0] at HO HST HE HPOS ls ⊢
  have hr0 : runM a b m0 0 = ⟨red m0, 0, 0⟩ := rfl
  obtain ⟨A0, B0, C0, D0, hred⟩ : ∃ A' B' C' D', red m0 = ⟨A', B', C', D'⟩ := ⟨_, _, _, _, rfl⟩
  rw [hred] at hr0 ls
  have HR00 := Lib.hid hr0
  have AT := Lib.hid fun W' (hb : Below w.heap.size w W') k (hk : k ≤ 1048576) => ats (h.keep hb) (by omega) (by omega) lb.1 hk
  clear x h hp h0 h1 h2 h3 hSt hE hd r0 bW hm0 hr0
  go_enter Try.func52, Try.ntmps52
  go_wp2_with (go_at_call 73; refine ls.mono ?_)
  first | (rintro e W1 ⟨rfl, b1⟩; have zzW1 := b1.size) | (rintro e W1 rfl b1; have zzW1 := b1.size)
  try dsimp only
  obtain ⟨V, hV, bV, x1⟩ := boxM W1 A0 B0 C0 D0
  have bb := HBW.out.trans ((b1.trans (bV.mono b1.size)).mono HBW.out.size)
  have row := row_underN (k := 0) (row_underN (k := 0) HR0.out b1) bV
  obtain ⟨nb, hnb⟩ : ∃ nb, W1.heap.size = nb := ⟨_, rfl⟩
  rw [hnb] at x1
  have NB := Lib.hid (show w.heap.size < nb from by rw [← hnb]; have := b1.size; rw [← hW] at this; simp at this; omega)
  have HNB := Lib.hid hnb
  clear b1 bV ls c0 c1 c2 c3 HBW HR0
  go_wp2
  clear hnb zzW1
  go_loopw [8, 10, 11, 12, 13, 14, 15] (fun out told taken e ok turn d wr => ∃ (k t q : Nat) (P Q R S : Int), k ≤ J ∧ runM a b m0 k = ⟨⟨P, Q, R, S⟩, t, q⟩ ∧ told = .int .i64 t ∧ taken = .int .i64 q ∧ wr.ownsRow w.heap.size 60 6 out k (trL a b m0 k) ∧ BM wr nb P Q R S ∧ Below w.heap.size w wr) (fun _ told taken _ _ _ _ _ => n + 401 - ((RowKit.intOf told).toNat + (RowKit.intOf taken).toNat))
  case atStart => exact ⟨0, 0, 0, A0, B0, C0, D0, Nat.zero_le _, HR00.out, rfl, rfl, row, x1, bb⟩
  case round =>
    obtain ⟨k, t, q, P, Q, R, S, hk, hst, rfl, rfl, hrow, hx, hbb⟩ := hrel
    obtain ⟨so, co, rfl⟩ := own_formN hrow
    have bds := runM_bd (a := a) (b := b) (m0 := m0) (n := n) (j := k) fun i hi => HST.out i (by omega)
    rw [hst] at bds
    simp only at bds
    obtain ⟨bt, bq, bk⟩ := bds
    have ok := run_ok (a := a) (b := b) (m0 := m0) (n := n) HO.out (j := k) fun i hi => HST.out i (by omega)
    rw [hst] at ok
    simp only at ok
    have pos := HPOS.out k
    rw [hst] at pos
    simp only at pos
    have HS0 := Lib.hid hst
    clear hst row x1 bb
    by_cases htn : t < n
    · have td := toldS hx ok
      have HX := Lib.hid hx
      have HR := Lib.hid hrow
      have HB := Lib.hid hbb
      have hbd := digM_bd ⟨P, Q, R, S⟩
      obtain ⟨E, hEd⟩ : ∃ E, digM ⟨P, Q, R, S⟩ = E := ⟨_, rfl⟩
      rw [hEd] at td hbd
      obtain ⟨hs, hhs⟩ : ∃ x, hasM ⟨P, Q, R, S⟩ = x := ⟨_, rfl⟩
      rw [hhs] at td
      have HH := Lib.hid hhs
      have HED := Lib.hid hEd
      obtain ⟨o0, o1, o2, o3⟩ := ok
      clear hx hrow hbb hhs hEd
      go_wp2_with (go_at_call 74; refine td.mono ?_)
      first | (rintro e W2 ⟨rfl, b2⟩; have zzW2 := b2.size) | (rintro e W2 rfl b2; have zzW2 := b2.size)
      try dsimp only
      obtain ⟨V1, hV1, bV1, t1⟩ := boxN W2 #[.bool false, .int .i8 0, .int .i64 0, .int .i64 0, .int .i64 0, .int .i64 0] 60
      have t1 : T6 V1 W2.heap.size _ _ _ _ _ _ := t1
      obtain ⟨V2, hV2, t2, ov⟩ := t1.all (.bool hs) (.int .i8 0) (.int .i64 0) (.int .i64 0) (.int .i64 0) (.int .i64 0)
      have bb2 := b2.trans ((bV1.trans (ov.bel _ (Nat.le_refl _))).mono b2.size)
      have x2 := HX.out.keep bb2
      have row2 := row_underN (k := 0) HR.out bb2
      have bw2 := HB.out.trans (bb2.mono HB.out.size)
      have HBB := Lib.hid (show w.heap.size ≤ W2.heap.size from Nat.le_trans HB.out.size b2.size)
      have NT := Lib.hid (show nb ≠ W2.heap.size from by have := HX.out.lt; have := b2.size; omega)
      have NR := Lib.hid (show ∀ (W' : World), ∀ (h : W'.ownsRow w.heap.size 60 6 (.slice so k co) k (trL a b m0 k)), (Value.slice so k co).ownBlock ≠ some W2.heap.size from fun W' h e => by have := (HR.out.lt _ e).2; have := b2.size; omega)
      obtain ⟨i0, i1, i2, i3, i4, i5⟩ := t1.c
      have j0 := t1.f 0
      have j1 := t1.f 1
      have j2 := t1.f 2
      have j3 := t1.f 3
      have j4 := t1.f 4
      have j5 := t1.f 5
      clear bV1 ov t1
      clear td b2 bb2 HX HR HB zzW2
      cases hs
      · -- a digit is taken
        have HTK := Lib.hid (show runM a b m0 (k + 1) = ⟨red (nxK ⟨P, Q, R, S⟩ (dg a b q)), t, q + 1⟩ from by
          show stp a b (runM a b m0 k) = _
          rw [HS0.out]; unfold stp; rw [if_neg (by simp [HH.out])])
        by_cases hq4 : q = 400
        · have hend : k = J := by
            rcases Nat.lt_or_eq_of_le hk with h3 | h3
            · have h4 := (HST.out k h3).k
              rw [HS0.out] at h4
              rcases h4 with h4 | h4
              · rw [HH.out] at h4; cases h4
              · simp only at h4; omega
            · exact h3
          subst hend
          obtain ⟨rfl, rfl⟩ := HE.out.at_budget (by rw [HS0.out]; exact htn) (by rw [HS0.out]; exact HH.out) (by rw [HS0.out]; exact hq4)
          subst hq4
          have BW2 := Lib.hid bw2
          clear x2 t2 row2 bw2
          go_wp2
          refine bodyPost_ret (v := .tuple #[.slice (some ⟨V2.heap.size, 0, none⟩) 0 0, .int .i64 7]) (by simp [results, Try.results52, go_sem]) rfl ?_
          exact ⟨⟨_, _, rfl, World.ownsRow_made V2 #[] 0 BW2.out.size (by decide) rfl⟩, BW2.out.alloc BW2.out.size _⟩
        · have hq4' : q < 400 := by omega
          have qb : ((q : Int) == 400) = false := by rw [beq_eq_false_iff_ne]; omega
          have at1 := AT.out V2 bw2 q (by omega)
          obtain ⟨d, hdd⟩ : ∃ d, dg a b q = d := ⟨_, rfl⟩
          have hdb := HD.out q
          rw [hdd] at at1 hdb HTK
          have HTD := Lib.hid (show tdM a b m0 k = d from by unfold tdM; rw [HS0.out]; rw [if_neg (by simp [HH.out])]; exact hdd)
          have m1 := mulE hdb o0
          have m2 := mulE hdb o2
          rw [Int.mul_comm] at m1 m2
          obtain ⟨pd, hpd⟩ : ∃ x, P * d = x := ⟨_, rfl⟩
          obtain ⟨rd, hrd⟩ : ∃ x, R * d = x := ⟨_, rfl⟩
          rw [hpd] at m1
          rw [hrd] at m2
          have e1 : IntKind.i64.wrap (P * d) = pd := by rw [hpd, IntKind.wrap_i64]; omega
          have e2 : IntKind.i64.wrap (2 * Q) = 2 * Q := by rw [IntKind.wrap_i64]; omega
          have e3 : IntKind.i64.wrap (pd + 2 * Q) = pd + 2 * Q := by rw [IntKind.wrap_i64]; omega
          have e4 : IntKind.i64.wrap (R * d) = rd := by rw [hrd, IntKind.wrap_i64]; omega
          have e5 : IntKind.i64.wrap (2 * S) = 2 * S := by rw [IntKind.wrap_i64]; omega
          have e6 : IntKind.i64.wrap (rd + 2 * S) = rd + 2 * S := by rw [IntKind.wrap_i64]; omega
          have e7 : IntKind.i64.wrap ((q : Int) + 1) = (q : Int) + 1 := by rw [IntKind.wrap_i64]; omega
          have e8 : IntKind.i64.wrap d = d := by rw [IntKind.wrap_i64]; omega
          have hpU : posM ⟨P, pd + 2 * Q, R, rd + 2 * S⟩ := by
            have := posM_K pos hdb
            unfold nxK at this
            simp only [hpd, hrd] at this
            exact this
          have HS1 := Lib.hid (show runM a b m0 (k + 1) = ⟨red ⟨P, pd + 2 * Q, R, rd + 2 * S⟩, t, q + 1⟩ from by
            rw [HTK.out]; unfold nxK; simp only [hpd, hrd])
          clear hpd hrd HTK
          have X2 := Lib.hid x2
          have T2 := Lib.hid t2
          have R2 := Lib.hid row2
          have B2 := Lib.hid bw2
          obtain ⟨y0, y1, y2, y3, y4, y5⟩ := t2.c
          clear x2 t2 row2 bw2 hdd
          go_wp2_with (go_at_call 75; refine at1.mono ?_)
          rintro e W3 ⟨rfl, b3⟩
          try dsimp only
          have x3 := X2.out.keep b3
          have t3 := T2.out.keep b3
          have row3 := row_underN (k := 0) R2.out b3
          have bw3 := B2.out.trans (b3.mono B2.out.size)
          obtain ⟨W4, hW4, t4, o4⟩ := t3.digit (.int .i8 d)
          have x4 := x3.only o4 NT.out
          have row4 := row_only row3 o4 (NR.out _ row3)
          have bw4 := bw3.trans (o4.bel _ (by have := NB.out; have := T2.out.lt; have := X2.out.lt; have hh := (HBB.out); omega))
          obtain ⟨WN, hWN, xN, oN⟩ := x4.store P (pd + 2 * Q) R (rd + 2 * S)
          have tN := t4.only oN NT.out.symm
          have rowN := row_only row4 oN (row_neM row4 x4)
          have bN := bw4.trans (oN.bel _ (Nat.le_of_lt NB.out))
          obtain ⟨y0, y1, y2, y3, y4, y5⟩ := t3.c
          have yf := t3.f 1
          obtain ⟨g0, g1, g2, g3, g4, g5⟩ := t4.c
          obtain ⟨a0, a1, a2, a3⟩ := x4.c
          have f0 := x4.f 0
          have f1 := x4.f 1
          have f2 := x4.f 2
          have f3 := x4.f 3
          have bU1 : -900000000000000000 ≤ P ∧ P ≤ 900000000000000000 := by omega
          have bU2 : -900000000000000000 ≤ pd + 2 * Q ∧ pd + 2 * Q ≤ 900000000000000000 := by omega
          have bU3 : -900000000000000000 ≤ R ∧ R ≤ 900000000000000000 := by omega
          have bU4 : -900000000000000000 ≤ rd + 2 * S ∧ rd + 2 * S ≤ 900000000000000000 := by omega
          clear x3 t3 row3 bw3 o4 x4 t4 row4 bw4 oN at1 b3 X2 T2 R2 B2
          have ls := lessS P (pd + 2 * Q) R (rd + 2 * S) WN hpU bU1 bU2 bU3 bU4
          have HXN := Lib.hid xN
          have HTN := Lib.hid tN
          have HRN := Lib.hid rowN
          have HBN := Lib.hid bN
          obtain ⟨c0, c1, c2, c3⟩ := xN.c
          clear xN tN rowN bN
          go_wp2_with (go_at_call 73; refine ls.mono ?_)
          first | (rintro e W5 ⟨rfl, b5⟩; have zzW5 := b5.size) | (rintro e W5 rfl b5; have zzW5 := b5.size)
          try dsimp only
          have x5 := HXN.out.keep b5
          have t5 := HTN.out.keep b5
          have row5 := row_underN (k := 0) HRN.out b5
          have bb5 := HBN.out.trans (b5.mono HBN.out.size)
          have nt5 := NT.out
          have hs1 := HS1.out
          obtain ⟨A', B', C', D', hred⟩ : ∃ A' B' C' D', red ⟨P, (pd + 2 * Q), R, (rd + 2 * S)⟩ = ⟨A', B', C', D'⟩ := ⟨_, _, _, _, rfl⟩
          rw [hred] at hs1 ⊢
          obtain ⟨W6, hW6, x6, o6⟩ := x5.store A' B' C' D'
          have t6 := t5.only o6 (fun e => nt5 e.symm)
          have row6 := row_only row5 o6 (row_neM row5 x5)
          have bb6 := bb5.trans (o6.bel _ (by have := NB.out; omega))
          have ft := fitsS x6 288230376151711744 (by omega) (by omega)
          obtain ⟨c0', c1', c2', c3'⟩ := x5.c
          have f0 := x5.f 0
          have f1 := x5.f 1
          have f2 := x5.f 2
          have f3 := x5.f 3
          have HX6 := Lib.hid x6
          have HT6 := Lib.hid t6
          have HR6 := Lib.hid row6
          have HB6 := Lib.hid bb6
          have HS1' := Lib.hid hs1
          obtain ⟨ft', hft⟩ : ∃ p, fitM 288230376151711744 ⟨A', B', C', D'⟩ = p := ⟨_, rfl⟩
          rw [hft] at ft
          have HFT := Lib.hid hft
          clear ls c0 c1 c2 c3 x5 t5 row5 bb5 x6 t6 row6 bb6 o6 b5 HXN HTN HRN HBN hs1 hft hred nt5
          try simp only at hW6
          go_wp2_with (go_at_call 76; refine ft.mono ?_)
          first | (rintro e W7 rfl hs) | (rintro e W7 ⟨rfl, hs⟩)
          try dsimp only
          obtain rfl := hs.out
          clear hs ft c0' c1' c2' c3' f0 f1 f2 f3
          obtain ⟨W6, hW6⟩ : ∃ W, W = W7 := ⟨_, rfl⟩
          subst hW6
          cases ft'
          · have hend : k = J := by
              rcases Nat.lt_or_eq_of_le hk with h3 | h3
              · have h4 := (HST.out k h3).f
                rw [HS1'.out] at h4
                rw [HFT.out] at h4
                cases h4
              · exact h3
            subst hend
            obtain ⟨rfl, rfl⟩ := HE.out.at_limit (by rw [HS0.out]; exact htn) (by rw [HS0.out]; exact .inr hq4') (by rw [HS1'.out]; exact HFT.out)
            go_wp2
            refine bodyPost_ret (v := .tuple #[.slice (some ⟨W6.heap.size, 0, none⟩) 0 0, .int .i64 3]) (by simp [results, Try.results52, go_sem]) rfl ?_
            exact ⟨⟨_, _, rfl, World.ownsRow_made W6 #[] 0 HB6.out.size (by decide) rfl⟩, HB6.out.alloc HB6.out.size _⟩
          · have hlt := HE.out.goes hk (by rw [HS0.out]; exact htn) (by rw [HS0.out]; exact .inr hq4') (by rw [HS1'.out]; exact HFT.out)
            obtain ⟨W8, hW8, t8, o8⟩ := HT6.out.state (.int .i64 A') (.int .i64 B') (.int .i64 C') (.int .i64 D')
            have nt5 := NT.out
            have x8 := HX6.out.only o8 nt5
            have row8 := row_only HR6.out o8 (NR.out _ HR6.out)
            have bb8 := HB6.out.trans (o8.bel _ HBB.out)
            obtain ⟨d0, d1, d2, d3⟩ := HX6.out.c
            obtain ⟨p0, p1, p2, p3, p4, p5⟩ := HT6.out.c
            have g2 := HT6.out.f 2
            have g3 := HT6.out.f 3
            have g4 := HT6.out.f 4
            have g5 := HT6.out.f 5
            obtain ⟨q0, q1, q2, q3, q4, q5⟩ := t8.c
            have HX8 := Lib.hid x8
            have HB8 := Lib.hid bb8
            have HR8 := Lib.hid row8
            have zb : w.heap.size ≤ W8.heap.size := bb8.size
            obtain ⟨XS, hXS⟩ : ∃ X, trL a b m0 k = X := ⟨_, rfl⟩
            rw [hXS] at row8
            have HXS := Lib.hid hXS
            obtain ⟨i6, ha, ha0, ha1, ha2⟩ := info_parts infoTurn
            clear x8 bb8 t8 o8 HX6 HT6 HR6 HB6 hXS nt5
            go_wp2_with (at_builtin; refine wpList_append_own _ rfl _ _ 41 rfl w.heap.size 60 i6 (.agg #[.bool false, .int .i8 0, .int .i64 0, .int .i64 0, .int .i64 0, .int .i64 0]) 6 40 Try.underlying41 ha ha0 ha1 ha2 rfl (by decide) _ _ _ rfl (row8.alloc _) ⟨W8.heap.size, 0, none⟩ 1 1 [.bool false, .int .i8 d, .int .i64 A', .int .i64 B', .int .i64 C', .int .i64 D'] rfl rfl ?s1 ?s2 ?s3 ?s4 ?s5 ?_)
            try (case s1 => exact newN _ _ _)
            case s2 => simp [Value.oneCell']
            case s3 => unfold maxLen; omega
            case s4 => omega
            case s5 => first | omega | (simp; omega)
            intro v' w9 hown9 hgrow _
            have hgrow : (W8.alloc (.cells #[.bool false, .int .i8 d, .int .i64 A', .int .i64 B', .int .i64 C', .int .i64 D'] 60)).grownBy w9 (Value.slice so k co).ownBlock := hgrow
            have bb9 := Lib.hid ((HB8.out.alloc HB8.out.size _).grown hgrow (by have := HB8.out.size; simp; omega) fun m hm => (row8.lt m hm).1)
            have x9 := Lib.hid (show BM w9 nb A' B' C' D' from (hgrow.block _ (by have := HX8.out.lt; simp; omega) (fun e => row_neM HR8.out HX8.out e.symm)).trans ((Below.heap_alloc _ _ _ HX8.out.lt).trans HX8.out))
            have row9 := Lib.hid (show w9.ownsRow w.heap.size 60 6 v' (k + 1) (trL a b m0 (k + 1)) from by
              show w9.ownsRow _ _ _ _ _ (trL a b m0 k ++ trC a b m0 k)
              rw [HXS.out]
              unfold trC
              have e1 := HTD.out
              have e2 : hasM (runM a b m0 k).m = false := by rw [HS0.out]; exact HH.out
              rw [e1, e2, HS1'.out]
              exact hown9)
            clear hown9 hgrow row8 hW8 d0 d1 d2 d3 p0 p1 p2 p3 p4 p5 g2 g3 g4 g5 q0 q1 q2 q3 q4 q5 HX8 HB8 HR8
            have N9 := Lib.hid (⟨k + 1, t, q + 1, A', B', C', D', hlt, HS1'.out⟩ : ∃ k' t' q' P' Q' R' S', k' ≤ J ∧ runM a b m0 k' = ⟨⟨P', Q', R', S'⟩, t', q'⟩)
            go_wp2
            go_roundw
            case rel => exact ⟨k + 1, t, q + 1, A', B', C', D', hlt, HS1'.out, by first | rfl | simp, by first | rfl | simp, row9.out, x9.out, bb9.out⟩
            case measure => simp [RowKit.intOf]; omega
      · -- a digit is told
        have HTK := Lib.hid (show runM a b m0 (k + 1) = ⟨red (nxT ⟨P, Q, R, S⟩ E), t + 1, q⟩ from by
          show stp a b (runM a b m0 k) = _
          rw [HS0.out]; unfold stp; rw [if_pos HH.out]; simp only [HED.out])
        have HTD := Lib.hid (show tdM a b m0 k = E from by unfold tdM; rw [HS0.out]; rw [if_pos HH.out]; exact HED.out)
        have m1 := mulE hbd o2
        have m2 := mulE hbd o3
        obtain ⟨er, her⟩ : ∃ x, E * R = x := ⟨_, rfl⟩
        obtain ⟨es, hes⟩ : ∃ x, E * S = x := ⟨_, rfl⟩
        rw [her] at m1
        rw [hes] at m2
        have e1 : IntKind.i64.wrap (E * R) = er := by rw [her, IntKind.wrap_i64]; omega
        have e2 : IntKind.i64.wrap (2 * P) = 2 * P := by rw [IntKind.wrap_i64]; omega
        have e3 : IntKind.i64.wrap (2 * P - er) = 2 * P - er := by rw [IntKind.wrap_i64]; omega
        have e4 : IntKind.i64.wrap (E * S) = es := by rw [hes, IntKind.wrap_i64]; omega
        have e5 : IntKind.i64.wrap (2 * Q) = 2 * Q := by rw [IntKind.wrap_i64]; omega
        have e6 : IntKind.i64.wrap (2 * Q - es) = 2 * Q - es := by rw [IntKind.wrap_i64]; omega
        have e7 : IntKind.i64.wrap ((t : Int) + 1) = (t : Int) + 1 := by rw [IntKind.wrap_i64]; omega
        have e8 : IntKind.i8.wrap E = E := w8 hbd
        have hpU : posM ⟨2 * P - er, 2 * Q - es, R, S⟩ := pos
        have HS1 := Lib.hid (show runM a b m0 (k + 1) = ⟨red ⟨2 * P - er, 2 * Q - es, R, S⟩, t + 1, q⟩ from by
          rw [HTK.out]; unfold nxT; simp only [her, hes])
        clear her hes HTK
        obtain ⟨W4, hW4, x4, o4⟩ := x2.store (2 * P - er) (2 * Q - es) R S
        have t4 := t2.only o4 NT.out.symm
        have row4 := row_only row2 o4 (row_neM row2 x2)
        have bw4 := bw2.trans (o4.bel _ (Nat.le_of_lt NB.out))
        obtain ⟨WN, hWN, tN, oN⟩ := t4.digit (.int .i8 E)
        have xN := x4.only oN NT.out
        have rowN := row_only row4 oN (NR.out _ row4)
        have bN := bw4.trans (oN.bel _ HBB.out)
        obtain ⟨y0, y1, y2, y3, y4, y5⟩ := t4.c
        have yf := t4.f 1
        obtain ⟨a0, a1, a2, a3⟩ := x2.c
        have f0 := x2.f 0
        have f1 := x2.f 1
        have f2 := x2.f 2
        have f3 := x2.f 3
        have bU1 : -900000000000000000 ≤ 2 * P - er ∧ 2 * P - er ≤ 900000000000000000 := by omega
        have bU2 : -900000000000000000 ≤ 2 * Q - es ∧ 2 * Q - es ≤ 900000000000000000 := by omega
        have bU3 : -900000000000000000 ≤ R ∧ R ≤ 900000000000000000 := by omega
        have bU4 : -900000000000000000 ≤ S ∧ S ≤ 900000000000000000 := by omega
        clear t2 row2 bw2 o4 x4 t4 row4 bw4 oN x2
        have ls := lessS (2 * P - er) (2 * Q - es) R S WN hpU bU1 bU2 bU3 bU4
        have HXN := Lib.hid xN
        have HTN := Lib.hid tN
        have HRN := Lib.hid rowN
        have HBN := Lib.hid bN
        obtain ⟨c0, c1, c2, c3⟩ := xN.c
        clear xN tN rowN bN
        go_wp2_with (go_at_call 73; refine ls.mono ?_)
        first | (rintro e W5 ⟨rfl, b5⟩; have zzW5 := b5.size) | (rintro e W5 rfl b5; have zzW5 := b5.size)
        try dsimp only
        have x5 := HXN.out.keep b5
        have t5 := HTN.out.keep b5
        have row5 := row_underN (k := 0) HRN.out b5
        have bb5 := HBN.out.trans (b5.mono HBN.out.size)
        have nt5 := NT.out
        have hs1 := HS1.out
        obtain ⟨A', B', C', D', hred⟩ : ∃ A' B' C' D', red ⟨(2 * P - er), (2 * Q - es), R, S⟩ = ⟨A', B', C', D'⟩ := ⟨_, _, _, _, rfl⟩
        rw [hred] at hs1 ⊢
        obtain ⟨W6, hW6, x6, o6⟩ := x5.store A' B' C' D'
        have t6 := t5.only o6 (fun e => nt5 e.symm)
        have row6 := row_only row5 o6 (row_neM row5 x5)
        have bb6 := bb5.trans (o6.bel _ (by have := NB.out; omega))
        have ft := fitsS x6 288230376151711744 (by omega) (by omega)
        obtain ⟨c0', c1', c2', c3'⟩ := x5.c
        have f0 := x5.f 0
        have f1 := x5.f 1
        have f2 := x5.f 2
        have f3 := x5.f 3
        have HX6 := Lib.hid x6
        have HT6 := Lib.hid t6
        have HR6 := Lib.hid row6
        have HB6 := Lib.hid bb6
        have HS1' := Lib.hid hs1
        obtain ⟨ft', hft⟩ : ∃ p, fitM 288230376151711744 ⟨A', B', C', D'⟩ = p := ⟨_, rfl⟩
        rw [hft] at ft
        have HFT := Lib.hid hft
        clear ls c0 c1 c2 c3 x5 t5 row5 bb5 x6 t6 row6 bb6 o6 b5 HXN HTN HRN HBN hs1 hft hred nt5
        try simp only at hW6
        go_wp2_with (go_at_call 76; refine ft.mono ?_)
        first | (rintro e W7 rfl hs) | (rintro e W7 ⟨rfl, hs⟩)
        try dsimp only
        obtain rfl := hs.out
        clear hs ft c0' c1' c2' c3' f0 f1 f2 f3
        obtain ⟨W6, hW6⟩ : ∃ W, W = W7 := ⟨_, rfl⟩
        subst hW6
        cases ft'
        · have hend : k = J := by
            rcases Nat.lt_or_eq_of_le hk with h3 | h3
            · have h4 := (HST.out k h3).f
              rw [HS1'.out] at h4
              rw [HFT.out] at h4
              cases h4
            · exact h3
          subst hend
          obtain ⟨rfl, rfl⟩ := HE.out.at_limit (by rw [HS0.out]; exact htn) (by rw [HS0.out]; exact .inl HH.out) (by rw [HS1'.out]; exact HFT.out)
          go_wp2
          refine bodyPost_ret (v := .tuple #[.slice (some ⟨W6.heap.size, 0, none⟩) 0 0, .int .i64 3]) (by simp [results, Try.results52, go_sem]) rfl ?_
          exact ⟨⟨_, _, rfl, World.ownsRow_made W6 #[] 0 HB6.out.size (by decide) rfl⟩, HB6.out.alloc HB6.out.size _⟩
        · have hlt := HE.out.goes hk (by rw [HS0.out]; exact htn) (by rw [HS0.out]; exact .inl HH.out) (by rw [HS1'.out]; exact HFT.out)
          obtain ⟨W8, hW8, t8, o8⟩ := HT6.out.state (.int .i64 A') (.int .i64 B') (.int .i64 C') (.int .i64 D')
          have nt5 := NT.out
          have x8 := HX6.out.only o8 nt5
          have row8 := row_only HR6.out o8 (NR.out _ HR6.out)
          have bb8 := HB6.out.trans (o8.bel _ HBB.out)
          obtain ⟨d0, d1, d2, d3⟩ := HX6.out.c
          obtain ⟨p0, p1, p2, p3, p4, p5⟩ := HT6.out.c
          have g2 := HT6.out.f 2
          have g3 := HT6.out.f 3
          have g4 := HT6.out.f 4
          have g5 := HT6.out.f 5
          obtain ⟨q0, q1, q2, q3, q4, q5⟩ := t8.c
          have HX8 := Lib.hid x8
          have HB8 := Lib.hid bb8
          have HR8 := Lib.hid row8
          have zb : w.heap.size ≤ W8.heap.size := bb8.size
          obtain ⟨XS, hXS⟩ : ∃ X, trL a b m0 k = X := ⟨_, rfl⟩
          rw [hXS] at row8
          have HXS := Lib.hid hXS
          obtain ⟨i6, ha, ha0, ha1, ha2⟩ := info_parts infoTurn
          clear x8 bb8 t8 o8 HX6 HT6 HR6 HB6 hXS nt5
          go_wp2_with (at_builtin; refine wpList_append_own _ rfl _ _ 41 rfl w.heap.size 60 i6 (.agg #[.bool false, .int .i8 0, .int .i64 0, .int .i64 0, .int .i64 0, .int .i64 0]) 6 40 Try.underlying41 ha ha0 ha1 ha2 rfl (by decide) _ _ _ rfl (row8.alloc _) ⟨W8.heap.size, 0, none⟩ 1 1 [.bool true, .int .i8 E, .int .i64 A', .int .i64 B', .int .i64 C', .int .i64 D'] rfl rfl ?r1 ?r2 ?r3 ?r4 ?r5 ?_)
          try (case r1 => exact newN _ _ _)
          case r2 => simp [Value.oneCell']
          case r3 => unfold maxLen; omega
          case r4 => omega
          case r5 => first | omega | (simp; omega)
          intro v' w9 hown9 hgrow _
          have hgrow : (W8.alloc (.cells #[.bool true, .int .i8 E, .int .i64 A', .int .i64 B', .int .i64 C', .int .i64 D'] 60)).grownBy w9 (Value.slice so k co).ownBlock := hgrow
          have bb9 := Lib.hid ((HB8.out.alloc HB8.out.size _).grown hgrow (by have := HB8.out.size; simp; omega) fun m hm => (row8.lt m hm).1)
          have x9 := Lib.hid (show BM w9 nb A' B' C' D' from (hgrow.block _ (by have := HX8.out.lt; simp; omega) (fun e => row_neM HR8.out HX8.out e.symm)).trans ((Below.heap_alloc _ _ _ HX8.out.lt).trans HX8.out))
          have row9 := Lib.hid (show w9.ownsRow w.heap.size 60 6 v' (k + 1) (trL a b m0 (k + 1)) from by
            show w9.ownsRow _ _ _ _ _ (trL a b m0 k ++ trC a b m0 k)
            rw [HXS.out]
            unfold trC
            have e1 := HTD.out
            have e2 : hasM (runM a b m0 k).m = true := by rw [HS0.out]; exact HH.out
            rw [e1, e2, HS1'.out]
            exact hown9)
          clear hown9 hgrow row8 hW8 d0 d1 d2 d3 p0 p1 p2 p3 p4 p5 g2 g3 g4 g5 q0 q1 q2 q3 q4 q5 HX8 HB8 HR8
          have N9 := Lib.hid (⟨k + 1, t + 1, q, A', B', C', D', hlt, HS1'.out⟩ : ∃ k' t' q' P' Q' R' S', k' ≤ J ∧ runM a b m0 k' = ⟨⟨P', Q', R', S'⟩, t', q'⟩)
          go_wp2
          go_roundw
          case rel => exact ⟨k + 1, t + 1, q, A', B', C', D', hlt, HS1'.out, by first | rfl | simp, by first | rfl | simp, row9.out, x9.out, bb9.out⟩
          case measure => simp [RowKit.intOf]; omega
    · have hk2 : t = n := by omega
      subst hk2
      have hend : k = J := by
        rcases Nat.lt_or_eq_of_le hk with h3 | h3
        · have h4 := (HST.out k h3).t
          rw [HS0.out] at h4
          simp only at h4
          omega
        · exact h3
      subst hend
      obtain ⟨rfl, rfl⟩ := HE.out.at_done (by rw [HS0.out])
      have HR := Lib.hid hrow
      have HB := Lib.hid hbb
      clear hrow hbb hx
      go_wp2
      refine bodyPost_ret (v := .tuple #[.slice so L co, .int .i64 0]) (by simp [results, Try.results52, go_sem]) rfl ?_
      exact ⟨⟨_, _, rfl, HR.out⟩, HB.out⟩
end Go.Proofs.Yteemkophifcimaa.Sx
