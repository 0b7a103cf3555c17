/-
  The tree with the nodes that are reached, by the code.
-/
import Derived.Test.YtjmpdilffmpkgaaG6
namespace Go.Proofs.Ytjmpdilffmpkgaa.Sx
open Go Go.RowKit
set_option linter.unusedVariables false
set_option linter.unusedSimpArgs false

theorem row_mono {w : World} {B B' s n : Nat} {e : TypeId} {v : Value} {xs : List Value} (h : w.ownsRow B e s v n xs) (hb : B' ≤ B) : w.ownsRow B' e s v n xs := by
  obtain ⟨p1, p2 | ⟨g, cap, cur, p2, p3, p4, p5⟩⟩ := h
  · exact ⟨p1, .inl p2⟩
  · exact ⟨p1, .inr ⟨g, cap, cur, p2, Nat.le_trans hb p3, p4, p5⟩⟩
/-- A tree is returned. -/
structure TrE (w w' : World) (T : List Fk) (e : Ending) : Prop where
  mk ::
  here : ∃ v, e = .returned (.agg #[v]) ∧ TrG w w' T v
set_option maxRecDepth 1000000 in
set_option maxHeartbeats 16000000 in
theorem treeI {w : World} {n N : Nat} {vn vb : Value} {bs : List Nat} {T T' : List Fk} (hF : IsF w T vn) (hT : trB T = true) (hTn : T.length = n) (hb : IsN w bs vb) (hbl : bs.length = n) (hbn : ∀ i, i < n → bs.getD i 0 < n) (hb0 : bs.getD 0 0 = 0) (hT' : reBT T bs = T')
    (hN : N = (rch T' N).length) (hNn : N ≤ n) (hq : ∀ i, i < N → i < (rch T' i).length) :
    Calls Try.prog 57 #[.agg #[vn, vb]] w fun e w' => TrE w w' (rcT T' (rch T' N) N) e := by
  obtain ⟨sn, cn, rfl⟩ := hF.form
  obtain ⟨gb, ob, cb, rfl, hc⟩ := hb
  have hb : IsN w bs (.slice (some ⟨gb, ob, none⟩) bs.length cb) := ⟨gb, ob, cb, rfl, hc⟩
  obtain ⟨W1, hW1, b1, x1⟩ := boxN w #[.slice sn T.length cn, .slice (some ⟨gb, ob, none⟩) bs.length cb] 90
  obtain ⟨W2, hW2, b2, x2⟩ := boxN W1 #[.slice none 0 0] 30
  have b12 := b1.trans (b2.mono b1.size)
  have gr := growI (hF.keep b12) hT hTn (hb.keep b12) hbl hbn hb0 hT' hN hNn hq
  unfold clo1 clo2 at gr
  have z1 : W1.heap.size = w.heap.size + 1 := by rw [← hW1]; simp
  have x1 := at_keep x1 b2
  have c0 : W2.cell? ⟨w.heap.size, 0, none⟩ = some (.slice sn T.length cn) := by rw [Lib.cell_of_heap x1]; rfl
  have c1 : W2.cell? ⟨w.heap.size, 1, none⟩ = some (.slice (some ⟨gb, ob, none⟩) bs.length cb) := by rw [Lib.cell_of_heap x1]; rfl
  have HX := Lib.hid (And.intro x2 b12)
  have ZZ := Lib.hid z1
  obtain ⟨R, hR⟩ : ∃ R, rcT T' (rch T' N) N = R := ⟨_, rfl⟩
  rw [hR] at gr ⊢
  obtain ⟨nT, hnT⟩ : ∃ y, T.length = y := ⟨_, rfl⟩
  obtain ⟨nB, hnB⟩ : ∃ y, bs.length = y := ⟨_, rfl⟩
  rw [hnT] at c0 gr hW1 ⊢
  rw [hnB] at c1 gr hW1 ⊢
  clear hF hT hTn hbl hbn hb0 hT' hN hNn hq x1 x2 b1 b2 b12 hb hc hR hnT hnB z1
  go_enter Try.func57, Try.ntmps57
  go_wp2_with (go_at_call 70; refine gr.mono ?_)
  first | (rintro e W3 ⟨v, rfl, g3⟩) | (rintro e W3 ⟨v, hv⟩; obtain ⟨rfl, g3⟩ := hv)
  try dsimp only
  obtain ⟨sv, cv, rfl⟩ := own_formN g3.row
  obtain ⟨W4, hW4, b4, x4⟩ := boxN W3 #[.slice sv R.length cv] 30
  have x2 := at_keep (at_keep HX.out.1 g3.below) b4
  have o4 := row_underN (k := 0) g3.row b4
  have hz := g3.below.size
  have hz1 := ZZ.out
  have hz2 : W2.heap.size = W1.heap.size + 1 := by rw [← hW2]; simp
  obtain ⟨W5, hW5, q1, q2, q3, q4⟩ := set3 (i := 0) x2 (.slice sv R.length cv)
  have g5 : W4.grownBy W5 (some W1.heap.size) := ⟨(q2 0 (Nat.zero_le _)).os, (q2 0 (Nat.zero_le _)).tape, (q2 0 (Nat.zero_le _)).output, (q2 0 (Nat.zero_le _)).size, fun j _ hj => q3 j (fun e => hj (by rw [e]))⟩
  have o5 := o4.kept g5 (.inr (row_ne o4 x2 tyFTr))
  have l5 : Below w.heap.size w W5 := (HX.out.2.trans ((g3.below.trans (b4.mono hz)).mono HX.out.2.size)).trans (q2 _ (by omega))
  have d4 : W4.cell? ⟨W3.heap.size, 0, none⟩ = some (.slice sv R.length cv) := by rw [Lib.cell_of_heap x4]; rfl
  have c2 : W4.cell? ⟨W1.heap.size, 0, none⟩ = some (.slice none 0 0) := by rw [Lib.cell_of_heap x2]; rfl
  have f2 : W4.frozen? ⟨W1.heap.size, 0, none⟩ = false := Lib.frozen_of_heap x2 _
  have u2 : W5.cell? ⟨W1.heap.size, 0, none⟩ = some (.slice sv R.length cv) := by rw [Lib.cell_of_heap q1]; rfl
  have END := Lib.hid (And.intro (row_mono o5 (B' := w.heap.size) (by omega)) l5)
  clear g3 x2 o4 hz hz1 hz2 q1 q2 q3 q4 g5 o5 l5 x4 b4 gr c0 c1
  go_wp2
  refine bodyPost_ret (v := .agg #[.slice sv R.length cv]) (by simp [results, Try.results57, go_sem, u2]) rfl ?_
  exact ⟨_, rfl, END.out.1, END.out.2⟩
def byA (n i : Nat) : Array Value := ((List.range n).map fun j => Value.int .i16 ((if j < i then j else 0 : Nat) : Int)).toArray
theorem byA_size (n i : Nat) : (byA n i).size = n := by simp [byA]
theorem byA_at {n i j : Nat} (h : j < n) : (byA n i)[j]? = some (.int .i16 ((if j < i then j else 0 : Nat) : Int)) := by
  unfold byA
  rw [List.getElem?_toArray, List.getElem?_map, List.getElem?_range h]
  rfl
theorem byA_set {n i : Nat} (h : i < n) : (byA n i).setIfInBounds i (.int .i16 (i : Nat)) = byA n (i + 1) := by
  apply Array.ext_getElem?
  intro j
  rw [Array.getElem?_setIfInBounds]
  by_cases e : i = j
  · subst e
    rw [if_pos rfl, if_pos (by rw [byA_size]; exact h), byA_at h, if_pos (by omega)]
  · rw [if_neg e]
    rcases Nat.lt_or_ge j n with hj | hj
    · rw [byA_at hj, byA_at hj]
      by_cases hh : j < i
      · rw [if_pos hh, if_pos (by omega)]
      · rw [if_neg hh, if_neg (by omega)]
    · rw [Array.getElem?_eq_none (by rw [byA_size]; exact hj), Array.getElem?_eq_none (by rw [byA_size]; exact hj)]
theorem range_getD {n i : Nat} (h : i < n) : (List.range n).getD i 0 = i := by
  rw [List.getD_eq_getElem?_getD, List.getElem?_range h]
  rfl
theorem reBT_id {T : List Fk} (hT : trB T = true) : reBT T (List.range T.length) = T := by
  apply List.ext_getElem?
  intro i
  unfold reBT
  rw [List.getElem?_map]
  rcases Nat.lt_or_ge i T.length with hi | hi
  · rw [fkAt_get hi]
    have h := fkB_iff.1 ((trB_iff.1 hT).2 _ (List.mem_of_getElem? (fkAt_get hi)))
    have h0 := (trB_iff.1 hT).1.1
    obtain ⟨⟨K, D, P, Q, R⟩, hff⟩ : ∃ f, fkAt T i = f := ⟨_, rfl⟩
    rw [hff] at h ⊢
    simp only at h
    simp only [Option.map_some, Option.some.injEq]
    unfold reBF
    simp only
    rw [range_getD (by omega), range_getD (by omega), range_getD (by omega)]
    split
    · rename_i hk
      rcases h.2.2.2 with h9 | h9
      · omega
      · rw [Int.toNat_of_nonneg h.1.1, hk, h9.2.2.1, h9.2.2.2]
    · rename_i hk
      rcases h.2.2.2 with h9 | h9
      · rw [Int.toNat_of_nonneg h.1.1, Int.toNat_of_nonneg h.2.1.1, Int.toNat_of_nonneg h.2.2.1.1, h9.1, h9.2]
      · exact absurd h9.1 hk
  · rw [List.getElem?_eq_none hi]
    rfl
set_option maxRecDepth 1000000 in
set_option maxHeartbeats 16000000 in
theorem reachedI {w : World} {N : Nat} {vn : Value} {T : List Fk} (hF : IsF w T vn) (hT : trB T = true) (hN : N = (rch T N).length) (hNn : N ≤ T.length) (hq : ∀ i, i < N → i < (rch T i).length) :
    Calls Try.prog 35 #[.agg #[vn]] w fun e w' => TrE w w' (rcT T (rch T N) N) e := by
  obtain ⟨ib, hb, hb0, hb1, hb2⟩ := info_parts info16
  obtain ⟨sn, cn, rfl⟩ := hF.form
  obtain ⟨n, hn⟩ : ∃ n, T.length = n := ⟨_, rfl⟩
  have hT1 := (trB_iff.1 hT).1
  rw [hn] at hT1 hNn
  have hlT : ∀ (s : Option Addr) (n k : Nat) (W : World), (Builtin.len_ #[28] 3 #[.slice s n k]).run Try.prog W = .ok (.int .i64 n) W := fun s n k W => rfl
  have hlB : ∀ (s : Option Addr) (n k : Nat) (W : World), (Builtin.len_ #[54] 3 #[.slice s n k]).run Try.prog W = .ok (.int .i64 n) W := fun s n k W => rfl
  have hmk : ∀ W : World, (Instr.makeSlice 54 (.int .i64 n) (.int .i64 n)).run Try.prog W = .ok (.slice (some ⟨W.heap.size, 0, none⟩) n n) (W.alloc (.cells (madeCells #[.int .i16 0] n) 59)) := fun W => by
    have := run_make (P := Try.prog) W 54 59 ib (.int .i16 0) Try.underlying54 hb hb0 .i64 .i64 n n (by omega) (Int.le_refl _) (by rw [hb2]; omega) (by omega)
    rw [this, hb1]
    simp [Value.cells]
  have hfd : madeCells #[.int .i16 0] n = byA n 0 := by
    apply Array.ext_getElem?
    intro i
    rcases Nat.lt_or_ge i n with hi | hi
    · rw [byA_at hi]
      simp [madeCells, hi, Nat.mod_one]
    · rw [Array.getElem?_eq_none (by rw [size_madeCells]; exact hi), Array.getElem?_eq_none (by rw [byA_size]; exact hi)]
  rw [hfd] at hmk
  rw [hn]
  obtain ⟨W1, hW1, b1, x1⟩ := boxN w #[.slice sn n cn] 30
  obtain ⟨W2, hW2, b2, x2⟩ := boxN W1 #[.slice none 0 0] 30
  obtain ⟨W3, hW3, b3, x3⟩ := boxN W2 (byA n 0) 59
  have b12 := b1.trans (b2.mono b1.size)
  have b13 := b12.trans (b3.mono b12.size)
  have z1 : W1.heap.size = w.heap.size + 1 := by rw [← hW1]; simp
  have z2 : W2.heap.size = W1.heap.size + 1 := by rw [← hW2]; simp
  have x1 := at_keep (at_keep x1 b2) b3
  have x2 := at_keep x2 b3
  have c0 : W2.cell? ⟨w.heap.size, 0, none⟩ = some (.slice sn n cn) := by
    have := b3.cell (p := ⟨w.heap.size, 0, none⟩) (show w.heap.size < W2.heap.size by omega)
    rw [← this, Lib.cell_of_heap x1]; rfl
  have S0 := Lib.hid (And.intro x1 (And.intro x2 (And.intro x3 b13)))
  have ZZ := Lib.hid (And.intro z1 z2)
  obtain ⟨R, hR⟩ : ∃ R, rcT T (rch T N) N = R := ⟨_, rfl⟩
  rw [hR]
  have HR := Lib.hid hR
  clear hR
  have HF := Lib.hid hF
  have TV := Lib.hid hT
  have TL := Lib.hid hn
  have HN := Lib.hid hN
  have HQ := Lib.hid hq
  clear hF hT hn hN hq hb hb0 hb1 hb2 hfd x1 x2 x3 b1 b2 b3 b12 b13 z1 z2
  go_enter Try.func35, Try.ntmps35
  go_wp2
  go_loopw [11] (fun iv wr => ∃ i : Nat, i ≤ n ∧ iv = .int .i64 i ∧ wr.heap[w.heap.size]? = some (.cells #[.slice sn n cn] 30 (0, 0)) ∧ wr.heap[W1.heap.size]? = some (.cells #[.slice none 0 0] 30 (0, 0)) ∧ wr.heap[W2.heap.size]? = some (.cells (byA n i) 59 (0, 0)) ∧ Below w.heap.size w wr) (fun iv _ => n - (RowKit.intOf iv).toNat)
  case atStart => exact ⟨0, Nat.zero_le _, rfl, S0.out.1, S0.out.2.1, S0.out.2.2.1, S0.out.2.2.2⟩
  case round =>
    obtain ⟨i, hi, rfl, h1, h2, h3, h4⟩ := hrel
    by_cases hlt : i < n
    · have gi : (i : Int) < n := by omega
      have ew : IntKind.i16.wrap (i : Int) = i := by
        simp [IntKind.wrap, IntKind.signed, IntKind.bits]
        omega
      have c3 : wr.cell? ⟨W2.heap.size, i, none⟩ = some (.int .i16 ((if i < i then i else 0 : Nat) : Int)) := by rw [Lib.cell_of_heap h3, byA_at hlt]
      have f3 : wr.frozen? ⟨W2.heap.size, i, none⟩ = false := Lib.frozen_of_heap h3 _
      obtain ⟨X, hX, q1, q2, q3, q4⟩ := set3 (i := i) h3 (.int .i16 (i : Nat))
      rw [byA_set hlt] at q1
      have zz := ZZ.out
      have NX := Lib.hid (And.intro ((q3 w.heap.size (by omega)).trans h1) (And.intro ((q3 W1.heap.size (by omega)).trans h2) (And.intro q1 (h4.trans (q2 _ (by omega))))))
      clear h1 h2 h3 h4 q1 q2 q3 q4 zz c0
      go_wp2
      exact ⟨⟨i + 1, by omega, rfl, NX.out.1, NX.out.2.1, NX.out.2.2.1, NX.out.2.2.2⟩, by simp [RowKit.intOf]; omega⟩
    · obtain rfl : i = n := by omega
      have gi : ¬ (i : Int) < i := by omega
      have hF2 := HF.out.keep h4
      rw [TL.out] at hF2
      have hbN : IsN wr (List.range i) (.slice (some ⟨W2.heap.size, 0, none⟩) i i) := ⟨W2.heap.size, 0, i, by simp, fun j hj => by
        have hj : j < i := by simpa using hj
        rw [range_getD hj, Nat.zero_add, Lib.cell_of_heap h3, byA_at hj, if_pos hj]⟩
      have tr := treeI (w := wr) (N := N) (T' := T) hF2 TV.out TL.out hbN (by simp) (fun j hj => by rw [range_getD hj]; exact hj) (range_getD (by omega)) (by rw [← TL.out]; exact reBT_id TV.out) HN.out hNn HQ.out
      have c0 : wr.cell? ⟨w.heap.size, 0, none⟩ = some (.slice sn i cn) := by rw [Lib.cell_of_heap h1]; rfl
      have H2 := Lib.hid h2
      have H4 := Lib.hid h4
      rw [HR.out] at tr
      clear hF2 hbN h1 h2 h3 h4
      go_wp2_with (go_at_call 57; refine tr.mono ?_)
      rintro e W4 ⟨v, rfl, g4⟩
      try dsimp only
      obtain ⟨sv, cv, rfl⟩ := own_formN g4.row
      have x4 := at_keep H2.out g4.below
      have zz := ZZ.out
      obtain ⟨W5, hW5, q1, q2, q3, q4⟩ := set3 (i := 0) x4 (.slice sv R.length cv)
      have g5 : W4.grownBy W5 (some W1.heap.size) := ⟨(q2 0 (Nat.zero_le _)).os, (q2 0 (Nat.zero_le _)).tape, (q2 0 (Nat.zero_le _)).output, (q2 0 (Nat.zero_le _)).size, fun j _ hj => q3 j (fun e => hj (by rw [e]))⟩
      have o5 := g4.row.kept g5 (.inr (row_ne g4.row x4 tyFTr))
      have l5 : Below w.heap.size w W5 := (H4.out.trans (g4.below.mono H4.out.size)).trans (q2 _ (by omega))
      have c2 : W4.cell? ⟨W1.heap.size, 0, none⟩ = some (.slice none 0 0) := by rw [Lib.cell_of_heap x4]; rfl
      have f2 : W4.frozen? ⟨W1.heap.size, 0, none⟩ = false := Lib.frozen_of_heap x4 _
      have u2 : W5.cell? ⟨W1.heap.size, 0, none⟩ = some (.slice sv R.length cv) := by rw [Lib.cell_of_heap q1]; rfl
      have END := Lib.hid (And.intro (row_mono o5 (B' := w.heap.size) H4.out.size) l5)
      clear g4 x4 zz q1 q2 q3 q4 g5 o5 l5 tr
      go_wp2
      refine bodyPost_ret (v := .agg #[.slice sv R.length cv]) (by simp [results, Try.results35, go_sem, u2]) rfl ?_
      exact ⟨_, rfl, END.out.1, END.out.2⟩
end Go.Proofs.Ytjmpdilffmpkgaa.Sx
