/-
  A tree that grows: the node that stands for a node, and its number.
-/
import Derived.Test.YtjmpdilffmpkgaaG3
namespace Go.Proofs.Ytjmpdilffmpkgaa.Sx
open Go Go.RowKit
set_option linter.unusedVariables false
set_option linter.unusedSimpArgs false

/-- Numbers of nodes in a row. -/
def IsN (w : World) (bs : List Nat) (v : Value) : Prop := ∃ b o c, v = .slice (some ⟨b, o, none⟩) bs.length c ∧ ∀ i, i < bs.length → w.cell? ⟨b, o + i, none⟩ = some (.int .i16 (bs.getD i 0 : Nat))
theorem IsN.keep {w w' : World} {bs : List Nat} {v : Value} (h : IsN w bs v) (hB : Below w.heap.size w w') : IsN w' bs v := by
  obtain ⟨b, o, c, h1, h2⟩ := h
  refine ⟨b, o, c, h1, fun i hi => ?_⟩
  have := h2 i hi
  rw [← this]
  exact hB.cell (p := ⟨b, o + i, none⟩) (cell_lt this)
/-- A node that goes on to what stands for its nodes. -/
def reBF (bs : List Nat) (f : Fk) : Fk := if f.k = 2 then ⟨2, f.d, (bs.getD f.n0.toNat 0 : Nat), 0, 0⟩ else ⟨1, 0, (bs.getD f.n0.toNat 0 : Nat), (bs.getD f.n1.toNat 0 : Nat), (bs.getD f.n2.toNat 0 : Nat)⟩
def reBT (T : List Fk) (bs : List Nat) : List Fk := T.map (reBF bs)
theorem reBT_len (T : List Fk) (bs : List Nat) : (reBT T bs).length = T.length := by simp [reBT]
theorem reBT_at {T : List Fk} {bs : List Nat} {i : Nat} (h : i < T.length) : fkAt (reBT T bs) i = reBF bs (fkAt T i) := by
  have h1 := fkAt_get (T := reBT T bs) (i := i) (by rw [reBT_len]; exact h)
  unfold reBT at h1
  rw [List.getElem?_map, fkAt_get h] at h1
  exact (Option.some.inj h1).symm
theorem reBT_ok {T : List Fk} {bs : List Nat} (hT : trB T = true) (hb : ∀ i, i < T.length → bs.getD i 0 < T.length) : trB (reBT T bs) = true := by
  have h := trB_iff.1 hT
  rw [trB_iff, reBT_len]
  refine ⟨h.1, fun f hf => ?_⟩
  obtain ⟨g, hg, rfl⟩ := List.mem_map.1 hf
  have h2 := fkB_iff.1 (h.2 g hg)
  have b0 := hb g.n0.toNat (by omega)
  have b1 := hb g.n1.toNat (by omega)
  have b2 := hb g.n2.toNat (by omega)
  have h0 : 0 < T.length := h.1.1
  rw [fkB_iff]
  unfold reBF
  split
  · rename_i hk
    refine ⟨⟨by simp only; omega, by simp only; omega⟩, ⟨by simp, by simp only; omega⟩, ⟨by simp, by simp only; omega⟩, .inr ⟨rfl, ?_, rfl, rfl⟩⟩
    rcases h2.2.2.2 with h | h
    · omega
    · exact h.2.1
  · exact ⟨⟨by simp only; omega, by simp only; omega⟩, ⟨by simp only; omega, by simp only; omega⟩, ⟨by simp only; omega, by simp only; omega⟩, .inl ⟨rfl, rfl⟩⟩
set_option maxRecDepth 1000000 in
set_option maxHeartbeats 4000000 in
theorem standsI {w : World} {bs : List Nat} {vn vb : Value} (h : IsN w bs vb) {i : Nat} (hi : i < bs.length) : Calls Try.prog 72 #[.agg #[vn, vb], .int .i16 i] w fun e w' => e = .returned (.tuple #[.int .i16 (bs.getD i 0 : Nat), .nilIface]) ∧ Below w.heap.size w w' := by
  obtain ⟨b, o, c, rfl, hc⟩ := h
  obtain ⟨W, hW, hB, x⟩ := boxN w #[vn, .slice (some ⟨b, o, none⟩) bs.length c] 90
  have q0 : W.cell? ⟨w.heap.size, 1, none⟩ = some (.slice (some ⟨b, o, none⟩) bs.length c) := by rw [Lib.cell_of_heap x]; rfl
  have q1 : W.cell? ⟨b, o + i, none⟩ = some (.int .i16 (bs.getD i 0 : Nat)) := by
    have := hc i hi
    rw [← this]
    exact hB.cell (p := ⟨b, o + i, none⟩) (cell_lt this)
  obtain ⟨y, hy⟩ : ∃ y, bs.getD i 0 = y := ⟨_, rfl⟩
  obtain ⟨n, hn⟩ : ∃ y, bs.length = y := ⟨_, rfl⟩
  rw [hy] at q1 ⊢
  rw [hn] at hW q0 hi ⊢
  have gi : (i : Int) < n := by omega
  clear x hc hy hn
  go_enter Try.func72, Try.ntmps72
  go_wp2
  refine bodyPost_ret (v := .tuple #[.int .i16 (y : Nat), .nilIface]) (by simp [results, Try.results72, go_sem]) rfl ?_
  exact ⟨rfl, hB⟩
def clo1 (vn : Value) : Value := .func (.func 71) #[.agg #[vn]] #[]
def clo2 (vn vb : Value) : Value := .func (.func 72) #[.agg #[vn, vb]] #[]
set_option maxRecDepth 1000000 in
set_option maxHeartbeats 8000000 in
theorem findI {w0 w : World} {B gB mB y n : Nat} {vn vb ov : Value} {l bs : List Nat} (hb : IsN w0 bs vb) (hB : w0.heap.size = B) (hw : Below B w0 w) (h : GS w B gB mB (clo1 vn) (clo2 vn vb) l ov) (hl : Fnd l n) (hn : n ≤ 60) (hy : y < bs.length) (hyn : bs.getD y 0 < n) :
    Calls Try.prog 77 #[.pointer (some ⟨gB, 0, none⟩), .int .i16 y] w fun e w' => PlG w w' B gB mB (clo1 vn) (clo2 vn vb) l (bs.getD y 0) e := by
  have hbw : IsN w bs vb := hb.keep (by rw [hB]; exact hw)
  have st := standsI (vn := vn) hbw hy
  have q0 : w.cell? ⟨gB, 4, none⟩ = some (.func (.func 72) #[.agg #[vn, vb]] #[]) := by rw [Lib.cell_of_heap h.gb]; rfl
  have HS := Lib.hid h
  have HF := Lib.hid hl
  obtain ⟨z, hz⟩ : ∃ z, bs.getD y 0 = z := ⟨_, rfl⟩
  rw [hz] at st hyn ⊢
  have hBs : B ≤ w.heap.size := Nat.le_trans h.bg (Nat.le_of_lt (heap_lt h.gb))
  clear hbw hb hw h hl hz
  go_enter Try.func77, Try.ntmps77
  go_wp2_with (go_at_call 72; refine st.mono ?_)
  first | (rintro e W1 rfl b1) | (rintro e W1 ⟨rfl, b1⟩)
  try dsimp only
  have s1 := HS.out.keep b1
  have pl := placeI s1 HF.out hyn hn
  have S1 := Lib.hid (And.intro (b1.mono hBs) (And.intro (Kp.of_below b1) b1.size))
  clear st q0 s1 b1
  go_wp2_with (go_at_call 79; refine pl.mono ?_)
  rintro e W2 ⟨rfl, st, bl, kp, sz⟩
  try dsimp only
  have FIN := Lib.hid (And.intro st (And.intro bl (And.intro kp sz)))
  clear st bl kp sz pl
  go_wp2
  refine bodyPost_ret (v := .tuple #[.int .i16 ((addN l z).idxOf z : Nat), .nilIface]) (by simp [results, Try.results77, go_sem]) rfl ?_
  exact ⟨rfl, FIN.out.1, S1.out.1.trans FIN.out.2.1, S1.out.2.1.trans FIN.out.2.2.1, Nat.le_trans S1.out.2.2 FIN.out.2.2.2⟩
end Go.Proofs.Ytjmpdilffmpkgaa.Sx
