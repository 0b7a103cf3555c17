/-
  A stream that is drawn from a source; the stream of some bytes.
-/
import Derived.Test.YteemkophifcimaaSL
import Derived.Test.YteemkophifcimaaK3
namespace Go.Proofs.Yteemkophifcimaa.Sx
open Go Go.RowKit
set_option linter.unusedVariables false
set_option linter.unusedSimpArgs false

/-- Two cells of a box of its own are filled. -/
theorem filled {w W : World} {b c : Nat} {x y : Value} {t : TypeId} (h : Bk W c x y t) (hp : Past w W b) (hc : w.heap.size ≤ c) (u v : Value) : ∃ W2, (W.setCell ⟨c, 0, none⟩ u).setCell ⟨c, 1, none⟩ v = W2 ∧ Bk W2 c u v t ∧ Past w W2 b ∧ (∀ k, k ≠ c → W2.heap[k]? = W.heap[k]?) ∧ W2.heap.size = W.heap.size := by
  obtain ⟨⟨W8, hW8, g8, r8, z8, B8⟩, _⟩ := setc (show W.heap[c]? = _ from h) u
  obtain ⟨_, ⟨W9, hW9, g9, r9, z9, B9⟩⟩ := setc g8 v
  exact ⟨W9, by rw [hW8, hW9], g9, hp.more ((B8 _ hc).trans (B9 _ hc)), fun k hk => (r9 k hk).trans (r8 k hk), by omega⟩
/-- A stream that was drawn: valid, its own. -/
structure DrawS (w w' : World) (b : Nat) (l : List Int) (v : Value) (k : Nat) (e : Ending) : Prop where
  mk ::
  here : ∃ (a c : List Int) (u0 u1 : Value), e = .returned (.agg #[u0, u1]) ∧ OwnL .i8 w.heap.size w' a u0 ∧ OwnL .i8 w.heap.size w' c u1 ∧ vsB a c = true
  src : Src w' b l v k
  past : Past w w' b
set_option maxRecDepth 1000000 in
set_option maxHeartbeats 8000000 in
/-- A STREAM IS DRAWN. -/
theorem drawnS {w : World} {b : Nat} {l : List Int} {v : Value} {k : Nat} (h : Src w b l v k) (hk : k ≤ 100000) :
    Calls Try.prog 62 #[.pointer (some ⟨b, 0, none⟩)] w fun e w' => DrawS w w' b l v (k + 400) e := by
  obtain ⟨W, hW, hB, x⟩ := boxK w (.slice none 0 0) (.slice none 0 0) 26
  have s1 := h.keep hB
  have m1 := listS s1 (by omega) (lo := 0) (hi := 5) (by decide) (by decide)
  have M1 := Lib.hid m1
  have X := Lib.hid x
  have HB := Lib.hid hB
  have HK := Lib.hid hk
  have HL := Lib.hid h.lt
  clear m1 s1 h hk x hB
  go_enter Try.func62, Try.ntmps62
  go_wp2_with (go_at_call 90; refine M1.out.mono ?_)
  rintro e W1 ⟨⟨a, u0, rfl, oa, da, la0, la1⟩, s1, p1⟩
  have m2 := listS s1 (by have := HK.out; omega) (lo := 1) (hi := 4) (by decide) (by decide)
  obtain ⟨pa, na, ca, rfl⟩ : ∃ p n c, u0 = .slice p n c := by
    rcases oa with ⟨rfl, _⟩ | ⟨b, o, c, cs, ty, rfl, _⟩
    · exact ⟨_, _, _, rfl⟩
    · exact ⟨_, _, _, rfl⟩
  have x1 : Bk W1 w.heap.size _ _ _ := p1.row X.out (by have := HL.out; omega)
  have M2 := Lib.hid m2
  have OA := Lib.hid oa
  have DA := Lib.hid da
  have LA := Lib.hid (And.intro la0 la1)
  have P1 := Lib.hid ((Past.of_below HB.out).trans p1)
  have X1 := Lib.hid x1
  have Z1 := Lib.hid p1.siz
  clear m2 s1 p1 oa da la0 la1 x1
  go_wp2_with (go_at_call 90; refine M2.out.mono ?_)
  rintro e W2 ⟨⟨c, u1, rfl, oc, dc, lc0, lc1⟩, s2, p2⟩
  obtain ⟨pc, nc, cc, rfl⟩ : ∃ p n c, u1 = .slice p n c := by
    rcases oc with ⟨rfl, _⟩ | ⟨b, o, c, cs, ty, rfl, _⟩
    · exact ⟨_, _, _, rfl⟩
    · exact ⟨_, _, _, rfl⟩
  have x2 : Bk W2 w.heap.size _ _ _ := p2.row X1.out (by have := HL.out; omega)
  obtain ⟨W3, hW3, x3, p3, r3, z3⟩ := filled x2 ((show Past w W1 b from P1.out).trans p2) (Nat.le_refl _) (.slice pa na ca) (.slice pc nc cc)
  have c0 := x2.c0
  have c1 := x2.c1
  have f0 := x2.f 0
  have f1 := x2.f 1
  have k0 := x3.c0
  have k1 := x3.c1
  have hz : w.heap.size < W.heap.size := by rw [← hW]; simp
  have oa2 := (p2.own OA.out (by have := HL.out; omega))
  have oa3 : OwnL .i8 w.heap.size W3 a _ := (oa2.rest (by exact hz) r3).mono (by omega)
  have oc3 : OwnL .i8 w.heap.size W3 c _ := (oc.rest (by have : W.heap.size ≤ W1.heap.size := Z1.out; omega) r3).mono (by have : W.heap.size ≤ W1.heap.size := Z1.out; omega)
  have s3 : Src W3 b l v (k + 400) := by
    obtain ⟨p, h1, s, h2⟩ := s2.here
    refine ⟨⟨p, by omega, s, (r3 _ (by have := HL.out; omega)).trans h2⟩, ?_, s2.byt, s2.len, s2.old⟩
    rcases s2.is with h3 | ⟨g, o, m, e, h4, h5⟩
    · exact .inl h3
    · refine .inr ⟨g, o, m, e, h4, fun i x hx => ?_⟩
      rw [← h5 i x hx]
      unfold World.cell?
      rw [r3 _ (by have := s2.old g (by rw [e]; rfl); have := HL.out; show g ≠ w.heap.size; omega)]
  have hv : vsB a c = true := (vsB_iff a c).2 ⟨by have := LA.out; omega, lc0, by omega, (dgB_iff _).2 DA.out, (dgB_iff _).2 dc⟩
  have FIN := Lib.hid (show DrawS w W3 b l v (k + 400) (.returned (.agg #[.slice pa na ca, .slice pc nc cc])) from ⟨⟨a, c, _, _, rfl, oa3, oc3, hv⟩, s3, p3⟩)
  clear x2 x3 p3 r3 z3 s3 oa2 oa3 oc3 oc s2 p2 dc lc0 lc1 hv hz
  go_wp2
  refine bodyPost_ret (v := .agg #[.slice pa na ca, .slice pc nc cc]) (by simp [results, Try.results62, go_sem, k0, k1]) rfl ?_
  exact FIN.out
/-- A stream of its own, valid. -/
structure GiveS (w w' : World) (e : Ending) : Prop where
  mk ::
  here : ∃ (a c : List Int) (u0 u1 : Value), e = .returned (.agg #[u0, u1]) ∧ OwnL .i8 w.heap.size w' a u0 ∧ OwnL .i8 w.heap.size w' c u1 ∧ vsB a c = true
  below : Below w.heap.size w w'
set_option maxRecDepth 1000000 in
set_option maxHeartbeats 8000000 in
/-- THE STREAM OF SOME BYTES. -/
theorem A2StreamS {w : World} {l : List Int} {v : Value} (h : IsL .u8 w l v) (hb : ∀ (i : Nat) (x : Int), l[i]? = some x → 0 ≤ x ∧ x ≤ 255) (hl : l.length ≤ 3000) (ho : ∀ n, v.ownBlock = some n → n < w.heap.size) :
    Calls Try.prog 34 #[v] w fun e w' => GiveS w w' e := by
  obtain ⟨W, hW, hB, x⟩ := boxK w (.slice none 0 0) (.slice none 0 0) 26
  have hz : W.heap.size = w.heap.size + 1 := by rw [← hW]; simp
  have m1 := fromS (h.keep hB) hb hl (fun n e => by have := ho n e; omega)
  have M1 := Lib.hid m1
  have X := Lib.hid x
  have HB := Lib.hid hB
  have HZ := Lib.hid hz
  clear m1 h hb hl ho x hB hz
  go_enter Try.func34, Try.ntmps34
  go_wp2_with (go_at_call 60; refine M1.out.mono ?_)
  rintro e W1 ⟨rfl, s1, b1, z1⟩
  have m2 := drawnS s1 (by omega)
  have M2 := Lib.hid m2
  have x1 := X.out.keep b1
  have X1 := Lib.hid x1
  have B1 := Lib.hid (HB.out.trans (b1.mono HB.out.size))
  have Z1 := Lib.hid z1
  clear m2 s1 b1 z1 x1
  go_wp2_with (go_at_call 62; refine M2.out.mono ?_)
  rintro e W2 ⟨⟨a, c, u0, u1, rfl, oa, oc, hv⟩, s2, p2⟩
  obtain ⟨pa, na, ca, rfl⟩ : ∃ p n c, u0 = .slice p n c := by
    rcases oa with ⟨rfl, _⟩ | ⟨b, o, c, cs, ty, rfl, _⟩
    · exact ⟨_, _, _, rfl⟩
    · exact ⟨_, _, _, rfl⟩
  obtain ⟨pc, nc, cc, rfl⟩ : ∃ p n c, u1 = .slice p n c := by
    rcases oc with ⟨rfl, _⟩ | ⟨b, o, c, cs, ty, rfl, _⟩
    · exact ⟨_, _, _, rfl⟩
    · exact ⟨_, _, _, rfl⟩
  have zz : w.heap.size < W.heap.size := by have := HZ.out; omega
  have zw : W1.heap.size = W.heap.size + 1 := Z1.out
  have x2 : Bk W2 w.heap.size _ _ _ := p2.row X1.out (by omega)
  have bb : Below w.heap.size w W2 := (show Below w.heap.size w W1 from B1.out).trans (p2.bel _ (by omega) (by omega))
  obtain ⟨W3, hW3, e0, e1, r3, B3⟩ := stored x2 (.slice pa na ca) (.slice pc nc cc)
  have c0 := x2.c0
  have c1 := x2.c1
  have f0 := x2.f 0
  have f1 := x2.f 1
  have oa3 : OwnL .i8 w.heap.size W3 a _ := (oa.rest (by omega) r3).mono (by omega)
  have oc3 : OwnL .i8 w.heap.size W3 c _ := (oc.rest (by omega) r3).mono (by omega)
  have FIN := Lib.hid (show GiveS w W3 (.returned (.agg #[.slice pa na ca, .slice pc nc cc])) from ⟨⟨a, c, _, _, rfl, oa3, oc3, hv⟩, bb.trans (B3 _ (Nat.le_refl _))⟩)
  clear x2 oa3 oc3 oa oc s2 p2 hv bb r3 B3 zz zw
  go_wp2
  refine bodyPost_ret (v := .agg #[.slice pa na ca, .slice pc nc cc]) (by simp [results, Try.results34, go_sem, e0, e1]) rfl ?_
  exact FIN.out
end Go.Proofs.Yteemkophifcimaa.Sx
