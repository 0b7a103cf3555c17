/-
  Lists of digits that are drawn from a source.
-/
import Derived.Test.YteemkophifcimaaSR
import Derived.Test.YteemkophifcimaaV2
import Derived.Test.YteemkophifcimaaN1
import Derived.Laws.MakeOwn
import Derived.Deep.DeepCutAuto
namespace Go.Proofs.Yteemkophifcimaa.Sx
open Go Go.RowKit
set_option linter.unusedVariables false
set_option linter.unusedSimpArgs false

theorem Past.more {w wr w1 : World} {b : Nat} (h : Past w wr b) (hB : Below w.heap.size wr w1) : Past w w1 b :=
  ⟨fun n h1 h2 => (h.bel n h1 h2).trans (hB.mono h2), fun k h1 h2 => (hB.block k h1).trans (h.rest k h1 h2), Nat.le_trans h.siz hB.size⟩
theorem Src.under {w w' : World} {b n : Nat} {l : List Int} {v : Value} {k : Nat} (h : Src w b l v k) (hB : Below n w w') (hb : b < n) : Src w' b l v k := by
  obtain ⟨p, h1, s, h2⟩ := h.here
  refine ⟨⟨p, h1, s, (hB.block b hb).trans h2⟩, ?_, h.byt, h.len, h.old⟩
  rcases h.is with h3 | ⟨c, o, m, e, h4, h5⟩
  · exact .inl h3
  · refine .inr ⟨c, o, m, e, h4, fun i x hx => ?_⟩
    rw [← h5 i x hx]
    exact hB.cell (p := ⟨c, o + i, none⟩) (by have := h.old c (by rw [e]; rfl); show c < n; omega)
theorem Past.row1 {w w' : World} {b B : Nat} {e : TypeId} {s n : Nat} {v : Value} {xs : List Value} (h : Past w w' b) (hr : w.ownsRow B e s v n xs) (hb : b < B) : w'.ownsRow B e s v n xs := by
  obtain ⟨h1, h2⟩ := hr
  refine ⟨h1, ?_⟩
  rcases h2 with h2 | ⟨g, cap, cur, e1, e2, e3, e4⟩
  · exact .inl h2
  · exact .inr ⟨g, cap, cur, e1, e2, h.at e3 (by omega) (heap_lt e3), e4⟩
/-- A list of digits of its own, drawn. -/
structure DrawL (w w' : World) (b : Nat) (l : List Int) (v : Value) (k : Nat) (lo hi : Nat) (e : Ending) : Prop where
  mk ::
  here : ∃ (ls : List Int) (u : Value), e = .returned u ∧ OwnL .i8 w.heap.size w' ls u ∧ (∀ x ∈ ls, -1 ≤ x ∧ x ≤ 1) ∧ lo ≤ ls.length ∧ ls.length ≤ hi
  src : Src w' b l v k
  past : Past w w' b
set_option maxRecDepth 1000000 in
set_option maxHeartbeats 8000000 in
/-- A LIST IS DRAWN. -/
theorem listS {w : World} {b : Nat} {l : List Int} {v : Value} {k : Nat} (h : Src w b l v k) (hk : k ≤ 900000) {lo hi : Nat} (hlo : lo < hi) (hhi : hi ≤ 100) :
    Calls Try.prog 90 #[.pointer (some ⟨b, 0, none⟩), .int .i64 lo, .int .i64 hi] w fun e w' => DrawL w w' b l v (k + 200) lo hi e := by
  obtain ⟨i0, ha, ha0, ha1, ha2⟩ := info_parts info8
  obtain ⟨B, hB⟩ : ∃ B, w.heap.size = B := ⟨_, rfl⟩
  obtain ⟨W, hW, hBW⟩ : ∃ W, w.alloc (.cells #[] 58) = W ∧ Below w.heap.size w W := ⟨_, rfl, (Below.refl _ _).alloc (Nat.le_refl _) _⟩
  have hrow : W.ownsRow B 58 1 (.slice (some ⟨w.heap.size, 0, none⟩) 0 0) 0 [] := by rw [← hW, ← hB]; exact World.ownsRow_made w #[] 0 (Nat.le_refl _) (by decide) rfl
  have s1 := h.keep hBW
  have hbl : b < B := by have := h.lt; omega
  have m := pickS s1 (by omega) (n := (hi : Int) - lo + 1) (by omega) (by omega)
  have e0 : IntKind.i64.wrap ((hi : Int) - lo) = (hi : Int) - lo := by rw [IntKind.wrap_i64]; omega
  have e1 : IntKind.i64.wrap ((hi : Int) - lo + 1) = (hi : Int) - lo + 1 := by rw [IntKind.wrap_i64]; omega
  have HM := Lib.hid m
  have HB := Lib.hid hB
  have HW := Lib.hid hBW
  have HR := Lib.hid hrow
  have HL := Lib.hid hbl
  have HK := Lib.hid hk
  have HI := Lib.hid (And.intro hlo hhi)
  clear m h hk hlo hhi hB hBW hrow s1 hbl
  go_enter Try.func90, Try.ntmps90
  go_wp2_with (go_at_call 86; refine HM.out.mono ?_)
  rintro e W1 ⟨⟨x, rfl, x0, x1⟩, sr, pa⟩
  obtain ⟨y, rfl⟩ : ∃ y : Nat, x = y := ⟨x.toNat, by omega⟩
  have e2 : IntKind.i64.wrap ((lo : Int) + y) = ((lo + y : Nat) : Int) := by have := HI.out; rw [IntKind.wrap_i64]; omega
  obtain ⟨n, hn⟩ : ∃ n, lo + y = n := ⟨_, rfl⟩
  have hn1 : n ≤ hi := by omega
  have hn2 : lo ≤ n := by omega
  rw [hn] at e2
  have HN := Lib.hid (And.intro hn1 hn2)
  have row0 := pa.row1 HR.out HL.out
  have pa0 : Past w W1 b := (Past.of_below HW.out).trans pa
  have SR := Lib.hid sr
  have RO := Lib.hid row0
  have PA := Lib.hid pa0
  clear hn hn1 hn2 sr pa pa0 row0 x0 x1
  go_wp2
  go_loopw [7, 8] (fun u c wr => ∃ (j : Nat) (ls : List Int), c = .int .i64 j ∧ ls.length + j = n ∧ (∀ x ∈ ls, -1 ≤ x ∧ x ≤ 1) ∧ wr.ownsRow B 58 1 u ls.length (ls.map (Value.int .i8)) ∧ Src wr b l v (k + 1 + ls.length) ∧ Past w wr b) (fun _ c _ => (RowKit.intOf c).toNat)
  case atStart => exact ⟨n, [], rfl, by simp, by simp, RO.out, SR.out, PA.out⟩
  case round =>
    obtain ⟨j, ls, rfl, hj, hd, hown, hs, hp⟩ := hrel
    have HJ := Lib.hid hj
    have HD := Lib.hid hd
    have HO := Lib.hid hown
    have HS := Lib.hid hs
    have HP := Lib.hid hp
    by_cases hj0 : j = 0
    · subst hj0
      clear hj hd hown hs hp
      go_wp2
      go_ret
      have hf : OwnL .i8 w.heap.size wr ls _ := OwnL.of_row (by rw [HB.out]; exact HO.out) rfl rfl
      have h1 := HN.out
      have h2 := HJ.out
      exact ⟨⟨ls, _, rfl, hf, HD.out, by omega, by omega⟩, HS.out.mono (by have := HI.out; omega), HP.out⟩
    · have hm := pickS hs (by have := HK.out; have := HI.out; have := HN.out; omega) (n := 3) (by decide) (by decide)
      have hjp : 0 < j := by omega
      have e3 : IntKind.i64.wrap ((j : Int) - 1) = ((j - 1 : Nat) : Int) := by have := HI.out; have := HN.out; rw [IntKind.wrap_i64]; omega
      clear hj hd hown hs hp
      go_wp2_with (go_at_call 86; refine hm.mono ?_)
      rintro e W2 ⟨⟨z, rfl, z0, z1⟩, sr2, pa2⟩
      have row2 := pa2.row1 HO.out HL.out
      have hp2 := HP.out.trans pa2
      have hsw : B ≤ W2.heap.size := by have := hp2.siz; have := HB.out; omega
      have hb1 : ls.length + 1 ≤ maxLen := by have := HI.out; have := HN.out; have := HJ.out; unfold maxLen; omega
      have hb2 : ls.length + 1 ≤ 1000 := by have := HI.out; have := HN.out; have := HJ.out; omega
      have S2 := Lib.hid sr2
      have P2 := Lib.hid hp2
      clear sr2 hp2 pa2
      have h3 : z = 0 ∨ z = 1 ∨ z = 2 := by omega
      clear z0 z1
      have DON : ∀ (u : Value) (d : Int) (u' : Value) (w1 : World), W2.ownsRow B 58 1 u ls.length (ls.map (Value.int .i8)) → -1 ≤ d → d ≤ 1 → w1.ownsRow B 58 1 u' (ls.length + 1) (ls.map (Value.int .i8) ++ [.int .i8 d]) → (W2.alloc (.cells #[.int .i8 d] 58)).grownBy w1 u.ownBlock → ∃ ls' : List Int, ls'.length = ls.length + 1 ∧ (∀ x ∈ ls', -1 ≤ x ∧ x ≤ 1) ∧ w1.ownsRow B 58 1 u' ls'.length (ls'.map (Value.int .i8)) ∧ Src w1 b l v (k + 1 + ls'.length) ∧ Past w w1 b := fun u d u' w1 row2 d0 d1 ho hg => by
        have hbb : Below B W2 w1 := own_grow row2 (Below.refl _ _) hsw hg
        refine ⟨ls ++ [d], by simp, fun x hx => ?_, by rw [List.map_append, List.length_append]; exact ho, ?_, ?_⟩
        · rcases List.mem_append.1 hx with hx | hx
          · exact HD.out x hx
          · rw [List.mem_singleton.1 hx]; exact ⟨d0, d1⟩
        · have := (S2.out.under hbb HL.out)
          exact this.mono (by simp; omega)
        · exact P2.out.more (by rw [HB.out]; exact hbb)
      have DON := Lib.hid DON
      rcases h3 with rfl | rfl | rfl
      · go_wp2_with (at_builtin; refine wpList_append_own _ rfl _ _ 22 rfl B 58 i0 (.int .i8 0) 1 1 Try.underlying22 ha ha0 ha1 ha2 rfl (by decide) _ _ _ rfl (row2.alloc _) ⟨W2.heap.size, 0, none⟩ 1 1 [.int .i8 (-1)] rfl rfl ?c1 ?c2 ?c3 ?c4 ?c5 ?_)
        case c1 => exact new1 _ _ _
        case c2 => simp [Value.oneCell']
        case c3 => exact hb1
        case c4 => omega
        case c5 => simp; omega
        intro v' w1 hown' hgrow _
        obtain ⟨ls', g1, g2, g3, g4, g5⟩ := DON.out _ (-1) v' w1 row2 (by decide) (by decide) hown' hgrow
        have G := Lib.hid (And.intro g1 (And.intro g2 (And.intro g3 (And.intro g4 g5))))
        clear g1 g2 g3 g4 g5 hown' hgrow row2
        go_wp2
        go_roundw
        case rel => exact ⟨j - 1, ls', rfl, by have := G.out.1; have := HJ.out; omega, G.out.2.1, G.out.2.2.1, G.out.2.2.2.1, G.out.2.2.2.2⟩
        case measure => simp [RowKit.intOf]; omega
      · go_wp2_with (at_builtin; refine wpList_append_own _ rfl _ _ 22 rfl B 58 i0 (.int .i8 0) 1 1 Try.underlying22 ha ha0 ha1 ha2 rfl (by decide) _ _ _ rfl (row2.alloc _) ⟨W2.heap.size, 0, none⟩ 1 1 [.int .i8 0] rfl rfl ?c1 ?c2 ?c3 ?c4 ?c5 ?_)
        case c1 => exact new1 _ _ _
        case c2 => simp [Value.oneCell']
        case c3 => exact hb1
        case c4 => omega
        case c5 => simp; omega
        intro v' w1 hown' hgrow _
        obtain ⟨ls', g1, g2, g3, g4, g5⟩ := DON.out _ 0 v' w1 row2 (by decide) (by decide) hown' hgrow
        have G := Lib.hid (And.intro g1 (And.intro g2 (And.intro g3 (And.intro g4 g5))))
        clear g1 g2 g3 g4 g5 hown' hgrow row2
        go_wp2
        go_roundw
        case rel => exact ⟨j - 1, ls', rfl, by have := G.out.1; have := HJ.out; omega, G.out.2.1, G.out.2.2.1, G.out.2.2.2.1, G.out.2.2.2.2⟩
        case measure => simp [RowKit.intOf]; omega
      · go_wp2_with (at_builtin; refine wpList_append_own _ rfl _ _ 22 rfl B 58 i0 (.int .i8 0) 1 1 Try.underlying22 ha ha0 ha1 ha2 rfl (by decide) _ _ _ rfl (row2.alloc _) ⟨W2.heap.size, 0, none⟩ 1 1 [.int .i8 1] rfl rfl ?c1 ?c2 ?c3 ?c4 ?c5 ?_)
        case c1 => exact new1 _ _ _
        case c2 => simp [Value.oneCell']
        case c3 => exact hb1
        case c4 => omega
        case c5 => simp; omega
        intro v' w1 hown' hgrow _
        obtain ⟨ls', g1, g2, g3, g4, g5⟩ := DON.out _ 1 v' w1 row2 (by decide) (by decide) hown' hgrow
        have G := Lib.hid (And.intro g1 (And.intro g2 (And.intro g3 (And.intro g4 g5))))
        clear g1 g2 g3 g4 g5 hown' hgrow row2
        go_wp2
        go_roundw
        case rel => exact ⟨j - 1, ls', rfl, by have := G.out.1; have := HJ.out; omega, G.out.2.1, G.out.2.2.1, G.out.2.2.2.1, G.out.2.2.2.2⟩
        case measure => simp [RowKit.intOf]; omega
end Go.Proofs.Yteemkophifcimaa.Sx
