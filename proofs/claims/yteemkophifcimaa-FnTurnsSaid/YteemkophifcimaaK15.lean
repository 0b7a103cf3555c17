/-
  The digits that a machine tells, by the model.
-/
import Derived.Test.YteemkophifcimaaK14
import Derived.Test.YteemkophifcimaaN1
import Derived.WalkSpells
namespace Go.Proofs.Yteemkophifcimaa.Sx
open Go Go.RowKit
set_option linter.unusedVariables false
set_option linter.unusedSimpArgs false

/-- The digits told in the first turns. -/
def ddL (a b : List Int) (m0 : Mo) : Nat → List Int
  | 0 => []
  | k + 1 => if hasM (runM a b m0 k).m = true then ddL a b m0 k ++ [tdM a b m0 k] else ddL a b m0 k
theorem ddL_len (a b : List Int) (m0 : Mo) : ∀ k, (ddL a b m0 k).length = (runM a b m0 k).t
  | 0 => rfl
  | k + 1 => by
    show (if hasM (runM a b m0 k).m = true then ddL a b m0 k ++ [tdM a b m0 k] else ddL a b m0 k).length = (stp a b (runM a b m0 k)).t
    unfold stp
    split
    · rw [List.length_append, ddL_len a b m0 k]; rfl
    · exact ddL_len a b m0 k
theorem ddL_le (a b : List Int) (m0 : Mo) : ∀ k, (ddL a b m0 k).length ≤ k
  | 0 => Nat.le_refl _
  | k + 1 => by
    show (if hasM (runM a b m0 k).m = true then ddL a b m0 k ++ [tdM a b m0 k] else ddL a b m0 k).length ≤ k + 1
    have := ddL_le a b m0 k
    split
    · rw [List.length_append]; simp; exact this
    · omega
/-- Digits, a number and a code are given. -/
structure GaveD (w w' : World) (l : List Int) (x c : Int) (e : Ending) : Prop where
  mk ::
  here : ∃ s k, e = .returned (.tuple #[.slice s l.length k, .int .i64 x, .int .i64 c]) ∧ OwnL .i8 w.heap.size w' l (.slice s l.length k)
  below : Below w.heap.size w w'
def DoesD (g : Nat) (A B C D : Int) (a b : List Int) (n : Int) (l : List Int) (x c : Int) : Prop := ∀ (w : World) (v0 v1 : Value), IsL .i8 w a v0 → IsL .i8 w b v1 → (∀ q, v0.ownBlock = some q → q < w.heap.size) → (∀ q, v1.ownBlock = some q → q < w.heap.size) → Calls Try.prog g #[.agg #[.int .i64 A, .int .i64 B, .int .i64 C, .int .i64 D], .agg #[v0, v1], .int .i64 n] w fun e w' => GaveD w w' l x c e
theorem made8 (w : World) (base : Nat) (h : base ≤ w.heap.size) : (w.alloc (.cells #[] 58)).ownsRow base 58 1 (.slice (some ⟨w.heap.size, 0, none⟩) 0 0) 0 [] := World.ownsRow_made w #[] 0 h (by decide) rfl
theorem own8 (w : World) (base : Nat) (h : base ≤ w.heap.size) : OwnL .i8 base (w.alloc (.cells #[] 58)) [] (.slice (some ⟨w.heap.size, 0, none⟩) 0 0) := OwnL.of_row (made8 w base h) rfl rfl
theorem tyT8 : (60 : TypeId) ≠ 58 := of_decide_eq_true (by kernel_rfl)
set_option maxRecDepth 1000000 in
set_option maxHeartbeats 8000000 in
theorem digsS_no (A B C D n : Int) (a b : List Int) (z : Int) (hz : askC A B C D a b n = z) (h0 : z ≠ 0) (hC : -9223372036854775808 ≤ C ∧ C ≤ 9223372036854775807) (la : a.length ≤ 9223372036854775807) (lb : b.length ≤ 9223372036854775807) : DoesD 27 A B C D a b n [] 0 z := by
  intro w v0 v1 i0 i1 _ _
  obtain ⟨W, hW, hB, x⟩ := boxM w A B C D
  obtain ⟨V, hV, hB2, y⟩ := boxK W v0 v1 26
  have x := x.keep hB2
  have bV := hB.trans (hB2.mono hB.size)
  have h : Here V W.heap.size a b v0 v1 := ⟨y, i0.keep bV, i1.keep bV⟩
  have ask := askedS (n := n) x h hC la lb
  rw [hz] at ask
  have zb : (z == 0) = false := by rw [beq_eq_false_iff_ne]; exact h0
  clear hz x y h i0 i1 hB hB2 la lb hC
  go_enter Try.func27, Try.ntmps27
  go_wp2_with (go_at_call 51; refine ask.mono ?_)
  first | (rintro e W1 ⟨rfl, b1⟩; have zz := b1.size) | (rintro e W1 rfl b1; have zz := b1.size)
  try dsimp only
  have bW := Lib.hid (bV.trans (b1.mono bV.size))
  clear ask zz
  go_wp2
  refine bodyPost_ret (v := .tuple #[.slice (some ⟨W1.heap.size, 0, none⟩) 0 0, .int .i64 0, .int .i64 z]) (by simp [results, Try.results27, go_sem]) rfl ?_
  exact ⟨⟨_, _, rfl, own8 W1 _ bW.out.size⟩, bW.out.alloc bW.out.size _⟩
set_option maxRecDepth 1000000 in
set_option maxHeartbeats 8000000 in
theorem digsS_yes (A B C D n : Int) (a b : List Int) (hz : askC A B C D a b n = 0) (J L : Nat) (c : Int) (hSt : ∀ i, i < J → OkAt a b ⟨A, B, C, D⟩ n.toNat i) (hJ : J ≤ n.toNat + 400) (hE : EndM a b ⟨A, B, C, D⟩ n.toNat J L c) (l : List Int) (x : Int) (hl : (c = 0 ∧ l = ddL a b ⟨A, B, C, D⟩ L ∧ x = (L : Int) - l.length) ∨ (c ≠ 0 ∧ l = [] ∧ x = 0)) : DoesD 27 A B C D a b n l x c := by
  intro w v0 v1 i0 i1 _ _
  obtain ⟨q1, q2, q3, q4⟩ := askC_ok hz
  obtain ⟨⟨o0, o1, o2, o3⟩, hp⟩ := vmB_ok q1
  have hv := (vsB_iff a b).1 q2
  have hd : ∀ k, -1 ≤ dg a b k ∧ dg a b k ≤ 1 := dgs1 q2
  obtain ⟨m, rfl⟩ : ∃ m : Nat, n = m := ⟨n.toNat, by omega⟩
  simp only [Int.toNat_natCast] at hSt hJ hE
  have hL0 : L ≤ J := by cases hE <;> omega
  have hL : L ≤ 460 := by omega
  have hbd := runM_bd fun i (hi : i < L) => hSt i (by omega)
  clear hL0
  obtain ⟨W, hW, hB, xm⟩ := boxM w A B C D
  obtain ⟨V, hV, hB2, y⟩ := boxK W v0 v1 26
  have xm := xm.keep hB2
  have bV := hB.trans (hB2.mono hB.size)
  have h : Here V W.heap.size a b v0 v1 := ⟨y, i0.keep bV, i1.keep bV⟩
  have ask := askedS (n := m) xm h (by omega) (by omega) (by omega)
  rw [hz] at ask
  have RN := Lib.hid fun W' (hb : Below V.heap.size V W') => runS (xm.keep hb) (h.keep hb) hp o0 o1 o2 o3 hv.1 ⟨hv.2.1, hv.2.2.1⟩ hd (by omega) hSt hJ hE
  have HL := Lib.hid hl
  have HLen := Lib.hid (ddL_len a b ⟨A, B, C, D⟩)
  clear hz xm y h i0 i1 hB hB2 hSt hE q1 q2 q3 q4 o0 o1 o2 o3 hp hv hd hl
  obtain ⟨m0, hm0⟩ : ∃ m0 : Mo, ⟨A, B, C, D⟩ = m0 := ⟨_, rfl⟩
  simp only [hm0] at RN HL HLen hbd
  clear hm0
  go_enter Try.func27, Try.ntmps27
  go_wp2_with (go_at_call 51; refine ask.mono ?_)
  first | (rintro e W1 ⟨rfl, b1⟩; have zz := b1.size) | (rintro e W1 rfl b1; have zz := b1.size)
  try dsimp only
  have rn := RN.out _ b1
  have bW := Lib.hid (bV.trans (b1.mono bV.size))
  clear ask zz RN
  go_wp2_with (go_at_call 52; refine rn.mono ?_)
  rintro e W2 hg
  have hg := hg.mono bW.out
  obtain ⟨⟨s, k, rfl, hr⟩, b2⟩ := hg
  have HR := Lib.hid hr
  have HB2 := Lib.hid b2
  clear hr rn b2
  by_cases hc : c = 0
  · obtain ⟨_, rfl, rfl⟩ := HL.out.resolve_right (fun h => h.1 hc)
    subst hc
    have hlB : ∀ (s : Option Addr) (n k : Nat) (W : World), (Builtin.len_ #[41] 3 #[.slice s n k]).run Try.prog W = .ok (.int .i64 n) W := fun s n k W => rfl
    have hlB8 : ∀ (s : Option Addr) (n k : Nat) (W : World), (Builtin.len_ #[22] 3 #[.slice s n k]).run Try.prog W = .ok (.int .i64 n) W := fun s n k W => rfl
    obtain ⟨W3, hW3, b3, r3⟩ : ∃ W3, W2.alloc (.cells #[] 58) = W3 ∧ Below W2.heap.size W2 W3 ∧ W3.ownsRow w.heap.size 58 1 (.slice (some ⟨W2.heap.size, 0, none⟩) 0 0) 0 [] := ⟨_, rfl, (Below.refl _ _).alloc (Nat.le_refl _) _, made8 W2 _ HB2.out.size⟩
    have HR3 := Lib.hid (row_underN (k := 0) HR.out b3)
    have HB3 := Lib.hid (HB2.out.trans (b3.mono HB2.out.size))
    clear b3 HL HR HB2
    try dsimp only
    go_wp2
    go_loopw [12, 13] (fun out i wr => ∃ j : Nat, j ≤ L ∧ i = .int .i64 j ∧ wr.ownsRow w.heap.size 58 1 out (ddL a b m0 j).length ((ddL a b m0 j).map (Value.int .i8)) ∧ wr.ownsRow w.heap.size 60 6 (.slice s L k) L (trL a b m0 L) ∧ Below w.heap.size w wr) (fun _ i _ => L - (RowKit.intOf i).toNat)
    case atStart => exact ⟨0, Nat.zero_le _, rfl, r3, HR3.out, HB3.out⟩
    case round =>
      obtain ⟨j, hj, rfl, ho, ht, hb⟩ := hrel
      obtain ⟨so, co, rfl⟩ := own_formN ho
      by_cases hlt : j < L
      · obtain ⟨g, cp, hf, _, _⟩ := ht.form (by omega)
        obtain rfl : s = some ⟨g, 0, none⟩ := by simp at hf; exact hf.1
        have c0 := row_cell ht (trL_at a b m0 (r := 0) (by omega) hlt)
        have c1 := row_cell ht (trL_at a b m0 (r := 1) (by omega) hlt)
        replace c0 : wr.cell? ⟨g, j * 6, none⟩ = some (.bool (hasM (runM a b m0 j).m)) := c0
        replace c1 : wr.cell? ⟨g, j * 6 + 1, none⟩ = some (.int .i8 (tdM a b m0 j)) := c1
        have g0 : (j : Int) < L := by omega
        have hlj := HLen.out j
        obtain ⟨d, hd⟩ : ∃ d, tdM a b m0 j = d := ⟨_, rfl⟩
        rw [hd] at c1
        have hsucc : ddL a b m0 (j + 1) = if hasM (runM a b m0 j).m = true then ddL a b m0 j ++ [tdM a b m0 j] else ddL a b m0 j := rfl
        rw [hd] at hsucc
        obtain ⟨hs, hhs⟩ : ∃ x, hasM (runM a b m0 j).m = x := ⟨_, rfl⟩
        rw [hhs] at c0 hsucc
        have hLen := ddL_le a b m0 j
        clear hhs hd hf hlj
        cases hs
        · simp only [if_neg (show ¬ (false = true) by simp)] at hsucc
          have HSUC := Lib.hid hsucc
          have HO := Lib.hid ho
          have HTT := Lib.hid ht
          have HBB := Lib.hid hb
          clear hsucc ho ht hb
          go_wp2
          go_roundw
          case rel => exact ⟨j + 1, by omega, by first | rfl | simp, by rw [HSUC.out]; exact HO.out, HTT.out, HBB.out⟩
          case measure => simp [RowKit.intOf]; omega
        · simp only [if_true] at hsucc
          obtain ⟨i00, hi, hz0, hz1, hz2⟩ := info_parts info8
          obtain ⟨XS, hXS⟩ : ∃ X, (ddL a b m0 j).map (Value.int .i8) = X := ⟨_, rfl⟩
          rw [hXS] at ho
          have SEP := Lib.hid (own_typesN ht ho tyT8)
          have zb : w.heap.size ≤ wr.heap.size := hb.size
          have HTT := Lib.hid ht
          have HBB := Lib.hid hb
          have HXS := Lib.hid hXS
          have HSUC := Lib.hid hsucc
          obtain ⟨N, hN⟩ : ∃ N, (ddL a b m0 j).length = N := ⟨_, rfl⟩
          rw [hN] at ho hLen SEP ⊢
          have HNN := Lib.hid hN
          clear hsucc hXS ht hb hN
          go_wp2_with (at_builtin; refine wpList_append_own _ rfl _ _ 22 rfl w.heap.size 58 i00 (.int .i8 0) 1 1 Try.underlying22 hi hz0 hz1 hz2 rfl (by decide) _ _ _ rfl (ho.alloc _) ⟨wr.heap.size, 0, none⟩ 1 1 [.int .i8 d] rfl rfl ?d1 ?d2 ?d3 ?d4 ?d5 ?_)
          try (case d1 => exact newN _ _ _)
          case d2 => simp [Value.oneCell']
          case d3 => unfold maxLen; omega
          case d4 => omega
          case d5 => first | omega | (simp; omega)
          intro v' w9 hown9 hgrow _
          have hgrow : (wr.alloc (.cells #[.int .i8 d] 58)).grownBy w9 (Value.slice so N co).ownBlock := hgrow
          have bb9 := Lib.hid ((HBB.out.alloc HBB.out.size _).grown hgrow (by have := HBB.out.size; simp; omega) fun m hm => (ho.lt m hm).1)
          have t9 := Lib.hid ((HTT.out.alloc _).kept hgrow SEP.out)
          have row9 := Lib.hid (show w9.ownsRow w.heap.size 58 1 v' (ddL a b m0 (j + 1)).length ((ddL a b m0 (j + 1)).map (Value.int .i8)) from by
            rw [HSUC.out, List.length_append, List.map_append, HXS.out, HNN.out]
            exact hown9)
          clear hown9 hgrow ho
          go_wp2
          go_roundw
          case rel => exact ⟨j + 1, by omega, by first | rfl | simp, row9.out, t9.out, bb9.out⟩
          case measure => simp [RowKit.intOf]; omega
      · obtain rfl : j = L := by omega
        have hLen := ddL_le a b m0 j
        have HO := Lib.hid (OwnL.of_row ho rfl rfl)
        have HBB := Lib.hid hb
        obtain ⟨N, hN⟩ : ∃ N, (ddL a b m0 j).length = N := ⟨_, rfl⟩
        rw [hN] at hLen
        have HNN := Lib.hid hN
        have e1 : IntKind.i64.wrap ((j : Int) - (N : Int)) = (j : Int) - N := by rw [IntKind.wrap_i64]; omega
        rw [hN]
        clear ho ht hb hN
        go_wp2
        refine bodyPost_ret (v := .tuple #[.slice so N co, .int .i64 ((j : Int) - N), .int .i64 0]) (by simp [results, Try.results27, go_sem]) rfl ?_
        exact ⟨⟨_, _, by rw [HNN.out], HO.out⟩, HBB.out⟩
  · obtain ⟨_, rfl, rfl⟩ := HL.out.resolve_left (fun h => hc h.1)
    have cb : (c == 0) = false := by rw [beq_eq_false_iff_ne]; exact hc
    clear HL HR
    try dsimp only
    go_wp2
    refine bodyPost_ret (v := .tuple #[.slice (some ⟨W2.heap.size, 0, none⟩) 0 0, .int .i64 0, .int .i64 c]) (by simp [results, Try.results27, go_sem]) rfl ?_
    exact ⟨⟨_, _, rfl, own8 W2 _ HB2.out.size⟩, HB2.out.alloc HB2.out.size _⟩
end Go.Proofs.Yteemkophifcimaa.Sx
