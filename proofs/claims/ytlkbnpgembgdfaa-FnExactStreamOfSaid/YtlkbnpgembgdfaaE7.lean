/-
  The stream of a ratio, by the model.
-/
import Derived.Test.YtlkbnpgembgdfaaE5
import Derived.Test.YtlkbnpgembgdfaaE6
import Derived.Test.YtlkbnpgembgdfaaY1
import Derived.WalkSpells
import Derived.Deep.DeepCutAuto
namespace Go.Proofs.Ytlkbnpgembgdfaa.Sx
open Go Go.RowKit
set_option linter.unusedVariables false
set_option linter.unusedSimpArgs false

theorem info64 : (Try.prog.info? 2).map (fun i => (i.zero, i.size, i.bytes)) = some (some (.int .i64 0), 1, 8) := by kernel_rfl
theorem ty64 : (2 : TypeId) ≠ 53 := of_decide_eq_true (by kernel_rfl)
/-- Both copies, in a box. -/
structure Boxed (n : Nat) (wr wx : World) (A B : List Int) (s : Value) : Prop where
  mk ::
  here : ∃ ns sA cA sB cB, s = .pointer (some ⟨ns, 0, none⟩) ∧ Bk wx ns (.slice sA A.length cA) (.slice sB B.length cB) 26 ∧ Own2 .i8 n wx A B (.slice sA A.length cA) (.slice sB B.length cB) ∧ wr.heap.size ≤ ns
  below : Below wr.heap.size wr wx
theorem bk_ne {w : World} {b g : Nat} {x y : Value} {cs : Array Value} (h : Bk w b x y 26) (hg : w.heap[g]? = some (.cells cs 53 (0, 0))) : g ≠ b := by
  intro e
  subst e
  rw [show w.heap[g]? = some (.cells #[x, y] 26 (0, 0)) from h] at hg
  have : (26 : TypeId) = 53 := by simp at hg
  exact absurd this (of_decide_eq_true (by kernel_rfl))
theorem with_fact {p q : Prop} (h : p) (k : p → q) : q := k h
/-- What has been seen. -/
def sL (q p : Int) (k : Nat) : List Value := (List.range k).map fun j => Value.int .i64 (orb q p j)
theorem sL_succ (q p : Int) (k : Nat) : sL q p (k + 1) = sL q p k ++ [Value.int .i64 (orb q p k)] := by unfold sL; rw [List.range_succ, List.map_append]; rfl
theorem sL_at (q p : Int) {k j : Nat} (h : j < k) : (sL q p k)[j]? = some (Value.int .i64 (orb q p j)) := by unfold sL; rw [List.getElem?_map, List.getElem?_range h]; rfl
/-- What a round of the model finds, besides the rows. -/
structure Sm (q p : Int) (w : World) (k : Nat) (W : World) : Prop where
  mk ::
  rt : Bk W w.heap.size (.int .i64 p) (.int .i64 q) 41
  rs : Bk W (w.heap.size + 1) (.slice none 0 0) (.slice none 0 0) 26
  bl : Below w.heap.size w W
  sz : w.heap.size + 2 ≤ W.heap.size
set_option maxRecDepth 1000000 in
set_option maxHeartbeats 16000000 in
theorem streamOfS_no (p q : Int) (hp0 : -9223372036854775808 ≤ p) (hp1 : p ≤ 9223372036854775807) (hv : rokB p q = false) : DoesR 26 p q [] [] 1 := by
  intro w
  obtain ⟨W, hW, hB, x⟩ := boxK w (.int .i64 p) (.int .i64 q) 41
  obtain ⟨V, hV, hB2, y⟩ := boxK W (.slice none 0 0) (.slice none 0 0) 26
  have x := x.keep hB2
  have hB3 := hB.trans (hB2.mono hB.size)
  have vr := ratioS x hp0 hp1
  have Y := Lib.hid y
  have z1 : w.heap.size < W.heap.size := by rw [← hW]; simp
  rw [hv] at vr
  clear x y hB hB2 hv hp0 hp1
  go_enter Try.func26, Try.ntmps26
  go_wp2_with (go_at_call 45; refine vr.mono ?_)
  first | (rintro e W1 rfl b1) | (rintro e W1 ⟨rfl, b1⟩)
  have y := Y.out.keep b1
  have q0 := y.c0
  have q1 := y.c1
  have f0 := y.f 0
  have f1 := y.f 1
  have hB4 := hB3.trans (b1.mono hB3.size)
  go_wp2
  obtain ⟨W9, hW9, e0, e1, r9, B9⟩ := stored y (.slice none 0 0) (.slice none 0 0)
  rw [hW9]
  refine bodyPost_ret (v := .tuple #[.agg #[.slice none 0 0, .slice none 0 0], .int .i64 1]) (by simp [results, Try.results26, go_sem, e0, e1]) rfl ?_
  exact ⟨⟨_, _, _, _, rfl, OwnL.nil, OwnL.nil, fun _ _ _ _ _ _ _ _ h => by cases h⟩, hB4.trans (B9 _ (by omega))⟩
set_option maxRecDepth 1000000 in
set_option maxHeartbeats 16000000 in
theorem streamOfS_out (p q : Int) (hv : rokB p q = true) (hr : ¬ (-q ≤ p ∧ p ≤ q)) : DoesR 26 p q [] [] 2 := by
  intro w
  obtain ⟨k1, k2, k3, k4, k5⟩ := (rokB_iff p q).1 hv
  obtain ⟨W, hW, hB, x⟩ := boxK w (.int .i64 p) (.int .i64 q) 41
  obtain ⟨V, hV, hB2, y⟩ := boxK W (.slice none 0 0) (.slice none 0 0) 26
  have x := x.keep hB2
  have hB3 := hB.trans (hB2.mono hB.size)
  have vr := ratioS x (by omega) (by omega)
  have X := Lib.hid x
  have Y := Lib.hid y
  have z1 : w.heap.size < W.heap.size := by rw [← hW]; simp
  rw [hv] at vr
  have SZ := Lib.hid fun W => sizeS p W (by omega)
  have dg : decide (q < (p.natAbs : Int)) = true := by rw [decide_eq_true_iff]; omega
  clear x y hB hB2 hv hr k1 k2 k3 k4 k5
  go_enter Try.func26, Try.ntmps26
  go_wp2_with (go_at_call 45; refine vr.mono ?_)
  first | (rintro e W1 rfl b1) | (rintro e W1 ⟨rfl, b1⟩)
  have y := Y.out.keep b1
  have x := X.out.keep b1
  have c0 := x.c0
  have c1 := x.c1
  have q0 := y.c0
  have q1 := y.c1
  have f0 := y.f 0
  have f1 := y.f 1
  have hB4 := hB3.trans (b1.mono hB3.size)
  have s1 := SZ.out W1.drew
  go_wp2
  go_region_held3 (fun w' => w'.cell? ⟨w.heap.size, 0, none⟩ = some (.int .i64 p) ∧ w'.cell? ⟨w.heap.size, 1, none⟩ = some (.int .i64 q)) (first | go_keep | exact ⟨c0, c1⟩) (first | (go_at_call 46; refine s1.mono ?_; rintro e W2 ⟨rfl, hs⟩; obtain rfl := hs.out; clear hs))
  all_goals
    go_wp2
    obtain ⟨W9, hW9, e0, e1, r9, B9⟩ := stored y (.slice none 0 0) (.slice none 0 0)
    rw [hW9]
    have e0 : W9.drew.cell? _ = _ := e0
    have e1 : W9.drew.cell? _ = _ := e1
    refine bodyPost_ret (v := .tuple #[.agg #[.slice none 0 0, .slice none 0 0], .int .i64 2]) (by simp [results, Try.results26, go_sem, e0, e1]) rfl ?_
    exact ⟨⟨_, _, _, _, rfl, OwnL.nil, OwnL.nil, fun _ _ _ _ _ _ _ _ h => by cases h⟩, (hB4.trans (B9 _ (by omega))).drew⟩
set_option maxRecDepth 1000000 in
set_option maxHeartbeats 16000000 in
theorem streamOfS_yes (p q : Int) (A B : List Int) (c : Int) (hv : rokB p q = true) (hr : -q ≤ p ∧ p ≤ q) (AY : ∀ X Y ok, SRel q p X Y ok → (ok = true → vsB X Y = true → A = X ∧ B = Y ∧ c = 0) ∧ ((ok && vsB X Y) = false → A = [] ∧ B = [] ∧ c = 3)) : DoesR 26 p q A B c := by
  intro w
  obtain ⟨k1, k2, k3, k4, k5⟩ := (rokB_iff p q).1 hv
  obtain ⟨i64i, ha, ha0, ha1, ha2⟩ := info_parts info64
  obtain ⟨i00, hi, hz0, hz1, hz2⟩ := info_parts info8
  obtain ⟨W, hW, hB, x⟩ := boxK w (.int .i64 p) (.int .i64 q) 41
  obtain ⟨V, hV, hB2, y⟩ := boxK W (.slice none 0 0) (.slice none 0 0) 26
  have x := x.keep hB2
  have hB3 := hB.trans (hB2.mono hB.size)
  have vr := ratioS x (by omega) (by omega)
  have X := Lib.hid x
  have Y := Lib.hid y
  have z1 : W.heap.size = w.heap.size + 1 := by rw [← hW]; simp
  have z2 : V.heap.size = w.heap.size + 2 := by rw [← hV]; simp; omega
  rw [hv] at vr
  have SZ := Lib.hid fun W => sizeS p W (by omega)
  have dg : decide (q < (p.natAbs : Int)) = false := by rw [decide_eq_false_iff_not]; omega
  have HAY := Lib.hid AY
  have hlB : ∀ (s : Option Addr) (n k : Nat) (W : World), (Builtin.len_ #[65] 3 #[.slice s n k]).run Try.prog W = .ok (.int .i64 n) W := fun s n k W => rfl
  clear x y hB hB2 hv k3 k4 k5 AY
  go_enter Try.func26, Try.ntmps26
  go_wp2_with (go_at_call 45; refine vr.mono ?_)
  first | (rintro e W1 rfl b1) | (rintro e W1 ⟨rfl, b1⟩)
  have y := Y.out.keep b1
  have x := X.out.keep b1
  have c0 := x.c0
  have c1 := x.c1
  have hB4 := hB3.trans (b1.mono hB3.size)
  have zv := b1.size
  have s1 := SZ.out W1.drew
  clear vr b1
  go_wp2
  go_region_held3 (fun w' => w'.cell? ⟨w.heap.size, 0, none⟩ = some (.int .i64 p) ∧ w'.cell? ⟨w.heap.size, 1, none⟩ = some (.int .i64 q)) (first | go_keep | exact ⟨c0, c1⟩) (first | (go_at_call 46; refine s1.mono ?_; rintro e W2 ⟨rfl, hs⟩; obtain rfl := hs.out; clear hs))
  obtain ⟨U, hU⟩ : ∃ U, W1.drew = U := ⟨_, rfl⟩
  rw [hU]
  have x : Bk U w.heap.size (.int .i64 p) (.int .i64 q) 41 := by rw [← hU]; exact x
  have y : Bk U W.heap.size (.slice none 0 0) (.slice none 0 0) 26 := by rw [← hU]; exact y
  have hB4 : Below w.heap.size w U := by rw [← hU]; exact hB4.drew
  have zv : V.heap.size ≤ U.heap.size := by rw [← hU]; exact zv
  obtain ⟨U1, hU1, bU1, r1⟩ : ∃ U1, U.alloc (.cells #[] 2) = U1 ∧ Below U.heap.size U U1 ∧ U1.ownsRow (w.heap.size + 2) 2 1 (.slice (some ⟨U.heap.size, 0, none⟩) 0 0) 0 [] := ⟨_, rfl, (Below.refl _ _).alloc (Nat.le_refl _) _, World.ownsRow_made U #[] 0 (by omega) (by decide) rfl⟩
  have zu1 := bU1.size
  obtain ⟨U2, hU2, bU2, r2⟩ : ∃ U2, U1.alloc (.cells #[] 53) = U2 ∧ Below U1.heap.size U1 U2 ∧ U2.ownsRow (w.heap.size + 2) 53 1 (.slice (some ⟨U1.heap.size, 0, none⟩) 0 0) 0 [] := ⟨_, rfl, (Below.refl _ _).alloc (Nat.le_refl _) _, World.ownsRow_made U1 #[] 0 (by omega) (by decide) rfl⟩
  have zu2 := bU2.size
  have r1 := row_under r1 bU2
  have b12 := bU1.trans (bU2.mono bU1.size)
  have x := x.keep b12
  have y := y.keep b12
  have hB5 := hB4.trans (b12.mono hB4.size)
  have c0 := x.c0
  clear s1 bU1 bU2 b12 hU
  rw [z1] at y
  go_wp2
  go_loopw [4, 5, 6, 7, 8, 9] (fun vs vd x i s d wr => ∃ k : Nat, k ≤ 31 ∧ x = .int .i64 (orb q p k) ∧ wr.ownsRow (w.heap.size + 2) 2 1 vs k (sL q p k) ∧ wr.ownsRow (w.heap.size + 2) 53 1 vd k ((odL q p k).map (Value.int .i8)) ∧ Sm q p w k wr ∧ Hid (Dist q p k)) (fun v _ _ _ _ _ _ => match v with | .slice _ n _ => 31 - n | _ => 0)
  case atStart => exact ⟨0, by omega, rfl, r1, r2, ⟨x, y, hB5, by omega⟩, fun i j h1 h2 => by omega⟩
  case round =>
    obtain ⟨k, hk, rfl, hown, hrow, hst, hD⟩ := hrel
    obtain ⟨sv, cv, rfl⟩ := row_form hown
    obtain ⟨dv, dc, rfl⟩ := row_form hrow
    have c1 := hst.rt.c1
    have q0 := hst.rs.c0
    have q1 := hst.rs.c1
    have f0 := hst.rs.f 0
    have f1 := hst.rs.f 1
    have ST := Lib.hid hst
    have HS := Lib.hid hown
    have HR := Lib.hid hrow
    have hsz := hst.sz
    have ob := orb_in (by omega) hr k
    clear hB3 hB4 hB5 x y r1 r2 hst hW hV hU1 hU2 zv zu1 zu2 z1 z2 hown hrow c0 X Y
    by_cases hlt : k ≤ 30
    · have hd1 : decide ((k : Int) ≤ 30) = true := decide_eq_true (by omega)
      go_wp2
      go_loop [7, 8] (fun i s => ∃ j : Nat, j ≤ k ∧ i = .int .i64 j ∧ Hid (∀ m, m < j → orb q p m ≠ orb q p k)) (fun i s => k - (RowKit.intOf i).toNat)
      case atStart => exact ⟨0, Nat.zero_le _, rfl, fun m h => absurd h (Nat.not_lt_zero _)⟩
      case round =>
        obtain ⟨j, hj, rfl, hJ⟩ := hrel
        by_cases hjk : j < k
        · obtain ⟨g, cap, hf, _, _⟩ := HS.out.form (by omega)
          have hsv : sv = some ⟨g, 0, none⟩ := by simp at hf; exact hf.1
          subst hsv
          have hc := HS.out.cells (g := g) rfl j _ (sL_at q p hjk)
          rw [show ((⟨g, 0, none⟩ : Addr).add j) = ⟨g, j, none⟩ by unfold Addr.add; split <;> simp_all] at hc
          clear hf
          by_cases he : orb q p j = orb q p k
          · have hb : (orb q p j == orb q p k) = true := by rw [beq_iff_eq]; exact he
            obtain ⟨gd, rfl, hg3, hg4, own⟩ := row_cut HR.out hjk (Nat.le_refl (w.heap.size + 2))
            have REL := Lib.hid (show SRel q p ((odL q p k).take j) ((odL q p k).drop j) true from .inl ⟨rfl, j, k, hjk, by omega, he, hD.out, rfl, rfl⟩)
            have lA : ((odL q p k).take j).length = j := by rw [List.length_take, odL_len]; omega
            have lB : ((odL q p k).drop j).length = k - j := by rw [List.length_drop, odL_len]
            generalize (odL q p k).take j = TA at own REL lA
            generalize (odL q p k).drop j = TB at own REL lB
            have iA := own.o0.is
            have iB := own.o1.is
            have hTB : TB ≠ [] := fun e => by rw [e] at lB; simp at lB; omega
            rw [← lA] at iA iB
            rw [show k - TA.length = TB.length by omega] at iB
            have iA : IsL .i8 wr TA (.slice (some ⟨gd, 0, none⟩) TA.length dc) := isL_cap iA (by omega)
            have iB : IsL .i8 wr TB (.slice (some ⟨gd, TA.length, none⟩) TB.length (dc - TA.length)) := isL_cap iB (by omega)
            obtain rfl : j = TA.length := lA.symm
            obtain rfl : k = TA.length + TB.length := by omega
            have g1 : ¬ dc = TA.length := by omega
            have g2 : (TA.length : Int) ≤ dc := by omega
            have g3 : (TA.length : Int) ≤ ((TA.length + TB.length : Nat) : Int) := by omega
            have g4 : ((TA.length + TB.length : Nat) : Int) ≤ dc := by omega
            have g5 : (TA.length : Int) ≤ (TA.length : Int) + (TB.length : Int) := by omega
            have g6 : (TA.length : Int) + (TB.length : Int) ≤ dc := by omega
            have g7 : (TA.length : Int) + (TB.length : Int) - TA.length = TB.length := by omega
            have g8 : TA.length + TB.length - TA.length = TB.length := by omega
            clear own lA lB he
            have hN : wr.heap.size ≤ wr.heap.size := Nat.le_refl _
            have mA : TA.length ≤ maxLen := by unfold maxLen; omega
            have mB : TB.length ≤ maxLen := by unfold maxLen; omega
            go_upto_region 13 with (fail)
            go_cut [8] (fun s wx => Boxed (w.heap.size + 2) wr wx TA TB s)
            case first =>
             go_region_held3 (fun w' => Below wr.heap.size wr w')
              (first | exact hb3 | exact hb2 | exact (Below.refl _ _).drew | exact Below.alloc (by assumption) (Below.size (by assumption)) _ | exact (Below.alloc (Below.refl _ _) (Nat.le_refl _) _).drew | exact (Below.alloc (Below.alloc (Below.refl _ _) (Nat.le_refl _) _) (by simp) _).drew | exact (Below.alloc (Below.alloc (Below.alloc (Below.refl _ _) (Nat.le_refl _) _) (by simp) _) (by simp; omega) _).drew | exact Below.setCell (Below.setCell (by assumption) (by first | (simp; done) | (simp; omega) | omega) _) (by first | (simp; done) | (simp; omega) | omega) _)
              (first
                | (refine step_copy (by rfl) _ _ _ (by rfl) 53 i00 (.int .i8 0) 1 Try.underlying22 hi hz0 hz1 hz2 rfl _ (by rfl) .i8 TA ⟨gd, 0, none⟩ dc (by rfl) (by ((repeat' first | ((with_reducible refine at_new ?_); simp; done) | (with_reducible refine at_alloc ?_) | (with_reducible refine at_drew ?_)); done)) (iA.keep (by assumption)) mA (by omega) ?_; intro gA cA w2 hcA; have z2 := hcA.below.size; simp at z2; have hb2 : Below wr.heap.size wr w2 := Below.trans (by assumption) (hcA.below.mono (Below.size (by assumption))))
                | (refine step_copy (by rfl) _ _ _ (by rfl) 53 i00 (.int .i8 0) 1 Try.underlying22 hi hz0 hz1 hz2 rfl _ (by rfl) .i8 TB ⟨gd, TA.length, none⟩ (dc - TA.length) (by rfl) (by (repeat' first | ((with_reducible refine at_new ?_); simp; done) | (with_reducible refine at_alloc ?_) | (with_reducible refine at_drew ?_) | (with_reducible refine at_below hcA.below ?_ ?_; focus (first | (simp; done) | (simp; omega) | omega))); done) (iB.keep (by assumption)) mB (by omega) ?_; intro gB cB w3 hcB; have hb3 : Below wr.heap.size wr w3 := Below.trans (by assumption) (hcB.below.mono (Below.size (by assumption))); (first | (have ys' : w3.heap[w2.heap.size]? = some (.cells #[.slice none 0 0, .slice none 0 0] (26 : Nat) (0, 0)) := (by with_reducible exact at_below hcB.below (by first | (simp; done) | (simp; omega) | omega) (at_alloc (at_new (by first | (simp; done) | omega)))); have ys : Bk w3 w2.heap.size (.slice none 0 0) (.slice none 0 0) 26 := ys'; clear ys'; have s0 := ys.c0; have s1 := ys.c1; have t0 := ys.f 0; have t1 := ys.f 1) | (have ys' : w3.heap[(w2.heap.size + 1)]? = some (.cells #[.slice none 0 0, .slice none 0 0] (26 : Nat) (0, 0)) := (by with_reducible exact at_below hcB.below (by first | (simp; done) | (simp; omega) | omega) (at_new (by first | (simp; done) | omega))); have ys : Bk w3 (w2.heap.size + 1) (.slice none 0 0) (.slice none 0 0) 26 := ys'; clear ys'; have s0 := ys.c0; have s1 := ys.c1; have t0 := ys.f 0; have t1 := ys.f 1) | (have ys' : w3.heap[w2.heap.size]? = some (.cells #[.slice none 0 0, .slice none 0 0] (26 : Nat) (0, 0)) := (by with_reducible exact at_below hcB.below (by first | (simp; done) | (simp; omega) | omega) (at_new (by first | (simp; done) | omega))); have ys : Bk w3 w2.heap.size (.slice none 0 0) (.slice none 0 0) 26 := ys'; clear ys'; have s0 := ys.c0; have s1 := ys.c1; have t0 := ys.f 0; have t1 := ys.f 1) | (have ys' : w3.heap[(wr.heap.size)]? = some (.cells #[.slice none 0 0, .slice none 0 0] (26 : Nat) (0, 0)) := (by with_reducible exact at_below hcB.below (by first | (simp; done) | (simp; omega) | omega) (at_below hcA.below (by first | (simp; done) | (simp; omega) | omega) (at_drew (at_new (by first | (simp; done) | omega))))); have ys : Bk w3 (wr.heap.size) (.slice none 0 0) (.slice none 0 0) 26 := ys'; clear ys'; have s0 := ys.c0; have s1 := ys.c1; have t0 := ys.f 0; have t1 := ys.f 1) | (have ys' : w3.heap[(wr.heap.size)]? = some (.cells #[.slice none 0 0, .slice none 0 0] (26 : Nat) (0, 0)) := (by with_reducible exact at_below hcB.below (by first | (simp; done) | (simp; omega) | omega) (at_below hcA.below (by first | (simp; done) | (simp; omega) | omega) (at_drew (at_alloc (at_new (by first | (simp; done) | omega)))))); have ys : Bk w3 (wr.heap.size) (.slice none 0 0) (.slice none 0 0) 26 := ys'; clear ys'; have s0 := ys.c0; have s1 := ys.c1; have t0 := ys.f 0; have t1 := ys.f 1) | (have ys' : w3.heap[(wr.heap.size)]? = some (.cells #[.slice none 0 0, .slice none 0 0] (26 : Nat) (0, 0)) := (by with_reducible exact at_below hcB.below (by first | (simp; done) | (simp; omega) | omega) (at_below hcA.below (by first | (simp; done) | (simp; omega) | omega) (at_drew (at_alloc (at_alloc (at_new (by first | (simp; done) | omega))))))); have ys : Bk w3 (wr.heap.size) (.slice none 0 0) (.slice none 0 0) 26 := ys'; clear ys'; have s0 := ys.c0; have s1 := ys.c1; have t0 := ys.f 0; have t1 := ys.f 1) | (have ys' : w3.heap[(wr.heap.size)]? = some (.cells #[.slice none 0 0, .slice none 0 0] (26 : Nat) (0, 0)) := (by with_reducible exact at_below hcB.below (by first | (simp; done) | (simp; omega) | omega) (at_alloc (at_below hcA.below (by first | (simp; done) | (simp; omega) | omega) (at_drew (at_new (by first | (simp; done) | omega)))))); have ys : Bk w3 (wr.heap.size) (.slice none 0 0) (.slice none 0 0) 26 := ys'; clear ys'; have s0 := ys.c0; have s1 := ys.c1; have t0 := ys.f 0; have t1 := ys.f 1) | (have ys' : w3.heap[(wr.heap.size)]? = some (.cells #[.slice none 0 0, .slice none 0 0] (26 : Nat) (0, 0)) := (by with_reducible exact at_below hcB.below (by first | (simp; done) | (simp; omega) | omega) (at_alloc (at_below hcA.below (by first | (simp; done) | (simp; omega) | omega) (at_drew (at_alloc (at_new (by first | (simp; done) | omega))))))); have ys : Bk w3 (wr.heap.size) (.slice none 0 0) (.slice none 0 0) 26 := ys'; clear ys'; have s0 := ys.c0; have s1 := ys.c1; have t0 := ys.f 0; have t1 := ys.f 1) | (have ys' : w3.heap[(wr.heap.size)]? = some (.cells #[.slice none 0 0, .slice none 0 0] (26 : Nat) (0, 0)) := (by with_reducible exact at_below hcB.below (by first | (simp; done) | (simp; omega) | omega) (at_alloc (at_below hcA.below (by first | (simp; done) | (simp; omega) | omega) (at_drew (at_alloc (at_alloc (at_new (by first | (simp; done) | omega)))))))); have ys : Bk w3 (wr.heap.size) (.slice none 0 0) (.slice none 0 0) 26 := ys'; clear ys'; have s0 := ys.c0; have s1 := ys.c1; have t0 := ys.f 0; have t1 := ys.f 1) | (have ys' : w3.heap[(wr.heap.size + 1)]? = some (.cells #[.slice none 0 0, .slice none 0 0] (26 : Nat) (0, 0)) := (by with_reducible exact at_below hcB.below (by first | (simp; done) | (simp; omega) | omega) (at_below hcA.below (by first | (simp; done) | (simp; omega) | omega) (at_drew (at_new (by first | (simp; done) | omega))))); have ys : Bk w3 (wr.heap.size + 1) (.slice none 0 0) (.slice none 0 0) 26 := ys'; clear ys'; have s0 := ys.c0; have s1 := ys.c1; have t0 := ys.f 0; have t1 := ys.f 1) | (have ys' : w3.heap[(wr.heap.size + 1)]? = some (.cells #[.slice none 0 0, .slice none 0 0] (26 : Nat) (0, 0)) := (by with_reducible exact at_below hcB.below (by first | (simp; done) | (simp; omega) | omega) (at_below hcA.below (by first | (simp; done) | (simp; omega) | omega) (at_drew (at_alloc (at_new (by first | (simp; done) | omega)))))); have ys : Bk w3 (wr.heap.size + 1) (.slice none 0 0) (.slice none 0 0) 26 := ys'; clear ys'; have s0 := ys.c0; have s1 := ys.c1; have t0 := ys.f 0; have t1 := ys.f 1) | (have ys' : w3.heap[(wr.heap.size + 1)]? = some (.cells #[.slice none 0 0, .slice none 0 0] (26 : Nat) (0, 0)) := (by with_reducible exact at_below hcB.below (by first | (simp; done) | (simp; omega) | omega) (at_below hcA.below (by first | (simp; done) | (simp; omega) | omega) (at_drew (at_alloc (at_alloc (at_new (by first | (simp; done) | omega))))))); have ys : Bk w3 (wr.heap.size + 1) (.slice none 0 0) (.slice none 0 0) 26 := ys'; clear ys'; have s0 := ys.c0; have s1 := ys.c1; have t0 := ys.f 0; have t1 := ys.f 1) | (have ys' : w3.heap[(wr.heap.size + 1)]? = some (.cells #[.slice none 0 0, .slice none 0 0] (26 : Nat) (0, 0)) := (by with_reducible exact at_below hcB.below (by first | (simp; done) | (simp; omega) | omega) (at_alloc (at_below hcA.below (by first | (simp; done) | (simp; omega) | omega) (at_drew (at_new (by first | (simp; done) | omega)))))); have ys : Bk w3 (wr.heap.size + 1) (.slice none 0 0) (.slice none 0 0) 26 := ys'; clear ys'; have s0 := ys.c0; have s1 := ys.c1; have t0 := ys.f 0; have t1 := ys.f 1) | (have ys' : w3.heap[(wr.heap.size + 1)]? = some (.cells #[.slice none 0 0, .slice none 0 0] (26 : Nat) (0, 0)) := (by with_reducible exact at_below hcB.below (by first | (simp; done) | (simp; omega) | omega) (at_alloc (at_below hcA.below (by first | (simp; done) | (simp; omega) | omega) (at_drew (at_alloc (at_new (by first | (simp; done) | omega))))))); have ys : Bk w3 (wr.heap.size + 1) (.slice none 0 0) (.slice none 0 0) 26 := ys'; clear ys'; have s0 := ys.c0; have s1 := ys.c1; have t0 := ys.f 0; have t1 := ys.f 1) | (have ys' : w3.heap[(wr.heap.size + 1)]? = some (.cells #[.slice none 0 0, .slice none 0 0] (26 : Nat) (0, 0)) := (by with_reducible exact at_below hcB.below (by first | (simp; done) | (simp; omega) | omega) (at_alloc (at_below hcA.below (by first | (simp; done) | (simp; omega) | omega) (at_drew (at_alloc (at_alloc (at_new (by first | (simp; done) | omega)))))))); have ys : Bk w3 (wr.heap.size + 1) (.slice none 0 0) (.slice none 0 0) 26 := ys'; clear ys'; have s0 := ys.c0; have s1 := ys.c1; have t0 := ys.f 0; have t1 := ys.f 1) | (have ys' : w3.heap[(wr.heap.size + 1 + 1)]? = some (.cells #[.slice none 0 0, .slice none 0 0] (26 : Nat) (0, 0)) := (by with_reducible exact at_below hcB.below (by first | (simp; done) | (simp; omega) | omega) (at_below hcA.below (by first | (simp; done) | (simp; omega) | omega) (at_drew (at_new (by first | (simp; done) | omega))))); have ys : Bk w3 (wr.heap.size + 1 + 1) (.slice none 0 0) (.slice none 0 0) 26 := ys'; clear ys'; have s0 := ys.c0; have s1 := ys.c1; have t0 := ys.f 0; have t1 := ys.f 1) | (have ys' : w3.heap[(wr.heap.size + 1 + 1)]? = some (.cells #[.slice none 0 0, .slice none 0 0] (26 : Nat) (0, 0)) := (by with_reducible exact at_below hcB.below (by first | (simp; done) | (simp; omega) | omega) (at_below hcA.below (by first | (simp; done) | (simp; omega) | omega) (at_drew (at_alloc (at_new (by first | (simp; done) | omega)))))); have ys : Bk w3 (wr.heap.size + 1 + 1) (.slice none 0 0) (.slice none 0 0) 26 := ys'; clear ys'; have s0 := ys.c0; have s1 := ys.c1; have t0 := ys.f 0; have t1 := ys.f 1) | (have ys' : w3.heap[(wr.heap.size + 1 + 1)]? = some (.cells #[.slice none 0 0, .slice none 0 0] (26 : Nat) (0, 0)) := (by with_reducible exact at_below hcB.below (by first | (simp; done) | (simp; omega) | omega) (at_below hcA.below (by first | (simp; done) | (simp; omega) | omega) (at_drew (at_alloc (at_alloc (at_new (by first | (simp; done) | omega))))))); have ys : Bk w3 (wr.heap.size + 1 + 1) (.slice none 0 0) (.slice none 0 0) 26 := ys'; clear ys'; have s0 := ys.c0; have s1 := ys.c1; have t0 := ys.f 0; have t1 := ys.f 1) | (have ys' : w3.heap[(wr.heap.size + 1 + 1)]? = some (.cells #[.slice none 0 0, .slice none 0 0] (26 : Nat) (0, 0)) := (by with_reducible exact at_below hcB.below (by first | (simp; done) | (simp; omega) | omega) (at_alloc (at_below hcA.below (by first | (simp; done) | (simp; omega) | omega) (at_drew (at_new (by first | (simp; done) | omega)))))); have ys : Bk w3 (wr.heap.size + 1 + 1) (.slice none 0 0) (.slice none 0 0) 26 := ys'; clear ys'; have s0 := ys.c0; have s1 := ys.c1; have t0 := ys.f 0; have t1 := ys.f 1) | (have ys' : w3.heap[(wr.heap.size + 1 + 1)]? = some (.cells #[.slice none 0 0, .slice none 0 0] (26 : Nat) (0, 0)) := (by with_reducible exact at_below hcB.below (by first | (simp; done) | (simp; omega) | omega) (at_alloc (at_below hcA.below (by first | (simp; done) | (simp; omega) | omega) (at_drew (at_alloc (at_new (by first | (simp; done) | omega))))))); have ys : Bk w3 (wr.heap.size + 1 + 1) (.slice none 0 0) (.slice none 0 0) 26 := ys'; clear ys'; have s0 := ys.c0; have s1 := ys.c1; have t0 := ys.f 0; have t1 := ys.f 1) | (have ys' : w3.heap[(wr.heap.size + 1 + 1)]? = some (.cells #[.slice none 0 0, .slice none 0 0] (26 : Nat) (0, 0)) := (by with_reducible exact at_below hcB.below (by first | (simp; done) | (simp; omega) | omega) (at_alloc (at_below hcA.below (by first | (simp; done) | (simp; omega) | omega) (at_drew (at_alloc (at_alloc (at_new (by first | (simp; done) | omega)))))))); have ys : Bk w3 (wr.heap.size + 1 + 1) (.slice none 0 0) (.slice none 0 0) 26 := ys'; clear ys'; have s0 := ys.c0; have s1 := ys.c1; have t0 := ys.f 0; have t1 := ys.f 1) | skip)))
             all_goals
              obtain ⟨csA, h1A, h2A, h3A, h4A⟩ := hcA.here
              obtain ⟨csB, h1B, h2B, h3B, h4B⟩ := hcB.here
              have lA := hcA.lt
              have hA3 : w3.heap[gA]? = some (.cells csA 53 (0, 0)) := by
                first
                  | with_reducible exact at_below hcB.below (by first | (simp; done) | (simp; omega) | omega) h1A
                  | with_reducible exact at_below hcB.below (by first | (simp; done) | (simp; omega) | omega) (at_alloc h1A)
                  | with_reducible exact at_below hcB.below (by first | (simp; done) | (simp; omega) | omega) (at_alloc (at_alloc h1A))
              have hne : gA ≠ gB := by
                rcases hcB.lies with ⟨_, h⟩ | h
                · exact absurd h hTB
                · intro e
                  rw [h] at e
                  first
                    | omega
                    | (simp at e; omega)
              have pAB : Apart (.slice (some ⟨gA, 0, none⟩) TA.length cA) (.slice (some ⟨gB, 0, none⟩) TB.length cB) := fun b1 o1 l1 c1 b2 o2 l2 c2 e1 e2 e3 => by
                cases e1
                cases e2
                exact absurd e3 hne
              first
                | (obtain ⟨W5, hW5, y5, g5⟩ := storedK ys (.slice (some ⟨gA, 0, none⟩) TA.length cA) (.slice (some ⟨gB, 0, none⟩) TB.length cB)
                   rw [hW5]
                   have hA5 := (g5.block gA (heap_lt hA3) (fun e => bk_ne ys hA3 (Option.some.inj e))).trans hA3
                   have hB5 := (g5.block gB (heap_lt h1B) (fun e => bk_ne ys h1B (Option.some.inj e))).trans h1B
                   go_wp2_with fail
                   go_meet
                   exact ⟨⟨_, _, _, _, _, rfl, y5, ⟨hcA.own (hA5.trans h1A.symm) (by first | (simp; done) | (simp; omega) | omega) (by first | (simp; done) | (simp; omega) | omega), hcB.own (hB5.trans h1B.symm) (by first | (simp; done) | (simp; omega) | omega) (by first | (simp; done) | (simp; omega) | omega), pAB⟩, (by first | (simp; done) | (simp; omega) | omega)⟩, hb3.grown g5 hb3.size (fun j e => by have := Option.some.inj e; subst this; first | (simp; done) | (simp; omega) | omega)⟩)
                | (obtain ⟨W5, hW5, bS, y5⟩ := boxK w3 (.slice (some ⟨gA, 0, none⟩) TA.length cA) (.slice (some ⟨gB, 0, none⟩) TB.length cB) 26
                   rw [hW5]
                   have hA5 := at_below bS (heap_lt hA3) hA3
                   have hB5 := at_below bS (heap_lt h1B) h1B
                   go_wp2_with fail
                   go_meet
                   exact ⟨⟨_, _, _, _, _, rfl, y5, ⟨hcA.own (hA5.trans h1A.symm) (by first | (simp; done) | (simp; omega) | omega) (by first | (simp; done) | (simp; omega) | omega), hcB.own (hB5.trans h1B.symm) (by first | (simp; done) | (simp; omega) | omega) (by first | (simp; done) | (simp; omega) | omega), pAB⟩, hb3.size⟩, hb3.trans (bS.mono hb3.size)⟩)
            case rest =>
            obtain ⟨⟨ns, sA, cA, sB, cB, rfl, y5, o5, hns⟩, b5⟩ := hcut
            have ok5 := okS y5 o5.o0.is o5.o1.is (by omega) (by omega)
            obtain ⟨AY1, AY2⟩ := HAY.out _ _ _ REL.out
            have y := ST.out.rs.keep b5
            have hB6 := ST.out.bl.trans (b5.mono ST.out.bl.size)
            have q0 := y.c0
            have q1 := y.c1
            have f0 := y.f 0
            have f1 := y.f 1
            have k0 := y5.c0
            have k1 := y5.c1
            obtain ⟨vs, hvs⟩ : ∃ vs, vsB TA TB = vs := ⟨_, rfl⟩
            rw [hvs] at ok5 AY1 AY2
            clear hvs iA iB mA mB hTB g1 g2 g3 g4 g5 g6 g7 g8 hc
            go_wp2_with (go_at_call 34; refine ok5.mono ?_)
            first | (rintro e W6 rfl hs) | (rintro e W6 ⟨rfl, hs⟩)
            obtain rfl := hs.out
            clear hs ok5
            cases vs
            · obtain ⟨rfl, rfl, rfl⟩ := AY2 (by simp)
              go_wp2
              obtain ⟨W9, hW9, e0, e1, r9, B9⟩ := stored y (.slice none 0 0) (.slice none 0 0)
              rw [hW9]
              refine bodyPost_ret (v := .tuple #[.agg #[.slice none 0 0, .slice none 0 0], .int .i64 3]) (by simp [results, Try.results26, go_sem, e0, e1]) rfl ?_
              exact ⟨⟨_, _, _, _, rfl, OwnL.nil, OwnL.nil, fun _ _ _ _ _ _ _ _ h => by cases h⟩, hB6.trans (B9 _ (by omega))⟩
            · obtain ⟨rfl, rfl, rfl⟩ := AY1 (by simp) (by simp)
              go_wp2
              obtain ⟨W9, hW9, e0, e1, r9, B9⟩ := stored y (.slice sA A.length cA) (.slice sB B.length cB)
              rw [hW9]
              refine bodyPost_ret (v := .tuple #[.agg #[.slice sA A.length cA, .slice sB B.length cB], .int .i64 0]) (by simp [results, Try.results26, go_sem, e0, e1]) rfl ?_
              exact ⟨⟨sA, cA, sB, cB, rfl, (o5.o0.rest (by omega) r9).mono (by omega), (o5.o1.rest (by omega) r9).mono (by omega), o5.apart⟩, hB6.trans (B9 _ (by omega))⟩
          · have hb : (orb q p j == orb q p k) = false := by rw [beq_eq_false_iff_ne]; exact he
            have HJ : Hid (∀ m, m < j + 1 → orb q p m ≠ orb q p k) := fun m hm => by
              by_cases e : m = j
              · subst e; exact he
              · exact hJ.out m (by omega)
            clear he
            go_wp2
            go_round
            case rel => exact ⟨j + 1, by omega, by simp, HJ⟩
            case measure => simp [RowKit.intOf]; omega
        · obtain rfl : j = k := by omega
          have DS := Lib.hid (hD.out.succ hJ.out)
          have KEY := Lib.hid (odL_succ q p j)
          have SKEY := Lib.hid (sL_succ q p j)
          have KST := Lib.hid (show orb q p (j + 1) = rnx q (orb q p j) from rfl)
          obtain ⟨x, hx⟩ : ∃ x, orb q p j = x := ⟨_, rfl⟩
          rw [hx] at ob KEY SKEY KST ⊢
          have hs1 := HS.out
          have hr1 := HR.out
          obtain ⟨X, hX⟩ : ∃ X, sL q p j = X := ⟨_, rfl⟩
          obtain ⟨Z, hZ⟩ : ∃ Z, (odL q p j).map (Value.int .i8) = Z := ⟨_, rfl⟩
          rw [hX] at hs1
          rw [hZ] at hr1
          have HXX := Lib.hid hX
          have HZZ := Lib.hid hZ
          have hNr : w.heap.size + 2 ≤ wr.heap.size := hsz
          have SEP := Lib.hid (own_types hr1 hs1 (Ne.symm ty64))
          clear hX hZ HS HR hx
          go_wp2_with (at_builtin; refine wpList_append_own _ rfl _ _ 65 rfl (w.heap.size + 2) 2 i64i (.int .i64 0) 1 8 Try.underlying65 ha ha0 ha1 ha2 rfl (by decide) _ _ _ rfl (hs1.alloc _) ⟨wr.heap.size, 0, none⟩ 1 1 [.int .i64 x] rfl rfl ?c1 ?c2 ?c3 ?c4 ?c5 ?_)
          try (case c1 => exact new1 _ _ _)
          case c2 => simp [Value.oneCell']
          case c3 => unfold maxLen; omega
          case c4 => omega
          case c5 => first | omega | (simp; omega)
          intro v' w1 hown1 hgrow _
          have hgrow : (wr.alloc (.cells #[.int .i64 x] 2)).grownBy w1 (Value.slice sv j cv).ownBlock := hgrow
          have low : ∀ m, m < w.heap.size + 2 → some m ≠ (Value.slice sv j cv).ownBlock := fun m hm e => by have := (hs1.lt m e.symm).1; omega
          have old : ∀ m, m < w.heap.size + 2 → w1.heap[m]? = wr.heap[m]? := fun m hm => (hgrow.block m (by simp; omega) (low m hm)).trans (Below.heap_alloc _ _ m (by omega))
          have x1 : Bk w1 w.heap.size (.int .i64 p) (.int .i64 q) 41 := (old _ (by omega)).trans ST.out.rt
          have y1 : Bk w1 (w.heap.size + 1) (.slice none 0 0) (.slice none 0 0) 26 := (old _ (by omega)).trans ST.out.rs
          have bl1 : Below w.heap.size w w1 := (ST.out.bl.alloc ST.out.bl.size _).grown hgrow (by simp; omega) fun m hm => by have := (hs1.lt m hm).1; omega
          have hr2 : w1.ownsRow (w.heap.size + 2) 53 1 (.slice dv j dc) j Z := (hr1.alloc _).kept hgrow SEP.out
          have sz1 : w.heap.size + 2 ≤ w1.heap.size := by have := hgrow.size; simp at this; omega
          have hown1 : w1.ownsRow (w.heap.size + 2) 2 1 v' (j + 1) (sL q p (j + 1)) := by rw [SKEY.out, HXX.out]; exact hown1
          obtain ⟨sv', cv', rfl⟩ := row_form hown1
          have c1 := x1.c1
          have X1 := Lib.hid x1
          have Y1 := Lib.hid y1
          have SEP2 := Lib.hid (own_types hown1 hr2 ty64)
          have HO1 := Lib.hid hown1
          clear hgrow low old x1 y1 hown1 SEP hs1 hr1 q0 q1 f0 f1
          have e0 : IntKind.i64.wrap (2 * x) = 2 * x := by rw [IntKind.wrap_i64]; omega
          have e1 : IntKind.i64.wrap (-q) = -q := by rw [IntKind.wrap_i64]; omega
          by_cases h1 : q ≤ 2 * x
          · have h2 : ¬ 2 * x ≤ -q := by omega
            have d1 := decide_eq_true h1
            have d2 := decide_eq_false h2
            have g1 : IntKind.i64.wrap (2 * x - q) = 2 * x - q := by rw [IntKind.wrap_i64]; omega
            have g2 : IntKind.i64.wrap q = q := by rw [IntKind.wrap_i64]; omega
            have hD1 := Lib.hid (show rdg q x = 1 by unfold rdg; first | (rw [if_pos h1]) | (rw [if_neg h1, if_pos h2]) | (rw [if_neg h1, if_neg h2]))
            have HNX := Lib.hid (show orb q p (j + 1) = 2 * x - q by rw [KST.out]; unfold rnx; rw [hD1.out]; omega)
            have KK := Lib.hid (show (odL q p (j + 1)).map (Value.int .i8) = Z ++ [.int .i8 (1)] by rw [KEY.out, List.map_append, HZZ.out, hD1.out]; rfl)
            clear KST KEY HZZ
            go_wp2_with (at_builtin; refine wpList_append_own _ rfl _ _ 22 rfl (w.heap.size + 2) 53 i00 (.int .i8 0) 1 1 Try.underlying22 hi hz0 hz1 hz2 rfl (by decide) _ _ _ rfl (hr2.alloc _) ⟨w1.heap.size, 0, none⟩ 1 1 [.int .i8 (1)] rfl rfl ?d1 ?d2 ?d3 ?d4 ?d5 ?_)
            try (case d1 => exact new1 _ _ _)
            case d2 => simp [Value.oneCell']
            case d3 => unfold maxLen; omega
            case d4 => omega
            case d5 => first | omega | (simp; omega)
            intro v2 w2 hown2 hgrow _
            have hgrow : (w1.alloc (.cells #[.int .i8 (1)] 53)).grownBy w2 (Value.slice dv j dc).ownBlock := hgrow
            have low : ∀ m, m < w.heap.size + 2 → some m ≠ (Value.slice dv j dc).ownBlock := fun m hm e => by have := (hr2.lt m e.symm).1; omega
            have old : ∀ m, m < w.heap.size + 2 → w2.heap[m]? = w1.heap[m]? := fun m hm => (hgrow.block m (by simp; omega) (low m hm)).trans (Below.heap_alloc _ _ m (by omega))
            have x2 : Bk w2 w.heap.size (.int .i64 p) (.int .i64 q) 41 := (old _ (by omega)).trans X1.out
            have y2 : Bk w2 (w.heap.size + 1) (.slice none 0 0) (.slice none 0 0) 26 := (old _ (by omega)).trans Y1.out
            have bl2 : Below w.heap.size w w2 := (bl1.alloc bl1.size _).grown hgrow (by simp; omega) fun m hm => by have := (hr2.lt m hm).1; omega
            have hs2 := (HO1.out.alloc _).kept hgrow SEP2.out
            have sz2 : w.heap.size + 2 ≤ w2.heap.size := by have := hgrow.size; simp at this; omega
            have O2 := Lib.hid (show w2.ownsRow (w.heap.size + 2) 53 1 v2 (j + 1) ((odL q p (j + 1)).map (Value.int .i8)) by rw [KK.out]; exact hown2)
            have H2 := Lib.hid hs2
            have c1 := x2.c1
            have SM := Lib.hid (show Sm q p w (j + 1) w2 from ⟨x2, y2, bl2, sz2⟩)
            clear hgrow low old x2 y2 hown2 hs2 hr2 bl1 bl2 HO1 SEP2
            go_wp2
            go_roundw
            case rel => exact ⟨j + 1, by omega, by first | (rw [HNX.out]; done) | (rw [HNX.out]; simp), H2.out, O2.out, SM.out, DS.out⟩
            case measure => show 31 - (j + 1) < 31 - j; omega
          · by_cases h2 : 2 * x ≤ -q
            · skip
              have d1 := decide_eq_false h1
              have d2 := decide_eq_true h2
              have g1 : IntKind.i64.wrap (2 * x + q) = 2 * x + q := by rw [IntKind.wrap_i64]; omega
              have g2 : 2 * x - -q = 2 * x + q := by omega
              have hD1 := Lib.hid (show rdg q x = -1 by unfold rdg; first | (rw [if_pos h1]) | (rw [if_neg h1, if_pos h2]) | (rw [if_neg h1, if_neg h2]))
              have HNX := Lib.hid (show orb q p (j + 1) = 2 * x + q by rw [KST.out]; unfold rnx; rw [hD1.out]; omega)
              have KK := Lib.hid (show (odL q p (j + 1)).map (Value.int .i8) = Z ++ [.int .i8 (-1)] by rw [KEY.out, List.map_append, HZZ.out, hD1.out]; rfl)
              clear KST KEY HZZ
              go_wp2_with (at_builtin; refine wpList_append_own _ rfl _ _ 22 rfl (w.heap.size + 2) 53 i00 (.int .i8 0) 1 1 Try.underlying22 hi hz0 hz1 hz2 rfl (by decide) _ _ _ rfl (hr2.alloc _) ⟨w1.heap.size, 0, none⟩ 1 1 [.int .i8 (-1)] rfl rfl ?f1 ?f2 ?f3 ?f4 ?f5 ?_)
              try (case f1 => exact new1 _ _ _)
              case f2 => simp [Value.oneCell']
              case f3 => unfold maxLen; omega
              case f4 => omega
              case f5 => first | omega | (simp; omega)
              intro v2 w2 hown2 hgrow _
              have hgrow : (w1.alloc (.cells #[.int .i8 (-1)] 53)).grownBy w2 (Value.slice dv j dc).ownBlock := hgrow
              have low : ∀ m, m < w.heap.size + 2 → some m ≠ (Value.slice dv j dc).ownBlock := fun m hm e => by have := (hr2.lt m e.symm).1; omega
              have old : ∀ m, m < w.heap.size + 2 → w2.heap[m]? = w1.heap[m]? := fun m hm => (hgrow.block m (by simp; omega) (low m hm)).trans (Below.heap_alloc _ _ m (by omega))
              have x2 : Bk w2 w.heap.size (.int .i64 p) (.int .i64 q) 41 := (old _ (by omega)).trans X1.out
              have y2 : Bk w2 (w.heap.size + 1) (.slice none 0 0) (.slice none 0 0) 26 := (old _ (by omega)).trans Y1.out
              have bl2 : Below w.heap.size w w2 := (bl1.alloc bl1.size _).grown hgrow (by simp; omega) fun m hm => by have := (hr2.lt m hm).1; omega
              have hs2 := (HO1.out.alloc _).kept hgrow SEP2.out
              have sz2 : w.heap.size + 2 ≤ w2.heap.size := by have := hgrow.size; simp at this; omega
              have O2 := Lib.hid (show w2.ownsRow (w.heap.size + 2) 53 1 v2 (j + 1) ((odL q p (j + 1)).map (Value.int .i8)) by rw [KK.out]; exact hown2)
              have H2 := Lib.hid hs2
              have c1 := x2.c1
              have SM := Lib.hid (show Sm q p w (j + 1) w2 from ⟨x2, y2, bl2, sz2⟩)
              clear hgrow low old x2 y2 hown2 hs2 hr2 bl1 bl2 HO1 SEP2
              go_wp2
              go_roundw
              case rel => exact ⟨j + 1, by omega, by first | (rw [HNX.out]; done) | (rw [HNX.out]; simp), H2.out, O2.out, SM.out, DS.out⟩
              case measure => show 31 - (j + 1) < 31 - j; omega
            · skip
              have d1 := decide_eq_false h1
              have d2 := decide_eq_false h2
              have hD1 := Lib.hid (show rdg q x = 0 by unfold rdg; first | (rw [if_pos h1]) | (rw [if_neg h1, if_pos h2]) | (rw [if_neg h1, if_neg h2]))
              have HNX := Lib.hid (show orb q p (j + 1) = 2 * x by rw [KST.out]; unfold rnx; rw [hD1.out]; omega)
              have KK := Lib.hid (show (odL q p (j + 1)).map (Value.int .i8) = Z ++ [.int .i8 (0)] by rw [KEY.out, List.map_append, HZZ.out, hD1.out]; rfl)
              clear KST KEY HZZ
              go_wp2_with (at_builtin; refine wpList_append_own _ rfl _ _ 22 rfl (w.heap.size + 2) 53 i00 (.int .i8 0) 1 1 Try.underlying22 hi hz0 hz1 hz2 rfl (by decide) _ _ _ rfl (hr2.alloc _) ⟨w1.heap.size, 0, none⟩ 1 1 [.int .i8 (0)] rfl rfl ?g1 ?g2 ?g3 ?g4 ?g5 ?_)
              try (case g1 => exact new1 _ _ _)
              case g2 => simp [Value.oneCell']
              case g3 => unfold maxLen; omega
              case g4 => omega
              case g5 => first | omega | (simp; omega)
              intro v2 w2 hown2 hgrow _
              have hgrow : (w1.alloc (.cells #[.int .i8 (0)] 53)).grownBy w2 (Value.slice dv j dc).ownBlock := hgrow
              have low : ∀ m, m < w.heap.size + 2 → some m ≠ (Value.slice dv j dc).ownBlock := fun m hm e => by have := (hr2.lt m e.symm).1; omega
              have old : ∀ m, m < w.heap.size + 2 → w2.heap[m]? = w1.heap[m]? := fun m hm => (hgrow.block m (by simp; omega) (low m hm)).trans (Below.heap_alloc _ _ m (by omega))
              have x2 : Bk w2 w.heap.size (.int .i64 p) (.int .i64 q) 41 := (old _ (by omega)).trans X1.out
              have y2 : Bk w2 (w.heap.size + 1) (.slice none 0 0) (.slice none 0 0) 26 := (old _ (by omega)).trans Y1.out
              have bl2 : Below w.heap.size w w2 := (bl1.alloc bl1.size _).grown hgrow (by simp; omega) fun m hm => by have := (hr2.lt m hm).1; omega
              have hs2 := (HO1.out.alloc _).kept hgrow SEP2.out
              have sz2 : w.heap.size + 2 ≤ w2.heap.size := by have := hgrow.size; simp at this; omega
              have O2 := Lib.hid (show w2.ownsRow (w.heap.size + 2) 53 1 v2 (j + 1) ((odL q p (j + 1)).map (Value.int .i8)) by rw [KK.out]; exact hown2)
              have H2 := Lib.hid hs2
              have c1 := x2.c1
              have SM := Lib.hid (show Sm q p w (j + 1) w2 from ⟨x2, y2, bl2, sz2⟩)
              clear hgrow low old x2 y2 hown2 hs2 hr2 bl1 bl2 HO1 SEP2
              go_wp2
              go_roundw
              case rel => exact ⟨j + 1, by omega, by first | (rw [HNX.out]; done) | (rw [HNX.out]; simp), H2.out, O2.out, SM.out, DS.out⟩
              case measure => show 31 - (j + 1) < 31 - j; omega
    · obtain rfl : k = 31 := by omega
      have hd1 : decide (((31 : Nat) : Int) ≤ 30) = false := by decide
      obtain ⟨AY1, AY2⟩ := HAY.out [] [] false (.inr ⟨rfl, hD.out, rfl, rfl⟩)
      obtain ⟨rfl, rfl, rfl⟩ := AY2 (by simp)
      have y := ST.out.rs
      have hB6 := ST.out.bl
      go_wp2
      obtain ⟨W9, hW9, e0, e1, r9, B9⟩ := stored y (.slice none 0 0) (.slice none 0 0)
      rw [hW9]
      refine bodyPost_ret (v := .tuple #[.agg #[.slice none 0 0, .slice none 0 0], .int .i64 3]) (by simp [results, Try.results26, go_sem, e0, e1]) rfl ?_
      exact ⟨⟨_, _, _, _, rfl, OwnL.nil, OwnL.nil, fun _ _ _ _ _ _ _ _ h => by cases h⟩, hB6.trans (B9 _ (by omega))⟩
end Go.Proofs.Ytlkbnpgembgdfaa.Sx
