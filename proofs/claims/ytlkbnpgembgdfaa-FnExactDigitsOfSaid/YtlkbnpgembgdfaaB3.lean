/-
  The first digits of a stream, by the model; refusals.
-/
import Derived.Test.YtlkbnpgembgdfaaB2
namespace Go.Proofs.Ytlkbnpgembgdfaa.Sx
open Go Go.RowKit
set_option linter.unusedVariables false
set_option linter.unusedSimpArgs false

set_option maxRecDepth 1000000 in
set_option maxHeartbeats 4000000 in
theorem ats_head {w : World} {B n m p b0 o c k1 : Nat} {s1 : Option Addr} {y : Int} (x : Bk w B (.slice (some ⟨b0, o, none⟩) n c) (.slice s1 m k1) 26) (la : n ≤ 1048576) (h : p < n) (hc : w.cell? ⟨b0, o + p, none⟩ = some (.int .i8 y)) :
    Calls Try.prog 43 #[.pointer (some ⟨B, 0, none⟩), .int .i64 p] w (Num .i8 y w) := by
  have hlB : ∀ (s : Option Addr) (n k : Nat) (W : World), (Builtin.len_ #[22] 3 #[.slice s n k]).run Try.prog W = .ok (.int .i64 n) W := fun s n k W => rfl
  have c0 := x.c0
  have c1 := x.c1
  clear x
  go_enter Try.func43, Try.ntmps43
  go_wp2
  go_ret
  exact ⟨rfl, Below.refl _ _⟩
set_option maxRecDepth 1000000 in
set_option maxHeartbeats 4000000 in
theorem ats_loop {w : World} {B n m q b0 o c k0 : Nat} {s0 : Option Addr} {y : Int} (x : Bk w B (.slice s0 n k0) (.slice (some ⟨b0, o, none⟩) m c) 26) (la : n ≤ 1048576) (lb : m ≤ 1048576) (hm : 1 ≤ m) (hq : q ≤ 1048576) (hc : w.cell? ⟨b0, o + q % m, none⟩ = some (.int .i8 y)) :
    Calls Try.prog 43 #[.pointer (some ⟨B, 0, none⟩), .int .i64 ((n + q : Nat) : Int)] w (Num .i8 y w) := by
  have hlB : ∀ (s : Option Addr) (n k : Nat) (W : World), (Builtin.len_ #[22] 3 #[.slice s n k]).run Try.prog W = .ok (.int .i64 n) W := fun s n k W => rfl
  have c0 := x.c0
  have c1 := x.c1
  obtain ⟨p, hp⟩ : ∃ p : Int, ((n + q : Nat) : Int) = p := ⟨_, rfl⟩
  rw [hp]
  have hlt := Nat.mod_lt q (show 0 < m by omega)
  have hmod : ((q : Int) % (m : Int)) = ((q % m : Nat) : Int) := rfl
  have ht1 : Int.tmod (q : Int) (m : Int) = ((q % m : Nat) : Int) := by rw [Int.tmod_eq_emod_of_nonneg (by omega)]; exact hmod
  obtain ⟨r, hr⟩ : ∃ r, q % m = r := ⟨_, rfl⟩
  rw [hr] at hc hlt hmod ht1
  have g1 : ¬ p < (n : Int) := by omega
  have g2 : p - (n : Int) = q := by omega
  have hw1 : IntKind.i64.wrap (q : Int) = (q : Int) := by rw [IntKind.wrap_i64]; omega
  have hw2 : IntKind.i64.wrap (r : Int) = (r : Int) := by rw [IntKind.wrap_i64]; omega
  have hw3 : IntKind.i64.wrap (p - n) = (q : Int) := by rw [g2, hw1]
  have hm0 : ((m : Int) == 0) = false := by rw [beq_eq_false_iff_ne]; omega
  have hm1 : ¬ (m : Int) = 0 := by omega
  have hr0 : (0 : Int) ≤ r := by omega
  have hr1 : (r : Int) < m := by omega
  clear x hp hr
  go_enter Try.func43, Try.ntmps43
  go_wp2
  go_quiet (fail)
  clear hw1 hw2 hw3
  go_wp2
  go_ret
  exact ⟨rfl, rfl, rfl, rfl, Nat.le_refl _, fun _ _ => rfl⟩
theorem ats {w : World} {B : Nat} {a b : List Int} {v0 v1 : Value} (h : Here w B a b v0 v1) (la : a.length ≤ 1048576) (lb : b.length ≤ 1048576) (hb : 1 ≤ b.length) {k : Nat} (hk : k ≤ 400) :
    Calls Try.prog 43 #[.pointer (some ⟨B, 0, none⟩), .int .i64 k] w (Num .i8 (dg a b k) w) := by
  rw [dg_spec]
  obtain ⟨x, h0, h1⟩ := h
  by_cases hlt : k < a.length
  · obtain ⟨b0, o, c, rfl, hc⟩ := h0.cellD hlt
    obtain ⟨s1, k1, rfl⟩ := h1.form
    rw [if_pos hlt]
    exact ats_head x la hlt hc
  · obtain ⟨s0, k0, rfl⟩ := h0.form
    obtain ⟨b0, o, c, rfl, hc⟩ := h1.cellD (i := (k - a.length) % b.length) (Nat.mod_lt _ (by omega))
    rw [if_neg hlt]
    have := ats_loop x la lb hb (show k - a.length ≤ 1048576 by omega) hc
    rw [show a.length + (k - a.length) = k by omega] at this
    exact this
set_option maxRecDepth 1000000 in
set_option maxHeartbeats 8000000 in
theorem digitsS_yes (a b : List Int) (hv : vsB a b = true) (cnt : Nat) (hc : cnt ≤ 400) : DoesL 21 a b cnt (dgL a b cnt) 0 := by
  intro w v0 v1 h0 h1
  have hvv := (vsB_iff a b).1 hv
  obtain ⟨i00, hi, hz0, hz1, hz2⟩ := info_parts info8
  obtain ⟨W, hW, hB, x⟩ := boxK w v0 v1 26
  have ok := okS x (h0.keep hB) (h1.keep hB) (by omega) (by omega)
  rw [hv] at ok
  have ci := inR (cnt : Int) 0 400 W
  rw [decide_eq_true (by omega : (0 : Int) ≤ cnt), decide_eq_true (by omega : (cnt : Int) ≤ 400)] at ci
  simp only [Bool.and_self] at ci
  have HR := Lib.hid (⟨x, h0.keep hB, h1.keep hB⟩ : Here W w.heap.size a b v0 v1)
  have la : a.length ≤ 1048576 := by omega
  have lb : b.length ≤ 1048576 := by omega
  have hb1 : 1 ≤ b.length := hvv.2.1
  have zx := x.lt
  clear hv hvv h0 h1 x
  obtain ⟨Bb, hBb⟩ : ∃ Bb, W.heap.size = Bb := ⟨_, rfl⟩
  have HB := Lib.hid hBb
  go_enter Try.func21, Try.ntmps21
  go_wp2_with (go_at_call 34; refine ok.mono ?_)
  first | (rintro e W1 rfl hs) | (rintro e W1 ⟨rfl, hs⟩)
  obtain rfl := hs.out
  clear hs ok
  go_wp2_with (go_at_call 42; refine ci.mono ?_)
  first | (rintro e W1 rfl hs) | (rintro e W1 ⟨rfl, hs⟩)
  obtain rfl := hs.out
  clear hs ci
  go_wp2
  go_loopw [6, 7] (fun v i wr => ∃ k : Nat, i = .int .i64 k ∧ k ≤ cnt ∧ wr.ownsRow Bb 53 1 v k ((dgL a b k).map (Value.int .i8)) ∧ Below Bb W1 wr) (fun _ i _ => cnt - (RowKit.intOf i).toNat)
  case atStart => exact ⟨0, rfl, Nat.zero_le _, by rw [← hBb]; exact World.ownsRow_made W1 #[] 0 (Nat.le_refl _) (by decide) rfl, (Below.refl _ _).alloc (by omega) _⟩
  case round =>
    obtain ⟨k, rfl, hk, hown, hBl⟩ := hrel
    have hsz := hBl.size
    rw [hBb] at hsz
    by_cases hlt : k < cnt
    · have hh := (HR.out).keep (W' := wr) (by rw [HB.out]; exact hBl)
      have at1 := ats hh la lb hb1 (show k ≤ 400 by omega)
      have KEY := Lib.hid (dgL_succ a b k)
      obtain ⟨y, hy⟩ : ∃ y, dg a b k = y := ⟨_, rfl⟩
      rw [hy] at at1 KEY
      obtain ⟨xs, hxs⟩ : ∃ xs, (dgL a b k).map (Value.int .i8) = xs := ⟨_, rfl⟩
      rw [hxs] at hown
      have HXS := Lib.hid hxs
      clear hy hxs hh
      clear hBb
      go_wp2_with (go_at_call 43; refine at1.mono ?_)
      rintro e W2 ⟨rfl, b2⟩
      have hown := row_below hown b2
      have hBl := hBl.trans (b2.mono hsz)
      have hsz2 := b2.size
      clear at1 b2
      go_wp2_with (at_builtin; refine wpList_append_own _ rfl _ _ 22 rfl Bb 53 i00 (.int .i8 0) 1 1 Try.underlying22 hi hz0 hz1 hz2 rfl (by decide) _ _ _ rfl (hown.alloc _) ⟨W2.heap.size, 0, none⟩ 1 1 [.int .i8 y] rfl rfl ?c1 ?c2 ?c3 ?c4 ?c5 ?_)
      case c1 => exact new1 _ _ _
      case c2 => simp [Value.oneCell']
      case c3 => unfold maxLen; omega
      case c4 => omega
      case c5 => simp; omega
      intro v' w1 hown' hgrow _
      have hb' := own_grow hown hBl (by omega) hgrow
      have HO := Lib.hid (show w1.ownsRow Bb 53 1 v' (k + 1) ((dgL a b (k + 1)).map (Value.int .i8)) by rw [KEY.out, List.map_append, HXS.out]; exact hown')
      clear hown' hgrow hown hBl
      go_wp2
      go_roundw
      case rel => exact ⟨k + 1, by simp, by omega, HO.out, hb'⟩
      case measure => simp [RowKit.intOf]; omega
    · obtain rfl : k = cnt := by omega
      have HXO := Lib.hid (show OwnL .i8 Bb wr (dgL a b k) u6 from OwnL.of_row hown (dgL_len a b k).symm rfl)
      clear hown
      obtain ⟨s, cp, rfl⟩ := HXO.out.form
      go_wp2
      refine bodyPost_ret (v := .tuple #[.slice s (dgL a b k).length cp, .int .i64 0]) (by simp [results, Try.results21, go_sem]) rfl ?_
      have := HB.out
      exact ⟨⟨s, cp, rfl, HXO.out.mono (by omega)⟩, hB.trans (hBl.mono (by omega))⟩
end Go.Proofs.Ytlkbnpgembgdfaa.Sx
