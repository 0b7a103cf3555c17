/-
  Ratios: made and valid, both programs.
-/
import Derived.Test.YteemkophifcimaaE1
namespace Go.Proofs.Yteemkophifcimaa.Sx
open Go Go.RowKit
set_option linter.unusedVariables false
set_option linter.unusedSimpArgs false

def gk (p q : Int) : Nat → Nat
  | 0 => 0
  | 1 => p.natAbs
  | _ => Int.gcd p q
set_option maxRecDepth 1000000 in
set_option maxHeartbeats 4000000 in
theorem commonI (p q : Int) (b : Nat) (t : TypeId) (w : World) (h : Bk w b (.int .i64 p) (.int .i64 q) t) (hp : -1000000000000000000 ≤ p ∧ p ≤ 1000000000000000000) (hq : -1000000000000000000 ≤ q ∧ q ≤ 1000000000000000000) :
    Calls Try.prog 79 #[.slice (some ⟨b, 0, none⟩) 2 2] w fun e w' => e = .returned (.int .i64 (Int.gcd p q)) ∧ Below w.heap.size w w' := by
  have hlB : ∀ W : World, (Builtin.len_ #[72] 3 #[.slice (some ⟨b, 0, none⟩) 2 2]).run Try.prog W = .ok (.int .i64 2) W := fun W => rfl
  have cell : ∀ w', Below w.heap.size w w' → ∀ j, j < 2 → ∃ x : Int, w'.cell? ⟨b, j, none⟩ = some (.int .i64 x) ∧ (-1000000000000000000 ≤ x ∧ x ≤ 1000000000000000000) ∧ Nat.gcd (gk p q j) x.natAbs = gk p q (j + 1) := fun w' hb j hj => by
    have h := h.keep hb
    match j, hj with
    | 0, _ => exact ⟨p, h.c0, hp, by simp [gk]⟩
    | 1, _ => exact ⟨q, h.c1, hq, rfl⟩
  obtain ⟨G, hG⟩ : ∃ G, gk p q = G := ⟨_, rfl⟩
  have g0 : G 0 = 0 := by rw [← hG]; rfl
  have g2 : Hid ((Int.gcd p q : Nat) = G 2) := by show _ = _; rw [← hG]; rfl
  rw [hG] at cell
  have CELL := Lib.hid cell
  have G0 := Lib.hid g0
  clear hG h hp hq cell g0
  go_enter Try.func79, Try.ntmps79
  go_wp2
  go_loopw [3, 5, 8] (fun c n i wr => Below w.heap.size w wr ∧ ∃ (j : Nat) (x : Int), j ≤ 2 ∧ i = .int .i64 j ∧ c = .int .i64 x ∧ (-1000000000000000000 ≤ x ∧ x ≤ 1000000000000000000) ∧ Hid (x.natAbs = G j)) (fun c n i _ => 2 - (RowKit.intOf i).toNat)
  case atStart => exact ⟨Below.refl _ _, 0, 0, by omega, rfl, rfl, by omega, by show _ = _; rw [G0.out]; rfl⟩
  case round =>
    obtain ⟨hB, j, x, hj, rfl, rfl, hx, HG⟩ := hrel
    by_cases hlt : j < 2
    · obtain ⟨y, hc, hy, hk⟩ := CELL.out _ hB j hlt
      have HK := Lib.hid hk
      clear hk
      go_wp2
      go_loopw [3, 5] (fun c n wr => Below w.heap.size w wr ∧ ∃ (x y : Int), c = .int .i64 x ∧ n = .int .i64 y ∧ (-1000000000000000000 ≤ x ∧ x ≤ 1000000000000000000) ∧ (-1000000000000000000 ≤ y ∧ y ≤ 1000000000000000000) ∧ Hid (Int.gcd x y = G (j + 1))) (fun c n _ => (RowKit.intOf n).natAbs)
      case atStart => exact ⟨hB, x, y, rfl, rfl, hx, hy, by show Nat.gcd _ _ = _; rw [HG.out, HK.out]⟩
      case round =>
        obtain ⟨hB, x, y, rfl, rfl, hx, hy, HI⟩ := hrel
        by_cases h0 : y = 0
        · have hb : ((y : Int) == 0) = true := by rw [beq_iff_eq]; exact h0
          have HN : Hid (x.natAbs = G (j + 1)) := by
            have := HI.out
            rw [h0, Int.gcd_zero_right] at this
            exact this
          go_wp2
          go_roundw
          case rel => exact ⟨hB, j + 1, x, by omega, by simp, rfl, hx, HN⟩
          case measure => simp [RowKit.intOf]; omega
        · have hb : ((y : Int) == 0) = false := by rw [beq_eq_false_iff_ne]; exact h0
          have lt := tmod_lt x y h0
          have HN : Hid (Int.gcd y (x.tmod y) = G (j + 1)) := by show _ = _; rw [gcd_tmod]; exact HI.out
          obtain ⟨z, hz⟩ : ∃ z, x.tmod y = z := ⟨_, rfl⟩
          rw [hz] at lt HN
          have zz : -1000000000000000000 ≤ z ∧ z ≤ 1000000000000000000 := by omega
          have hw : IntKind.i64.wrap z = z := by rw [IntKind.wrap_i64]; omega
          go_wp2
          go_region
          go_wp2
          go_roundw
          case rel => exact ⟨hB.drew, y, z, rfl, by simp [hz, hw], hy, zz, HN⟩
          case measure => simp [RowKit.intOf, hz, hw]; omega
    · obtain rfl : j = 2 := by omega
      have e1 : IntKind.i64.wrap (-x) = -x := by rw [IntKind.wrap_i64]; omega
      have HX := Lib.hid HG.out
      go_wp2
      · go_ret
        have hm : -x = ((x.natAbs : Nat) : Int) := by omega
        exact ⟨by rw [g2.out, ← HX.out, ← hm]; rfl, hB⟩
      · go_ret
        have hm : x = ((x.natAbs : Nat) : Int) := by omega
        exact ⟨by rw [g2.out, ← HX.out, ← hm]; rfl, hB⟩
end Go.Proofs.Yteemkophifcimaa.Sx
