/-
  The shortest part of which a list is made: the model's loops.
-/
import Derived.Test.YtlkbnpgembgdfaaV3
namespace Go.Proofs.Ytlkbnpgembgdfaa.Sx
open Go Go.RowKit
set_option linter.unusedVariables false
set_option linter.unusedSimpArgs false

/-- All numbers from n to j are those n places before. -/
def Rep (l : List Int) (n j : Nat) : Prop := ∀ i, n ≤ i → i < j → l.getD i 0 = l.getD (i - n) 0
def OkP (l : List Int) (n : Nat) : Prop := l.length % n = 0 ∧ Rep l n l.length
/-- n is the length of the shortest part. -/
def Per (l : List Int) (n : Nat) : Prop := 1 ≤ n ∧ n ≤ l.length ∧ (n < l.length → OkP l n) ∧ ∀ q, 1 ≤ q → q < n → ¬ OkP l q
theorem Per.uniq {l : List Int} {m n : Nat} (h : Per l m) (h' : Per l n) : m = n := by
  rcases Nat.lt_trichotomy m n with g | g | g
  · exact absurd (h.2.2.1 (by have := h'.2.1; omega)) (h'.2.2.2 m h.1 g)
  · exact g
  · exact absurd (h'.2.2.1 (by have := h.2.1; omega)) (h.2.2.2 n h'.1 g)
theorem dN_add (w : World) (a b : Nat) : (w.drewN a).drewN b = w.drewN (a + b) := by simp [World.drewN, Nat.add_assoc]
theorem Rep.succ {l : List Int} {n j : Nat} (h : Rep l n j) (e : l.getD j 0 = l.getD (j - n) 0) : Rep l n (j + 1) := fun i h1 h2 => by
  by_cases g : i = j
  · subst g; exact e
  · exact h i h1 (by omega)
set_option maxRecDepth 1000000 in
set_option maxHeartbeats 8000000 in
theorem periodS (b o c : Nat) (l : List Int) (w : World) (h1 : 1 ≤ l.length) (hlen : l.length ≤ 1000000) (hcs : ∀ i x, l[i]? = some x → w.cell? ⟨b, o + i, none⟩ = some (.int .i8 x)) :
    Calls Try.prog 67 #[.slice (some ⟨b, o, none⟩) l.length c] w fun e w' => ∃ p : Nat, e = .returned (.int .i64 p) ∧ Per l p ∧ ∃ q, w' = w.drewN q := by
  obtain ⟨n, hn⟩ : ∃ n, l.length = n := ⟨_, rfl⟩
  rw [hn] at hlen h1 ⊢
  have hlB : ∀ W : World, (Builtin.len_ #[22] 3 #[.slice (some ⟨b, o, none⟩) n c]).run Try.prog W = .ok (.int .i64 n) W := fun W => rfl
  have HN := Lib.hid hn
  have HC := Lib.hid hcs
  clear hn hcs
  go_enter Try.func67, Try.ntmps67
  go_wp2
  go_loopw [3, 4, 5] (fun m ok i wr => ∃ k : Nat, m = .int .i64 k ∧ 1 ≤ k ∧ k ≤ n ∧ Hid (∀ q, 1 ≤ q → q < k → ¬ OkP l q) ∧ ∃ q, wr = w.drewN q) (fun m _ _ _ => n - (RowKit.intOf m).toNat)
  case atStart => exact ⟨1, rfl, Nat.le_refl _, h1, fun q h1 h2 => by omega, 0, rfl⟩
  case round =>
    obtain ⟨k, rfl, hk1, hkn, hI, q, rfl⟩ := hrel
    by_cases hlt : k < n
    · obtain ⟨wo, hwo⟩ : ∃ wo, w.drewN q = wo := ⟨_, rfl⟩
      have hwo' : ∃ q, wo = w.drewN q := ⟨q, hwo.symm⟩
      have HWO := Lib.hid hwo'
      have HCo : Hid (∀ i x, l[i]? = some x → wo.cell? ⟨b, o + i, none⟩ = some (.int .i8 x)) := fun i x hx => by rw [← hwo]; exact HC.out i x hx
      rw [hwo]
      clear hwo hwo'
      have hkp : (0 : Int) < k := by omega
      have hmod : ((n : Int) % (k : Int)) = ((n % k : Nat) : Int) := rfl
      obtain ⟨r, hr⟩ : ∃ r, n % k = r := ⟨_, rfl⟩
      rw [hr] at hmod
      have HR := Lib.hid hr
      have hb : ∃ t : Bool, (((r : Int) == 0) = t ∧ (t = true ↔ n % k = 0)) := ⟨_, rfl, by rw [hr]; simp⟩
      obtain ⟨t, ht, htt⟩ := hb
      have HT := Lib.hid htt
      clear hr htt
      go_wp2
      go_loopw [4, 5] (fun ok i wr => ∃ (j : Nat) (tt : Bool), i = .int .i64 j ∧ k ≤ j ∧ j ≤ n ∧ ok = .bool tt ∧ Hid (tt = true ↔ (n % k = 0 ∧ Rep l k j)) ∧ ∃ q, wr = wo.drewN q) (fun _ i _ => n - (RowKit.intOf i).toNat)
      case atStart => exact ⟨k, t, rfl, Nat.le_refl _, hkn, rfl, by rw [Hid, HT.out]; exact ⟨fun h => ⟨h, fun i h1 h2 => by omega⟩, fun h => h.1⟩, 0, rfl⟩
      case round =>
        obtain ⟨j, tt, rfl, hkj, hjn, rfl, hJ, q2, rfl⟩ := hrel
        clear ht
        cases tt
        · have hno : Hid (¬ OkP l k) := fun h => by
            have := hJ.out.2 ⟨by rw [← HN.out]; exact h.1, fun i h1 h2 => h.2 i h1 (by rw [HN.out]; omega)⟩
            cases this
          by_cases hj : j < n
          all_goals
            go_wp2
            go_roundw
            case rel =>
              obtain ⟨q1, hq1⟩ := HWO.out
              exact ⟨k + 1, by simp, by omega, by omega, fun q h1 h2 => by
                by_cases e : q = k
                · subst e; exact hno.out
                · exact hI.out q h1 (by omega), q1 + q2, by rw [hq1]; exact dN_add _ _ _⟩
            case measure => simp [RowKit.intOf]; omega
        · have h0 := Lib.hid (hJ.out.1 rfl)
          clear hJ
          by_cases hj : j < n
          · obtain ⟨d, rfl⟩ : ∃ d, j = k + d := ⟨j - k, by omega⟩
            have hc1 := HCo.out (k + d) _ (getD_some (by rw [HN.out]; exact hj))
            have hc2 := HCo.out d _ (getD_some (by rw [HN.out]; omega))
            have hw1 : IntKind.i64.wrap (d : Int) = (d : Int) := by rw [IntKind.wrap_i64]; omega
            have hw2 : IntKind.i64.wrap ((k : Int) + d - k) = (d : Int) := by rw [IntKind.wrap_i64]; omega
            have hd0 : (0 : Int) ≤ (d : Int) := by omega
            have hd1 : (d : Int) < n := by omega
            have hd2 : (0 : Int) ≤ (k : Int) + d := by omega
            have hd3 : (k : Int) + d < n := by omega
            have hd4 : ((k : Int) + d).toNat = k + d := by omega
            obtain ⟨x, hx⟩ : ∃ x, l.getD (k + d) 0 = x := ⟨_, rfl⟩
            obtain ⟨y, hy⟩ : ∃ y, l.getD d 0 = y := ⟨_, rfl⟩
            rw [hx] at hc1
            rw [hy] at hc2
            have HX := Lib.hid hx
            have HY := Lib.hid hy
            clear hx hy
            go_wp2
            go_quiet (fail)
            clear hw1 hw2 hd4
            go_wp2
            go_roundw
            case rel =>
              exact ⟨k + d + 1, x == y, by simp, by omega, by omega, rfl, by
                show _ ↔ _
                rw [beq_iff_eq]
                constructor
                · intro e
                  exact ⟨h0.out.1, h0.out.2.succ (by rw [HX.out, show k + d - k = d by omega, HY.out]; exact e)⟩
                · intro e
                  have := e.2 (k + d) (by omega) (by omega)
                  rw [HX.out, show k + d - k = d by omega, HY.out] at this
                  exact this, _, rfl⟩
            case measure => simp [RowKit.intOf]; omega
          · obtain rfl : j = n := by omega
            go_wp2
            go_ret
            obtain ⟨q1, hq1⟩ := HWO.out
            exact ⟨k, rfl, ⟨hk1, by rw [HN.out]; omega, fun _ => by
              exact ⟨by rw [HN.out]; exact h0.out.1, by rw [HN.out]; exact h0.out.2⟩, hI.out⟩, q1 + q2, by rw [hq1]; exact dN_add _ _ _⟩
    · obtain rfl : k = n := by omega
      go_wp2
      go_ret
      exact ⟨k, rfl, ⟨hk1, by rw [HN.out]; exact Nat.le_refl _, fun h => by rw [HN.out] at h; omega, hI.out⟩, q, rfl⟩
end Go.Proofs.Ytlkbnpgembgdfaa.Sx
