/-
  The shortest part of which a list is made: the code's loop.
-/
import Derived.Test.YtlkbnpgembgdfaaP1
namespace Go.Proofs.Ytlkbnpgembgdfaa.Sx
open Go Go.RowKit
set_option linter.unusedVariables false
set_option linter.unusedSimpArgs false

def eqB (x y : Nat → Int) (m : Nat) : Bool := (List.range m).all fun i => x i == y i
theorem eqB_iff (x y : Nat → Int) (m : Nat) : eqB x y m = true ↔ ∀ i, i < m → x i = y i := by simp [eqB]
theorem eqB_not {x y : Nat → Int} {m i : Nat} (h : i < m) (e : x i ≠ y i) : eqB x y m = false := by
  rw [← Bool.not_eq_true, eqB_iff]
  exact fun h' => e (h' i h)
set_option maxRecDepth 1000000 in
set_option maxHeartbeats 4000000 in
theorem equal8 (b o c b' o' c' m : Nat) (x y : Nat → Int) (w : World) (hlen : m ≤ 1000000) (hcs : ∀ i, i < m → w.cell? ⟨b, o + i, none⟩ = some (.int .i8 (x i))) (hcs' : ∀ i, i < m → w.cell? ⟨b', o' + i, none⟩ = some (.int .i8 (y i))) :
    Calls Try.prog 75 #[.slice (some ⟨b, o, none⟩) m c, .slice (some ⟨b', o', none⟩) m c'] w fun e w' => e = .returned (.bool (eqB x y m)) ∧ ∃ q, w' = w.drewN q := by
  have hlB : ∀ (s : Option Addr) (k : Nat) (W : World), (Builtin.len_ #[22] 3 #[.slice s m k]).run Try.prog W = .ok (.int .i64 m) W := fun s k W => rfl
  have HC := Lib.hid hcs
  have HC' := Lib.hid hcs'
  clear hcs hcs'
  go_enter Try.func75, Try.ntmps75
  go_wp2
  go_loopw [13] (fun i wr => ∃ j : Nat, j ≤ m ∧ i = .int .i64 j ∧ Hid (∀ p, p < j → x p = y p) ∧ ∃ q, wr = w.drewN q) (fun i _ => m - (RowKit.intOf i).toNat)
  case atStart => exact ⟨0, Nat.zero_le _, rfl, fun p h => absurd h (Nat.not_lt_zero _), 0, rfl⟩
  case round =>
    obtain ⟨j, hj, rfl, hI, q, rfl⟩ := hrel
    by_cases hlt : j < m
    · have c1 := HC.out j hlt
      have c2 := HC'.out j hlt
      obtain ⟨u, hu⟩ : ∃ u, x j = u := ⟨_, rfl⟩
      obtain ⟨v, hv⟩ : ∃ v, y j = v := ⟨_, rfl⟩
      rw [hu] at c1
      rw [hv] at c2
      have HU := Lib.hid hu
      have HV := Lib.hid hv
      clear hu hv
      by_cases e : u = v
      · subst e
        go_wp2
        go_quiet (fail)
        go_wp2
        go_roundw
        case rel => exact ⟨j + 1, by omega, by simp, fun p hp => by
          by_cases e : p = j
          · subst e; rw [HU.out, HV.out]
          · exact hI.out p (by omega), _, rfl⟩
        case measure => simp [RowKit.intOf]; omega
      · have hf := Lib.hid (eqB_not (x := x) (y := y) hlt (by rw [HU.out, HV.out]; exact e))
        have hne : (u != v) = true := by simpa using e
        go_wp2
        go_quiet (fail)
        go_wp2
        go_ret
        exact ⟨by rw [hf.out]; rfl, _, dN_add _ _ _⟩
    · obtain rfl : j = m := by omega
      have hf := Lib.hid ((eqB_iff x y j).2 hI.out)
      go_wp2
      go_ret
      exact ⟨by rw [hf.out]; rfl, _, rfl⟩
theorem eqB_rep {l : List Int} {k : Nat} (hk : k ≤ l.length) : eqB (fun i => l.getD (k + i) 0) (fun i => l.getD i 0) (l.length - k) = true ↔ Rep l k l.length := by
  rw [eqB_iff]
  constructor
  · intro h i h1 h2
    have := h (i - k) (by omega)
    rwa [show k + (i - k) = i by omega] at this
  · intro h i hi
    have := h (k + i) (by omega) (by omega)
    rwa [show k + i - k = i by omega] at this
set_option maxRecDepth 1000000 in
set_option maxHeartbeats 8000000 in
theorem periodI (b o c : Nat) (l : List Int) (w : World) (h1 : 1 ≤ l.length) (hlen : l.length ≤ 1000000) (hc : l.length ≤ c) (hcs : ∀ i x, l[i]? = some x → w.cell? ⟨b, o + i, none⟩ = some (.int .i8 x)) :
    Calls Try.prog 68 #[.slice (some ⟨b, o, none⟩) l.length c] w fun e w' => ∃ p : Nat, e = .returned (.int .i64 p) ∧ Per l p ∧ ∃ q, w' = w.drewN q := by
  obtain ⟨n, hn⟩ : ∃ n, l.length = n := ⟨_, rfl⟩
  rw [hn] at hlen h1 hc ⊢
  have hlB : ∀ (s : Option Addr) (n k : Nat) (W : World), (Builtin.len_ #[22] 3 #[.slice s n k]).run Try.prog W = .ok (.int .i64 n) W := fun s n k W => rfl
  have HN := Lib.hid hn
  have HC := Lib.hid hcs
  clear hn hcs
  go_enter Try.func68, Try.ntmps68
  go_wp2
  go_loopw [6] (fun m wr => ∃ k : Nat, m = .int .i64 k ∧ k ≤ n ∧ Hid (∀ q, 1 ≤ q → q < k → ¬ OkP l q) ∧ ∃ q, wr = w.drewN q) (fun m _ => n - (RowKit.intOf m).toNat)
  case atStart => exact ⟨0, rfl, Nat.zero_le _, fun q h1 h2 => by omega, 0, rfl⟩
  case round =>
    obtain ⟨k, rfl, hkn, hI, q, rfl⟩ := hrel
    by_cases hlt : k < n
    · by_cases h0 : k = 0
      · subst h0
        go_wp2
        go_quiet (fail)
        go_wp2
        go_roundw
        case rel => exact ⟨1, by simp, by omega, fun q h1 h2 => by omega, _, rfl⟩
        case measure => simp [RowKit.intOf]; omega
      · have hk1 : 1 ≤ k := by omega
        have g1 : decide ((0 : Int) < (k : Int)) = true := decide_eq_true (by omega)
        have g0 : (0 : Int) < (k : Int) := by omega
        have gN : decide (0 < k) = true := decide_eq_true hk1
        have hmod : ((n : Int) % (k : Int)) = ((n % k : Nat) : Int) := rfl
        obtain ⟨r, hr⟩ : ∃ r, n % k = r := ⟨_, rfl⟩
        rw [hr] at hmod
        by_cases hr0 : r = 0
        · subst hr0
          have hd0 : (k : Int) ≤ n := by omega
          have ht1 : Int.tmod (n : Int) (k : Int) = 0 := by rw [Int.tmod_eq_emod_of_nonneg (by omega)]; exact hmod
          have ht2 : ((k : Int) == 0) = false := by rw [beq_eq_false_iff_ne]; omega
          have ht3 : ¬ (k : Int) = 0 := by omega
          have hd1 : (n : Int) ≤ c := by omega
          have hd2 : (k : Int) ≤ c := by omega
          have hw1 : IntKind.i64.wrap ((n : Int) - k) = (n : Int) - k := by rw [IntKind.wrap_i64]; omega
          have hw2 : (0 : Int) ≤ (n : Int) - k := by omega
          have hw3 : ((n : Int) - k).toNat = n - k := by omega
          have hw4 : (n : Int) - k ≤ c := by omega
          have hkc : k < c := by omega
          have hkn : ¬ c = k := by omega
          have eqc : ∀ a : Nat, Calls Try.prog 75 #[.slice (some ⟨b, o + k, none⟩) (n - k) (c - k), .slice (some ⟨b, o, none⟩) (n - k) c] (w.drewN (q + a)) fun e w' => e = .returned (.bool (eqB (fun i => l.getD (k + i) 0) (fun i => l.getD i 0) (n - k))) ∧ ∃ m, w' = w.drewN (q + m) := by
            intro a
            refine (equal8 b (o + k) (c - k) b o c (n - k) (fun i => l.getD (k + i) 0) (fun i => l.getD i 0) _ (by omega) (fun i hi => ?_) (fun i hi => ?_)).mono ?_
            · have := HC.out (k + i) _ (getD_some (by rw [HN.out]; omega))
              rw [Nat.add_assoc]; exact this
            · exact HC.out i _ (getD_some (by rw [HN.out]; omega))
            · rintro e w' ⟨he, m, hm⟩
              exact ⟨he, a + m, by rw [hm, dN_add, Nat.add_assoc]⟩
          have EB := Lib.hid (eqB_rep (l := l) (k := k) (by rw [HN.out]; omega))
          rw [HN.out] at EB
          have HE := Lib.hid eqc
          have HR := Lib.hid hr
          obtain ⟨tt, htt⟩ : ∃ tt, eqB (fun i => l.getD (k + i) 0) (fun i => l.getD i 0) (n - k) = tt := ⟨_, rfl⟩
          rw [htt] at HE EB
          clear eqc hr htt
          cases tt
          · go_wp2
            go_quiet ((go_at_call 75; exact HE.out _))
            clear hw1 hw3 ht1 hmod
            go_wp2
            go_roundw
            case rel => exact ⟨k + 1, by simp, by omega, fun q h1 h2 => by
              by_cases e : q = k
              · subst e
                intro h
                have := EB.out.2 (by rw [← HN.out]; exact h.2)
                cases this
              · exact hI.out q h1 (by omega), _, by first | rfl | exact dN_add _ _ _⟩
            case measure => simp [RowKit.intOf]; omega
          · have h0 := Lib.hid (EB.out.1 rfl)
            clear EB
            go_wp2
            go_quiet ((go_at_call 75; exact HE.out _))
            clear hw1 hw3 ht1 hmod
            go_wp2
            go_ret
            exact ⟨k, rfl, ⟨hk1, by rw [HN.out]; omega, fun _ => ⟨by rw [HN.out]; exact HR.out, by rw [HN.out]; exact h0.out⟩, hI.out⟩, _, by first | rfl | exact dN_add _ _ _⟩
        · have ht1 : Int.tmod (n : Int) (k : Int) = r := by rw [Int.tmod_eq_emod_of_nonneg (by omega)]; exact hmod
          have ht2 : ((k : Int) == 0) = false := by rw [beq_eq_false_iff_ne]; omega
          have ht3 : ¬ (k : Int) = 0 := by omega
          have ht4 : ((r : Int) == 0) = false := by rw [beq_eq_false_iff_ne]; omega
          have ht5 : ¬ (r : Int) = 0 := by omega
          have ht6 : (r == 0) = false := by rw [beq_eq_false_iff_ne]; exact hr0
          have HR := Lib.hid hr
          clear hr
          go_wp2
          go_quiet (fail)
          clear ht1 hmod
          go_wp2
          go_roundw
          case rel => exact ⟨k + 1, by simp, by omega, fun q h1 h2 => by
            by_cases e : q = k
            · subst e
              intro h
              have := h.1
              rw [HN.out, HR.out] at this
              exact hr0 this
            · exact hI.out q h1 (by omega), _, by first | rfl | exact dN_add _ _ _⟩
          case measure => simp [RowKit.intOf]; omega
    · obtain rfl : k = n := by omega
      go_wp2
      go_ret
      exact ⟨k, rfl, ⟨h1, by rw [HN.out]; exact Nat.le_refl _, fun h => by rw [HN.out] at h; omega, hI.out⟩, q, rfl⟩
end Go.Proofs.Ytlkbnpgembgdfaa.Sx
