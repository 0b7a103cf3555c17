/-
  Valid trees: both programs.
-/
import Derived.Test.YtjmpdilffmpkgaaTF
import Derived.Test.YtjmpdilffmpkgaaV3
namespace Go.Proofs.Ytjmpdilffmpkgaa.Sx
open Go Go.RowKit
set_option linter.unusedVariables false
set_option linter.unusedSimpArgs false

/-- Where a node goes on. -/
def nn (f : Fk) (q : Nat) : Int := if q = 0 then f.n0 else if q = 1 then f.n1 else f.n2
theorem fkB_bad {n : Nat} {f : Fk} {q : Nat} (hq : q < 3) (h : ¬ (0 ≤ nn f q ∧ nn f q < n)) : fkB n f = false := by
  rw [← Bool.not_eq_true, fkB_iff]
  rintro ⟨h0, h1, h2, _⟩
  apply h
  have : q = 0 ∨ q = 1 ∨ q = 2 := by omega
  rcases this with rfl | rfl | rfl
  · exact h0
  · exact h1
  · exact h2
theorem wrap_i8_small {x : Int} (h : -128 ≤ x ∧ x ≤ 127) : IntKind.i8.wrap x = x := by
  unfold IntKind.wrap IntKind.bits IntKind.signed
  simp
  omega
set_option maxRecDepth 1000000 in
set_option maxHeartbeats 8000000 in
theorem okTS {w : World} {b : Nat} {T : List Fk} {v : Value} (h : HereT w b T v) (hl : T.length ≤ 1048576) (hr : ∀ f ∈ T, (-32768 ≤ f.n0 ∧ f.n0 ≤ 32767) ∧ (-32768 ≤ f.n1 ∧ f.n1 ≤ 32767) ∧ (-32768 ≤ f.n2 ∧ f.n2 ≤ 32767)) :
    Calls Try.prog 27 #[.pointer (some ⟨b, 0, none⟩)] w fun e w' => e = .returned (.bool (trB T)) ∧ Same w w' := by
  obtain ⟨s, c, rfl⟩ := h.is.form
  have hlB : ∀ (s : Option Addr) (n k : Nat) (W : World), (Builtin.len_ #[28] 3 #[.slice s n k]).run Try.prog W = .ok (.int .i64 n) W := fun s n k W => rfl
  have c0 := h.c
  have HI := Lib.hid h.is
  have HR := Lib.hid hr
  obtain ⟨n, hn⟩ : ∃ n, T.length = n := ⟨_, rfl⟩
  rw [hn] at c0 hl
  have HN := Lib.hid hn
  clear h hr hn
  have i1 := inR (n : Int) 1 60 w
  by_cases hz : 1 ≤ n ∧ n ≤ 60
  · rw [decide_eq_true (show (1 : Int) ≤ n by omega), decide_eq_true (show (n : Int) ≤ 60 by omega)] at i1
    go_enter Try.func27, Try.ntmps27
    go_wp2_with (go_at_call 50; refine i1.mono ?_)
    first | (rintro e W1 rfl hs) | (rintro e W1 ⟨rfl, hs⟩)
    rw [hs.out]
    clear i1 hs
    go_wp2
    go_loopw [4] (fun i wr => ∃ j : Nat, i = .int .i64 j ∧ j ≤ n ∧ Hid (∀ p f, p < j → T[p]? = some f → fkB n f = true) ∧ w = wr) (fun i _ => n - (RowKit.intOf i).toNat)
    case atStart => exact ⟨0, rfl, Nat.zero_le _, fun p f hp => absurd hp (Nat.not_lt_zero _), rfl⟩
    case round =>
      obtain ⟨j, rfl, hj, hd, rfl⟩ := hrel
      by_cases hlt : j < n
      · obtain ⟨g, o, c', hf, x0, x1, x2, x3, x4⟩ := HI.out.node (i := j) (by rw [HN.out]; exact hlt)
        obtain ⟨rfl, rfl⟩ : s = some ⟨g, o, none⟩ ∧ c = c' := by simp at hf; exact hf
        have hfm : T[j]? = some (fkAt T j) := fkAt_get (by rw [HN.out]; exact hlt)
        have hrr := HR.out _ (List.mem_of_getElem? hfm)
        obtain ⟨⟨K, D, P, Q, R⟩, hff⟩ : ∃ f, fkAt T j = f := ⟨_, rfl⟩
        rw [hff] at x0 x1 x2 x3 x4 hfm hrr
        simp only at x0 x1 x2 x3 x4 hrr
        have HF := Lib.hid hfm
        have HD := Lib.hid hd
        have nm : IntKind.i64.wrap ((n : Int) - 1) = (n : Int) - 1 := by rw [IntKind.wrap_i64]; omega
        have eP : IntKind.i64.wrap P = P := by rw [IntKind.wrap_i64]; omega
        have eQ : IntKind.i64.wrap Q = Q := by rw [IntKind.wrap_i64]; omega
        have eR : IntKind.i64.wrap R = R := by rw [IntKind.wrap_i64]; omega
        clear hf hff hfm hrr hd
        go_wp2
        go_loopw [6] (fun k wr => ∃ q : Nat, k = .int .i64 q ∧ q ≤ 3 ∧ Hid (∀ p, p < q → 0 ≤ nn ⟨K, D, P, Q, R⟩ p ∧ nn ⟨K, D, P, Q, R⟩ p < n) ∧ w = wr) (fun k _ => 3 - (RowKit.intOf k).toNat)
        case atStart => exact ⟨0, rfl, by omega, fun p hp => absurd hp (Nat.not_lt_zero _), rfl⟩
        case round =>
          obtain ⟨q, rfl, hq, hin, rfl⟩ := hrel
          have HQ := Lib.hid hin
          clear hin
          have hq4 : q = 0 ∨ q = 1 ∨ q = 2 ∨ q = 3 := by omega
          rcases hq4 with rfl | rfl | rfl | rfl
          · have r := inR P 0 ((n : Int) - 1) w
            go_wp2_with (go_at_call 50; refine r.mono ?_)
            first | (rintro e W2 rfl hs) | (rintro e W2 ⟨rfl, hs⟩)
            rw [hs.out]
            clear hs
            try dsimp only
            by_cases hx : 0 ≤ P ∧ P < n
            · rw [decide_eq_true hx.1, decide_eq_true (show P ≤ (n : Int) - 1 by omega)]
              have HX := Lib.hid hx
              clear hx
              go_wp2
              exact ⟨⟨0 + 1, by simp, by omega, show ∀ p, p < 0 + 1 → 0 ≤ nn ⟨K, D, P, Q, R⟩ p ∧ nn ⟨K, D, P, Q, R⟩ p < n from fun p hp => by
                by_cases e : p = 0
                · subst e; exact HX.out
                · exact HQ.out p (by omega), trivial⟩, by simp [RowKit.intOf]⟩
            · rw [show (decide (0 ≤ P) && decide (P ≤ (n : Int) - 1)) = false by rw [← Bool.not_eq_true, Bool.and_eq_true, decide_eq_true_eq, decide_eq_true_eq]; omega]
              have hb : trB T = false := trB_bad HF.out (by rw [HN.out]; exact fkB_bad (q := 0) (by omega) hx)
              have HBB := Lib.hid hb
              clear hb
              go_wp2
              go_ret
              exact ⟨by rw [HBB.out]; rfl, rfl⟩
          · have r := inR Q 0 ((n : Int) - 1) w
            go_wp2_with (go_at_call 50; refine r.mono ?_)
            first | (rintro e W2 rfl hs) | (rintro e W2 ⟨rfl, hs⟩)
            rw [hs.out]
            clear hs
            try dsimp only
            by_cases hx : 0 ≤ Q ∧ Q < n
            · rw [decide_eq_true hx.1, decide_eq_true (show Q ≤ (n : Int) - 1 by omega)]
              have HX := Lib.hid hx
              clear hx
              go_wp2
              exact ⟨⟨1 + 1, by simp, by omega, show ∀ p, p < 1 + 1 → 0 ≤ nn ⟨K, D, P, Q, R⟩ p ∧ nn ⟨K, D, P, Q, R⟩ p < n from fun p hp => by
                by_cases e : p = 1
                · subst e; exact HX.out
                · exact HQ.out p (by omega), trivial⟩, by simp [RowKit.intOf]⟩
            · rw [show (decide (0 ≤ Q) && decide (Q ≤ (n : Int) - 1)) = false by rw [← Bool.not_eq_true, Bool.and_eq_true, decide_eq_true_eq, decide_eq_true_eq]; omega]
              have hb : trB T = false := trB_bad HF.out (by rw [HN.out]; exact fkB_bad (q := 1) (by omega) hx)
              have HBB := Lib.hid hb
              clear hb
              go_wp2
              go_ret
              exact ⟨by rw [HBB.out]; rfl, rfl⟩
          · have r := inR R 0 ((n : Int) - 1) w
            go_wp2_with (go_at_call 50; refine r.mono ?_)
            first | (rintro e W2 rfl hs) | (rintro e W2 ⟨rfl, hs⟩)
            rw [hs.out]
            clear hs
            try dsimp only
            by_cases hx : 0 ≤ R ∧ R < n
            · rw [decide_eq_true hx.1, decide_eq_true (show R ≤ (n : Int) - 1 by omega)]
              have HX := Lib.hid hx
              clear hx
              go_wp2
              exact ⟨⟨2 + 1, by simp, by omega, show ∀ p, p < 2 + 1 → 0 ≤ nn ⟨K, D, P, Q, R⟩ p ∧ nn ⟨K, D, P, Q, R⟩ p < n from fun p hp => by
                by_cases e : p = 2
                · subst e; exact HX.out
                · exact HQ.out p (by omega), trivial⟩, by simp [RowKit.intOf]⟩
            · rw [show (decide (0 ≤ R) && decide (R ≤ (n : Int) - 1)) = false by rw [← Bool.not_eq_true, Bool.and_eq_true, decide_eq_true_eq, decide_eq_true_eq]; omega]
              have hb : trB T = false := trB_bad HF.out (by rw [HN.out]; exact fkB_bad (q := 2) (by omega) hx)
              have HBB := Lib.hid hb
              clear hb
              go_wp2
              go_ret
              exact ⟨by rw [HBB.out]; rfl, rfl⟩
          · have g0 := HQ.out 0 (by omega)
            have g1 := HQ.out 1 (by omega)
            have g2 := HQ.out 2 (by omega)
            have G : (0 ≤ P ∧ P < n) ∧ (0 ≤ Q ∧ Q < n) ∧ (0 ≤ R ∧ R < n) := ⟨g0, g1, g2⟩
            have HG := Lib.hid G
            clear g0 g1 g2 G
            by_cases k1 : K = 1
            · subst k1
              by_cases d0 : D = 0
              · subst d0
                have hgood : fkB n ⟨1, 0, P, Q, R⟩ = true := fkB_iff.2 ⟨HG.out.1, HG.out.2.1, HG.out.2.2, .inl ⟨rfl, rfl⟩⟩
                go_wp2
                exact ⟨⟨j + 1, by simp, by omega, show ∀ p f, p < j + 1 → T[p]? = some f → fkB n f = true from fun p f hp hf => by
                  by_cases e : p = j
                  · subst e; rw [HF.out] at hf; cases hf; exact hgood
                  · exact HD.out p f (by omega) hf, trivial⟩, by simp [RowKit.intOf]; omega⟩
              · have d1 : (D == 0) = false := by rw [beq_eq_false_iff_ne]; exact d0
                have hb : trB T = false := trB_bad HF.out (by rw [HN.out]; rw [← Bool.not_eq_true, fkB_iff]; rintro ⟨_, _, _, ⟨_, h⟩ | ⟨h, _⟩⟩; exact d0 h; exact absurd (show (1 : Int) = 2 from h) (by decide))
                have HBB := Lib.hid hb
                clear hb
                go_wp2
                go_ret
                exact ⟨by rw [HBB.out]; rfl, rfl⟩
            · have k2 : (K == 1) = false := by rw [beq_eq_false_iff_ne]; exact k1
              by_cases k3 : K = 2
              · subst k3
                by_cases l1 : D < -1
                · have l2 := decide_eq_true l1
                  have hb : trB T = false := trB_bad HF.out (by rw [HN.out]; rw [← Bool.not_eq_true, fkB_iff]; rintro ⟨_, _, _, ⟨h, _⟩ | ⟨_, h⟩⟩; exact absurd (show (2 : Int) = 1 from h) (by decide); simp only at h; omega)
                  have HBB := Lib.hid hb
                  clear hb
                  go_wp2
                  go_ret
                  exact ⟨by rw [HBB.out]; rfl, rfl⟩
                · have l2 := decide_eq_false l1
                  by_cases l3 : 1 < D
                  · have l4 := decide_eq_true l3
                    have hb : trB T = false := trB_bad HF.out (by rw [HN.out]; rw [← Bool.not_eq_true, fkB_iff]; rintro ⟨_, _, _, ⟨h, _⟩ | ⟨_, h⟩⟩; exact absurd (show (2 : Int) = 1 from h) (by decide); simp only at h; omega)
                    have HBB := Lib.hid hb
                    clear hb
                    go_wp2
                    go_ret
                    exact ⟨by rw [HBB.out]; rfl, rfl⟩
                  · have l4 := decide_eq_false l3
                    by_cases q0 : Q = 0
                    · by_cases r0 : R = 0
                      · subst q0
                        subst r0
                        have hgood : fkB n ⟨2, D, P, 0, 0⟩ = true := fkB_iff.2 ⟨HG.out.1, HG.out.2.1, HG.out.2.2, .inr ⟨rfl, ⟨by show -1 ≤ D; omega, by show D ≤ 1; omega⟩, rfl, rfl⟩⟩
                        go_wp2
                        exact ⟨⟨j + 1, by simp, by omega, show ∀ p f, p < j + 1 → T[p]? = some f → fkB n f = true from fun p f hp hf => by
                          by_cases e : p = j
                          · subst e; rw [HF.out] at hf; cases hf; exact hgood
                          · exact HD.out p f (by omega) hf, trivial⟩, by simp [RowKit.intOf]; omega⟩
                      · subst q0
                        have r1 : (R == 0) = false := by rw [beq_eq_false_iff_ne]; exact r0
                        have hb : trB T = false := trB_bad HF.out (by rw [HN.out]; rw [← Bool.not_eq_true, fkB_iff]; rintro ⟨_, _, _, ⟨h, _⟩ | ⟨_, h⟩⟩; exact absurd (show (2 : Int) = 1 from h) (by decide); simp only at h; omega)
                        have HBB := Lib.hid hb
                        clear hb
                        go_wp2
                        go_ret
                        exact ⟨by rw [HBB.out]; rfl, rfl⟩
                    · have q1 : (Q == 0) = false := by rw [beq_eq_false_iff_ne]; exact q0
                      have hb : trB T = false := trB_bad HF.out (by rw [HN.out]; rw [← Bool.not_eq_true, fkB_iff]; rintro ⟨_, _, _, ⟨h, _⟩ | ⟨_, h⟩⟩; exact absurd (show (2 : Int) = 1 from h) (by decide); simp only at h; omega)
                      have HBB := Lib.hid hb
                      clear hb
                      go_wp2
                      go_ret
                      exact ⟨by rw [HBB.out]; rfl, rfl⟩
              · have k4 : (K == 2) = false := by rw [beq_eq_false_iff_ne]; exact k3
                have hb : trB T = false := trB_bad HF.out (by rw [HN.out]; rw [← Bool.not_eq_true, fkB_iff]; rintro ⟨_, _, _, ⟨h, _⟩ | ⟨h, _⟩⟩; exact k1 h; exact k3 h)
                have HBB := Lib.hid hb
                clear hb
                go_wp2
                go_ret
                exact ⟨by rw [HBB.out]; rfl, rfl⟩
      · obtain rfl : j = n := by omega
        have hb : trB T = true := trB_good (by rw [HN.out]; omega) (by rw [HN.out]; omega) (fun i f hi => by rw [HN.out]; exact hd i f (by rw [← HN.out]; exact (List.getElem?_eq_some_iff.1 hi).1) hi)
        have HBB := Lib.hid hb
        clear hb hd
        go_wp2
        go_ret
        exact ⟨by rw [HBB.out]; rfl, rfl⟩
  · have hb : trB T = false := by
      rw [← Bool.not_eq_true, trB_iff, HN.out]
      exact fun e => hz e.1
    rw [hb]
    rw [show (decide ((1 : Int) ≤ n) && decide ((n : Int) ≤ 60)) = false by rw [← Bool.not_eq_true, Bool.and_eq_true, decide_eq_true_eq, decide_eq_true_eq]; omega] at i1
    clear hb hz
    go_enter Try.func27, Try.ntmps27
    go_wp2_with (go_at_call 50; refine i1.mono ?_)
    first | (rintro e W1 rfl hs) | (rintro e W1 ⟨rfl, hs⟩)
    rw [hs.out]
    clear i1 hs
    go_wp2
    go_ret
    exact ⟨rfl, rfl⟩
end Go.Proofs.Ytjmpdilffmpkgaa.Sx
