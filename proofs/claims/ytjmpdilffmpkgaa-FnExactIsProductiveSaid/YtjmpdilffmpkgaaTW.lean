/-
  Valid trees, by the code.
-/
import Derived.Test.YtjmpdilffmpkgaaTV
import Derived.Test.YtjmpdilffmpkgaaV2
namespace Go.Proofs.Ytjmpdilffmpkgaa.Sx
open Go Go.RowKit
set_option linter.unusedVariables false
set_option linter.unusedSimpArgs false

set_option maxRecDepth 1000000 in
set_option maxHeartbeats 8000000 in
theorem amongI (K D P Q R : Int) (n : Nat) (w : World) (hn : n ≤ 1048576) (hP : -32768 ≤ P ∧ P ≤ 32767) (hQ : -32768 ≤ Q ∧ Q ≤ 32767) (hR : -32768 ≤ R ∧ R ≤ 32767) :
    Calls Try.prog 52 #[.agg #[.int .i8 K, .int .i8 D, .int .i16 P, .int .i16 Q, .int .i16 R], .int .i64 n] w fun e w' => e = .returned (.bool (fkB n ⟨K, D, P, Q, R⟩)) ∧ Below w.heap.size w w' := by
  obtain ⟨W, hW, hB, x⟩ := boxN w #[.int .i8 K, .int .i8 D, .int .i16 P, .int .i16 Q, .int .i16 R] 62
  have c0 : W.cell? ⟨w.heap.size, 0, none⟩ = some (.int .i8 K) := by rw [Lib.cell_of_heap x]; rfl
  have c1 : W.cell? ⟨w.heap.size, 1, none⟩ = some (.int .i8 D) := by rw [Lib.cell_of_heap x]; rfl
  have c2 : W.cell? ⟨w.heap.size, 2, none⟩ = some (.int .i16 P) := by rw [Lib.cell_of_heap x]; rfl
  have c3 : W.cell? ⟨w.heap.size, 3, none⟩ = some (.int .i16 Q) := by rw [Lib.cell_of_heap x]; rfl
  have c4 : W.cell? ⟨w.heap.size, 4, none⟩ = some (.int .i16 R) := by rw [Lib.cell_of_heap x]; rfl
  have eP : IntKind.i64.wrap P = P := by rw [IntKind.wrap_i64]; omega
  have eQ : IntKind.i64.wrap Q = Q := by rw [IntKind.wrap_i64]; omega
  have eR : IntKind.i64.wrap R = R := by rw [IntKind.wrap_i64]; omega
  have x0 : ∀ W : World, (Instr.index 60 (.agg #[.int .i16 P, .int .i16 Q, .int .i16 R]) (.int .i64 0)).run Try.prog W = .ok (.int .i16 P) W := fun W => by rfl
  have x1 : ∀ W : World, (Instr.index 60 (.agg #[.int .i16 P, .int .i16 Q, .int .i16 R]) (.int .i64 1)).run Try.prog W = .ok (.int .i16 Q) W := fun W => by rfl
  have x2 : ∀ W : World, (Instr.index 60 (.agg #[.int .i16 P, .int .i16 Q, .int .i16 R]) (.int .i64 2)).run Try.prog W = .ok (.int .i16 R) W := fun W => by rfl
  have HB := Lib.hid hB
  clear x hB hP hQ hR
  go_enter Try.func52, Try.ntmps52
  go_wp2
  go_loopw [9] (fun k wr => ∃ q : Nat, k = .int .i64 q ∧ q ≤ 3 ∧ Hid (∀ p, p < q → 0 ≤ nn ⟨K, D, P, Q, R⟩ p ∧ nn ⟨K, D, P, Q, R⟩ p < n) ∧ W = wr) (fun k _ => 3 - (RowKit.intOf k).toNat)
  case atStart => exact ⟨0, rfl, by omega, fun p hp => absurd hp (Nat.not_lt_zero _), rfl⟩
  case round =>
    obtain ⟨q, rfl, hq, hin, rfl⟩ := hrel
    have HQ := Lib.hid hin
    clear hin
    have hq4 : q = 0 ∨ q = 1 ∨ q = 2 ∨ q = 3 := by omega
    rcases hq4 with rfl | rfl | rfl | rfl
    · by_cases h0 : P < 0
      · have h1 := decide_eq_true h0
        have HBB := Lib.hid (show fkB n ⟨K, D, P, Q, R⟩ = false by exact fkB_bad (q := 0) (by omega) (fun e => by have : 0 ≤ P := e.1; omega))
        go_wp2
        go_ret
        exact ⟨by rw [HBB.out]; rfl, HB.out⟩
      · have h1 := decide_eq_false h0
        by_cases h2 : (n : Int) ≤ P
        · have h3 := decide_eq_true h2
          have HBB := Lib.hid (show fkB n ⟨K, D, P, Q, R⟩ = false by exact fkB_bad (q := 0) (by omega) (fun e => by have : P < (n : Int) := e.2; omega))
          go_wp2
          go_ret
          exact ⟨by rw [HBB.out]; rfl, HB.out⟩
        · have h3 := decide_eq_false h2
          have HX := Lib.hid (show 0 ≤ P ∧ P < n by omega)
          go_wp2
          exact ⟨⟨0 + 1, by simp, by omega, show ∀ p, p < 0 + 1 → 0 ≤ nn ⟨K, D, P, Q, R⟩ p ∧ nn ⟨K, D, P, Q, R⟩ p < n from fun p hp => by
            by_cases e : p = 0
            · subst e; exact HX.out
            · exact HQ.out p (by omega), trivial⟩, by simp [RowKit.intOf]⟩
    · by_cases h0 : Q < 0
      · have h1 := decide_eq_true h0
        have HBB := Lib.hid (show fkB n ⟨K, D, P, Q, R⟩ = false by exact fkB_bad (q := 1) (by omega) (fun e => by have : 0 ≤ Q := e.1; omega))
        go_wp2
        go_ret
        exact ⟨by rw [HBB.out]; rfl, HB.out⟩
      · have h1 := decide_eq_false h0
        by_cases h2 : (n : Int) ≤ Q
        · have h3 := decide_eq_true h2
          have HBB := Lib.hid (show fkB n ⟨K, D, P, Q, R⟩ = false by exact fkB_bad (q := 1) (by omega) (fun e => by have : Q < (n : Int) := e.2; omega))
          go_wp2
          go_ret
          exact ⟨by rw [HBB.out]; rfl, HB.out⟩
        · have h3 := decide_eq_false h2
          have HX := Lib.hid (show 0 ≤ Q ∧ Q < n by omega)
          go_wp2
          exact ⟨⟨1 + 1, by simp, by omega, show ∀ p, p < 1 + 1 → 0 ≤ nn ⟨K, D, P, Q, R⟩ p ∧ nn ⟨K, D, P, Q, R⟩ p < n from fun p hp => by
            by_cases e : p = 1
            · subst e; exact HX.out
            · exact HQ.out p (by omega), trivial⟩, by simp [RowKit.intOf]⟩
    · by_cases h0 : R < 0
      · have h1 := decide_eq_true h0
        have HBB := Lib.hid (show fkB n ⟨K, D, P, Q, R⟩ = false by exact fkB_bad (q := 2) (by omega) (fun e => by have : 0 ≤ R := e.1; omega))
        go_wp2
        go_ret
        exact ⟨by rw [HBB.out]; rfl, HB.out⟩
      · have h1 := decide_eq_false h0
        by_cases h2 : (n : Int) ≤ R
        · have h3 := decide_eq_true h2
          have HBB := Lib.hid (show fkB n ⟨K, D, P, Q, R⟩ = false by exact fkB_bad (q := 2) (by omega) (fun e => by have : R < (n : Int) := e.2; omega))
          go_wp2
          go_ret
          exact ⟨by rw [HBB.out]; rfl, HB.out⟩
        · have h3 := decide_eq_false h2
          have HX := Lib.hid (show 0 ≤ R ∧ R < n by omega)
          go_wp2
          exact ⟨⟨2 + 1, by simp, by omega, show ∀ p, p < 2 + 1 → 0 ≤ nn ⟨K, D, P, Q, R⟩ p ∧ nn ⟨K, D, P, Q, R⟩ p < n from fun p hp => by
            by_cases e : p = 2
            · subst e; exact HX.out
            · exact HQ.out p (by omega), trivial⟩, by simp [RowKit.intOf]⟩
    · have g0 := HQ.out 0 (by omega)
      have g1 := HQ.out 1 (by omega)
      have g2 := HQ.out 2 (by omega)
      have HG := Lib.hid (show (0 ≤ P ∧ P < n) ∧ (0 ≤ Q ∧ Q < n) ∧ (0 ≤ R ∧ R < n) from ⟨g0, g1, g2⟩)
      clear g0 g1 g2
      by_cases k1 : K = 1
      · subst k1
        by_cases d0 : D = 0
        · subst d0
          have HBB := Lib.hid (show fkB n ⟨1, 0, P, Q, R⟩ = true by exact fkB_iff.2 ⟨HG.out.1, HG.out.2.1, HG.out.2.2, .inl ⟨rfl, rfl⟩⟩)
          go_wp2
          go_ret
          exact ⟨by rw [HBB.out]; rfl, HB.out⟩
        · have d1 : (D == 0) = false := by rw [beq_eq_false_iff_ne]; exact d0
          have HBB := Lib.hid (show fkB n ⟨1, D, P, Q, R⟩ = false by rw [← Bool.not_eq_true, fkB_iff]; rintro ⟨_, _, _, ⟨_, h⟩ | ⟨h, _⟩⟩; exact d0 h; exact absurd (show (1 : Int) = 2 from h) (by decide))
          go_wp2
          go_ret
          exact ⟨by rw [HBB.out]; rfl, HB.out⟩
      · have k2 : (K == 1) = false := by rw [beq_eq_false_iff_ne]; exact k1
        by_cases k3 : K = 2
        · subst k3
          have nd := noDigit D W
          by_cases hd : -1 ≤ D ∧ D ≤ 1
          · rw [decide_eq_true hd.1, decide_eq_true hd.2] at nd
            have HD := Lib.hid hd
            clear hd
            by_cases q0 : Q = 0
            · by_cases r0 : R = 0
              · subst q0
                subst r0
                have HBB := Lib.hid (show fkB n ⟨2, D, P, 0, 0⟩ = true by exact fkB_iff.2 ⟨HG.out.1, HG.out.2.1, HG.out.2.2, .inr ⟨rfl, HD.out, rfl, rfl⟩⟩)
                go_wp2_with (go_at_call 63; refine nd.mono ?_)
                first | (rintro e W2 rfl hs) | (rintro e W2 ⟨rfl, hs⟩)
                rw [hs.out]
                clear hs
                try dsimp only
                go_wp2
                go_ret
                exact ⟨by rw [HBB.out]; rfl, HB.out⟩
              · subst q0
                have r1 : (R == 0) = false := by rw [beq_eq_false_iff_ne]; exact r0
                have HBB := Lib.hid (show fkB n ⟨2, D, P, 0, R⟩ = false by rw [← Bool.not_eq_true, fkB_iff]; rintro ⟨_, _, _, ⟨h, _⟩ | ⟨_, h⟩⟩; exact absurd (show (2 : Int) = 1 from h) (by decide); simp only at h; omega)
                go_wp2_with (go_at_call 63; refine nd.mono ?_)
                first | (rintro e W2 rfl hs) | (rintro e W2 ⟨rfl, hs⟩)
                rw [hs.out]
                clear hs
                try dsimp only
                go_wp2
                go_ret
                exact ⟨by rw [HBB.out]; rfl, HB.out⟩
            · have q1 : (Q == 0) = false := by rw [beq_eq_false_iff_ne]; exact q0
              have HBB := Lib.hid (show fkB n ⟨2, D, P, Q, R⟩ = false by rw [← Bool.not_eq_true, fkB_iff]; rintro ⟨_, _, _, ⟨h, _⟩ | ⟨_, h⟩⟩; exact absurd (show (2 : Int) = 1 from h) (by decide); simp only at h; omega)
              go_wp2_with (go_at_call 63; refine nd.mono ?_)
              first | (rintro e W2 rfl hs) | (rintro e W2 ⟨rfl, hs⟩)
              rw [hs.out]
              clear hs
              try dsimp only
              go_wp2
              go_ret
              exact ⟨by rw [HBB.out]; rfl, HB.out⟩
          · rw [show (decide (-1 ≤ D) && decide (D ≤ 1)) = false by rw [← Bool.not_eq_true, Bool.and_eq_true, decide_eq_true_eq, decide_eq_true_eq]; exact hd] at nd
            have HBB := Lib.hid (show fkB n ⟨2, D, P, Q, R⟩ = false by rw [← Bool.not_eq_true, fkB_iff]; rintro ⟨_, _, _, ⟨h, _⟩ | ⟨_, h⟩⟩; exact absurd (show (2 : Int) = 1 from h) (by decide); simp only at h; omega)
            clear hd
            go_wp2_with (go_at_call 63; refine nd.mono ?_)
            first | (rintro e W2 rfl hs) | (rintro e W2 ⟨rfl, hs⟩)
            rw [hs.out]
            clear hs
            try dsimp only
            go_wp2
            go_ret
            exact ⟨by rw [HBB.out]; rfl, HB.out⟩
        · have k4 : (K == 2) = false := by rw [beq_eq_false_iff_ne]; exact k3
          have HBB := Lib.hid (show fkB n ⟨K, D, P, Q, R⟩ = false by rw [← Bool.not_eq_true, fkB_iff]; rintro ⟨_, _, _, ⟨h, _⟩ | ⟨h, _⟩⟩; exact k1 h; exact k3 h)
          go_wp2
          go_ret
          exact ⟨by rw [HBB.out]; rfl, HB.out⟩
set_option maxRecDepth 1000000 in
set_option maxHeartbeats 8000000 in
theorem okTI {w : World} {T : List Fk} {v : Value} (h : IsF w T v) (hl : T.length ≤ 1048576) (hr : ∀ f ∈ T, (-32768 ≤ f.n0 ∧ f.n0 ≤ 32767) ∧ (-32768 ≤ f.n1 ∧ f.n1 ≤ 32767) ∧ (-32768 ≤ f.n2 ∧ f.n2 ≤ 32767)) :
    Calls Try.prog 30 #[.agg #[v]] w fun e w' => e = .returned (.bool (trB T)) ∧ Below w.heap.size w w' := by
  obtain ⟨s, c, rfl⟩ := h.form
  have hlB : ∀ (s : Option Addr) (n k : Nat) (W : World), (Builtin.len_ #[28] 3 #[.slice s n k]).run Try.prog W = .ok (.int .i64 n) W := fun s n k W => rfl
  obtain ⟨W, hW, hB, x⟩ := boxN w #[.slice s T.length c] 30
  obtain ⟨n, hn⟩ : ∃ n, T.length = n := ⟨_, rfl⟩
  rw [hn] at x hl hW ⊢
  have HN := Lib.hid hn
  have HI := Lib.hid h
  have HR := Lib.hid hr
  have HX := Lib.hid x
  have HB := Lib.hid hB
  have c0 : W.cell? ⟨w.heap.size, 0, none⟩ = some (.slice s n c) := by rw [Lib.cell_of_heap x]; rfl
  have hz0 : w.heap.size < W.heap.size := by rw [← hW]; simp
  clear h hr hn x hB
  by_cases hz : 1 ≤ n ∧ n ≤ 60
  · have z1 : ¬ (n : Int) < 1 := by omega
    have z2 : ¬ (60 : Int) < n := by omega
    have z3 : ¬ n < 1 := by omega
    have z4 : ¬ n = 0 := by omega
    go_enter Try.func30, Try.ntmps30
    go_wp2
    go_loopw [18] (fun i wr => ∃ j : Nat, i = .int .i64 j ∧ j ≤ n ∧ Hid (∀ p f, p < j → T[p]? = some f → fkB n f = true) ∧ Below W.heap.size W wr) (fun i _ => n - (RowKit.intOf i).toNat)
    case atStart => exact ⟨0, rfl, Nat.zero_le _, fun p f hp => absurd hp (Nat.not_lt_zero _), Below.refl _ _⟩
    case round =>
      obtain ⟨j, rfl, hj, hd, hb⟩ := hrel
      by_cases hlt : j < n
      · have hI := ((HI.out.keep HB.out).keep hb)
        obtain ⟨g, o, c', hf, x0, x1, x2, x3, x4⟩ := hI.node (i := j) (by rw [HN.out]; exact hlt)
        rw [HN.out] at hf
        obtain ⟨rfl, rfl⟩ : s = some ⟨g, o, none⟩ ∧ c = c' := by simp at hf; exact hf
        have hfm : T[j]? = some (fkAt T j) := fkAt_get (by rw [HN.out]; exact hlt)
        have hrr := HR.out _ (List.mem_of_getElem? hfm)
        obtain ⟨⟨K, D, P, Q, R⟩, hff⟩ : ∃ f, fkAt T j = f := ⟨_, rfl⟩
        rw [hff] at x0 x1 x2 x3 x4 hfm hrr
        simp only at x0 x1 x2 x3 x4 hrr
        have HF := Lib.hid hfm
        have HD := Lib.hid hd
        have k0 : wr.cell? ⟨w.heap.size, 0, none⟩ = some (.slice (some ⟨g, o, none⟩) n c) := (hb.cell (p := ⟨w.heap.size, 0, none⟩) hz0).trans c0
        obtain ⟨V, hV, hBV, y⟩ := boxN wr #[.int .i8 K, .int .i8 D, .int .i16 P, .int .i16 Q, .int .i16 R] 62
        have hbV := hb.trans (hBV.mono hb.size)
        have am := amongI K D P Q R n V hl hrr.1 hrr.2.1 hrr.2.2
        have m0 : V.cell? ⟨w.heap.size, 0, none⟩ = some (.slice (some ⟨g, o, none⟩) n c) := (hbV.cell (p := ⟨w.heap.size, 0, none⟩) hz0).trans c0
        have e0 : V.cell? ⟨wr.heap.size, 0, none⟩ = some (.int .i8 K) := by rw [Lib.cell_of_heap y]; rfl
        have e1 : V.cell? ⟨wr.heap.size, 1, none⟩ = some (.int .i8 D) := by rw [Lib.cell_of_heap y]; rfl
        have e2 : V.cell? ⟨wr.heap.size, 2, none⟩ = some (.int .i16 P) := by rw [Lib.cell_of_heap y]; rfl
        have e3 : V.cell? ⟨wr.heap.size, 3, none⟩ = some (.int .i16 Q) := by rw [Lib.cell_of_heap y]; rfl
        have e4 : V.cell? ⟨wr.heap.size, 4, none⟩ = some (.int .i16 R) := by rw [Lib.cell_of_heap y]; rfl
        have HBV := Lib.hid hbV
        clear hf hff hfm hrr hd hI hb y hBV hbV
        go_wp2_with (go_at_call 52; refine am.mono ?_)
        first | (rintro e W2 rfl b2) | (rintro e W2 ⟨rfl, b2⟩)
        try dsimp only
        have HB2 := Lib.hid (HBV.out.trans (b2.mono HBV.out.size))
        clear b2 am k0 e0 e1 e2 e3 e4 m0 x0 x1 x2 x3 x4
        cases hgood : fkB n ⟨K, D, P, Q, R⟩
        · have HBB := Lib.hid (show trB T = false from trB_bad HF.out (by rw [HN.out]; exact hgood))
          clear hgood
          go_wp2
          go_ret
          exact ⟨by rw [HBB.out]; rfl, HB.out.trans (HB2.out.mono HB.out.size)⟩
        · have HGD := Lib.hid hgood
          clear hgood
          go_wp2
          exact ⟨⟨j + 1, by simp, by omega, show ∀ p f, p < j + 1 → T[p]? = some f → fkB n f = true from fun p f hp hf => by
            by_cases e : p = j
            · subst e; rw [HF.out] at hf; cases hf; exact HGD.out
            · exact HD.out p f (by omega) hf, HB2.out⟩, by simp [RowKit.intOf]; omega⟩
      · obtain rfl : j = n := by omega
        have HBB := Lib.hid (show trB T = true from trB_good (by rw [HN.out]; omega) (by rw [HN.out]; omega) (fun i f hi => by rw [HN.out]; exact hd i f (by rw [← HN.out]; exact (List.getElem?_eq_some_iff.1 hi).1) hi))
        have HBW := Lib.hid hb
        clear hd hb
        go_wp2
        go_ret
        exact ⟨by rw [HBB.out]; rfl, HB.out.trans (HBW.out.mono HB.out.size)⟩
  · have HBB := Lib.hid (show trB T = false by
      rw [← Bool.not_eq_true, trB_iff, HN.out]
      exact fun e => hz e.1)
    by_cases z1 : n < 1
    · obtain rfl : n = 0 := by omega
      clear hz
      go_enter Try.func30, Try.ntmps30
      go_wp2
      go_ret
      exact ⟨by rw [HBB.out]; rfl, HB.out⟩
    · have z2 : (60 : Int) < n := by omega
      have z3 : ¬ (n : Int) < 1 := by omega
      have z4 : ¬ n = 0 := by omega
      clear hz
      go_enter Try.func30, Try.ntmps30
      go_wp2
      go_ret
      exact ⟨by rw [HBB.out]; rfl, HB.out⟩
end Go.Proofs.Ytjmpdilffmpkgaa.Sx
