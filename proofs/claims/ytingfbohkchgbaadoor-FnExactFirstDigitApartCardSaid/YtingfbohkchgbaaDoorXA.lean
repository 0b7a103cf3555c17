/-
  The first digit at which two trees differ: both programs.
-/
import Derived.Test.YtingfbohkchgbaaDoorTI
namespace Go.Proofs.YtingfbohkchgbaaDoor.Sx
open Go Go.RowKit
set_option linter.unusedVariables false
set_option linter.unusedSimpArgs false

/-- The first place at which two lists differ, with a code. -/
def ApE (l m : List Int) (n : Nat) (x c : Int) : Prop := (∃ i : Nat, i < n ∧ (∀ j, j < i → l.getD j 0 = m.getD j 0) ∧ l.getD i 0 ≠ m.getD i 0 ∧ x = i ∧ c = 0) ∨ ((∀ j, j < n → l.getD j 0 = m.getD j 0) ∧ x = 0 ∧ c = 6)
theorem apE_ex (l m : List Int) : ∀ n, ∃ x c, ApE l m n x c
  | 0 => ⟨0, 6, .inr ⟨fun j h => absurd h (Nat.not_lt_zero _), rfl, rfl⟩⟩
  | n + 1 => by
    obtain ⟨x, c, h⟩ := apE_ex l m n
    rcases h with ⟨i, h1, h2, h3, h4, h5⟩ | ⟨h1, h2, h3⟩
    · exact ⟨x, c, .inl ⟨i, by omega, h2, h3, h4, h5⟩⟩
    · by_cases e : l.getD n 0 = m.getD n 0
      · exact ⟨0, 6, .inr ⟨fun j hj => if hh : j < n then h1 j hh else by rw [show j = n by omega]; exact e, rfl, rfl⟩⟩
      · exact ⟨n, 0, .inl ⟨n, by omega, h1, e, rfl, rfl⟩⟩
/-- At a place before which all is alike: it ends there, or all is alike up to behind it. -/
theorem ApE.at {l m : List Int} {n j : Nat} {x c : Int} (h : ApE l m n x c) (hj : j < n) (hb : ∀ p, p < j → l.getD p 0 = m.getD p 0) (hne : l.getD j 0 ≠ m.getD j 0) : x = j ∧ c = 0 := by
  rcases h with ⟨i, h1, h2, h3, h4, h5⟩ | ⟨h1, h2, h3⟩
  · have : i = j := by
      rcases Nat.lt_trichotomy i j with h | h | h
      · exact absurd (hb i h) h3
      · exact h
      · exact absurd (h2 j h) hne
    subst this
    exact ⟨h4, h5⟩
  · exact absurd (h1 j hj) hne
theorem ApE.all {l m : List Int} {n : Nat} {x c : Int} (h : ApE l m n x c) (hb : ∀ p, p < n → l.getD p 0 = m.getD p 0) : x = 0 ∧ c = 6 := by
  rcases h with ⟨i, h1, h2, h3, h4, h5⟩ | ⟨h1, h2, h3⟩
  · exact absurd (hb i h1) h3
  · exact ⟨h2, h3⟩
/-- A number and a code are given. -/
def TwoN (w : World) (x c : Int) (e : Ending) (w' : World) : Prop := e = .returned (.tuple #[.int .i64 x, .int .i64 c]) ∧ Below w.heap.size w w'
theorem IsL.cells {w : World} {l : List Int} {s : Option Addr} {n c j : Nat} (h : IsL .i8 w l (.slice s n c)) (hj : j < l.length) : ∃ b o, s = some ⟨b, o, none⟩ ∧ w.cell? ⟨b, o + j, none⟩ = some (.int .i8 (l.getD j 0)) := by
  obtain ⟨b, o, c', h1, h2⟩ := h.cellD hj
  exact ⟨b, o, by simp at h1; exact h1.1, h2⟩
set_option maxRecDepth 1000000 in
set_option maxHeartbeats 16000000 in
theorem apartS {w : World} {T U : List Fk} {a b : List Int} {t u v0 v1 : Value} {n : Int} {x c : Int} (hT : IsF w T t) (hU : IsF w U u) (i0 : IsL .i8 w a v0) (i1 : IsL .i8 w b v1) (lT : T.length ≤ 1048576) (lU : U.length ≤ 1048576) (wT : Wid T) (wU : Wid U) (la : a.length ≤ 9223372036854775807) (lb : b.length ≤ 9223372036854775807)
    (h : ((trB T && trB U && vsB a b) = false ∧ x = 0 ∧ c = 1) ∨ ((trB T && trB U && vsB a b) = true ∧ ¬ (0 ≤ n ∧ n ≤ 60) ∧ x = 0 ∧ c = 2) ∨ ((trB T && trB U && vsB a b) = true ∧ (0 ≤ n ∧ n ≤ 60) ∧ ∃ J1 l1 k1 c1 J2 l2 k2 c2, ((∀ i, i < J1 → OkT T a b n.toNat i) ∧ J1 ≤ n.toNat + 400 ∧ EndT T a b n.toNat J1 l1 k1 c1) ∧ ((∀ i, i < J2 → OkT U a b n.toNat i) ∧ J2 ≤ n.toNat + 400 ∧ EndT U a b n.toNat J2 l2 k2 c2) ∧ ((¬ (c1 = 0 ∧ c2 = 0) ∧ x = 0 ∧ c = 7) ∨ (c1 = 0 ∧ c2 = 0 ∧ ApE l1 l2 n.toNat x c)))) :
    Calls Tryd.prog 20 #[.agg #[t], .agg #[u], .agg #[v0, v1], .int .i64 n] w (TwoN w x c) := by
  obtain ⟨W, hW, hB, xt⟩ := boxN w #[t] 34
  obtain ⟨U0, hU0, hB2, xu⟩ := boxN W #[u] 34
  obtain ⟨V, hV, hB3, y⟩ := boxK U0 v0 v1 36
  have bU := hB.trans (hB2.mono hB.size)
  have bV := bU.trans (hB3.mono bU.size)
  have ht : HereT V w.heap.size T t := ⟨at_keep (at_keep xt hB2) hB3, hT.keep bV⟩
  have hu : HereT V W.heap.size U u := ⟨at_keep xu hB3, hU.keep bV⟩
  have hs : Here V U0.heap.size a b v0 v1 := ⟨y, i0.keep bV, i1.keep bV⟩
  have m1 := okTS ht lT wT
  have m2 := okTS hu lU wU
  have m3 := givenS (n := n) ht hs lT wT la lb
  have HT := Lib.hid ht
  have HU := Lib.hid hu
  have HS := Lib.hid hs
  have BV := Lib.hid bV
  obtain ⟨st, kt, rfl⟩ := hT.form
  obtain ⟨su, ku, rfl⟩ := hU.form
  obtain ⟨s0, k0, rfl⟩ := i0.form
  obtain ⟨s1, k1, rfl⟩ := i1.form
  unfold askR at m3
  clear xt xu y ht hu hs hT hU i0 i1 hB hB2 hB3 bU bV lT lU wT wU
  cases hT : trB T
  · rw [hT] at m1 h
    obtain ⟨_, rfl, rfl⟩ : _ ∧ x = 0 ∧ c = 1 := by
      rcases h with h | h | h
      · exact h
      · exact absurd h.1 (by simp)
      · exact absurd h.1 (by simp)
    clear m2 m3 h
    go_enter Tryd.func20, Tryd.ntmps20
    go_wp2_with (go_at_call 43; refine m1.mono ?_)
    first | (rintro e W2 rfl hs) | (rintro e W2 ⟨rfl, hs⟩)
    rw [hs.out]
    clear hs m1
    try dsimp only
    go_wp2
    refine bodyPost_ret (v := .tuple #[.int .i64 0, .int .i64 1]) (by simp [results, Tryd.results20, go_sem]) rfl ?_
    exact ⟨rfl, BV.out⟩
  · rw [hT] at m1 h m3
    cases hU : trB U
    · rw [hU] at m2 h
      obtain ⟨_, rfl, rfl⟩ : _ ∧ x = 0 ∧ c = 1 := by
        rcases h with h | h | h
        · exact h
        · exact absurd h.1 (by simp)
        · exact absurd h.1 (by simp)
      clear m3 h
      go_enter Tryd.func20, Tryd.ntmps20
      go_wp2_with (first | (go_at_call_of 43 (Value.pointer (some ⟨w.heap.size, 0, none⟩)); refine m1.mono ?_) | fail)
      first | (rintro e W2 rfl hs) | (rintro e W2 ⟨rfl, hs⟩)
      rw [hs.out]
      clear hs m1
      try dsimp only
      go_wp2_with (go_at_call 43; refine m2.mono ?_)
      first | (rintro e W2 rfl hs) | (rintro e W2 ⟨rfl, hs⟩)
      rw [hs.out]
      clear hs m2
      try dsimp only
      go_wp2
      refine bodyPost_ret (v := .tuple #[.int .i64 0, .int .i64 1]) (by simp [results, Tryd.results20, go_sem]) rfl ?_
      exact ⟨rfl, BV.out⟩
    · rw [hU] at m2 h
      cases hV2 : vsB a b
      · rw [hV2] at h m3
        rw [if_pos (by simp)] at m3
        obtain ⟨_, rfl, rfl⟩ : _ ∧ x = 0 ∧ c = 1 := by
          rcases h with h | h | h
          · exact h
          · exact absurd h.1 (by simp)
          · exact absurd h.1 (by simp)
        clear h
        go_enter Tryd.func20, Tryd.ntmps20
        go_wp2_with (first | (go_at_call_of 43 (Value.pointer (some ⟨w.heap.size, 0, none⟩)); refine m1.mono ?_) | fail)
        first | (rintro e W2 rfl hs) | (rintro e W2 ⟨rfl, hs⟩)
        rw [hs.out]
        clear hs m1
        try dsimp only
        go_wp2_with (go_at_call 43; refine m2.mono ?_)
        first | (rintro e W2 rfl hs) | (rintro e W2 ⟨rfl, hs⟩)
        rw [hs.out]
        clear hs m2
        try dsimp only
        go_wp2_with (go_at_call 32; refine m3.mono ?_)
        first | (rintro e W2 rfl hs) | (rintro e W2 ⟨rfl, hs⟩)
        rw [hs.out]
        clear hs m3
        try dsimp only
        go_wp2
        refine bodyPost_ret (v := .tuple #[.int .i64 0, .int .i64 1]) (by simp [results, Tryd.results20, go_sem]) rfl ?_
        exact ⟨rfl, BV.out⟩
      · rw [hV2] at h m3
        rw [if_neg (by simp)] at m3
        by_cases hn : 0 ≤ n ∧ n ≤ 60
        · rw [if_neg (by omega)] at m3
          obtain ⟨J1, l1, k1', c1, J2, l2, k2, c2, ⟨hS1, hJ1, hE1⟩, ⟨hS2, hJ2, hE2⟩, hr⟩ : ∃ J1 l1 k1 c1 J2 l2 k2 c2, ((∀ i, i < J1 → OkT T a b n.toNat i) ∧ J1 ≤ n.toNat + 400 ∧ EndT T a b n.toNat J1 l1 k1 c1) ∧ ((∀ i, i < J2 → OkT U a b n.toNat i) ∧ J2 ≤ n.toNat + 400 ∧ EndT U a b n.toNat J2 l2 k2 c2) ∧ ((¬ (c1 = 0 ∧ c2 = 0) ∧ x = 0 ∧ c = 7) ∨ (c1 = 0 ∧ c2 = 0 ∧ ApE l1 l2 n.toNat x c)) := by
            rcases h with h | h | h
            · exact absurd h.1 (by simp)
            · exact absurd hn h.2.1
            · exact h.2.2
          obtain ⟨m, rfl⟩ : ∃ m : Nat, n = m := ⟨n.toNat, by omega⟩
          simp only [Int.toNat_natCast] at hS1 hJ1 hE1 hS2 hJ2 hE2 hr
          have hm60 : m ≤ 60 := by omega
          have r1 := runTS HT.out HS.out hT hV2 hm60 hS1 hJ1 hE1
          have R2 := Lib.hid fun (W' : World) (hb : Below V.heap.size V W') => runTS (HU.out.keep hb) (HS.out.keep hb) hU hV2 hm60 hS2 hJ2 hE2
          have hL1 : c1 = 0 → l1.length = m := fun e => by
            cases hE1 with
            | done h => exact h
            | budget => cases e
          have hL2 : c2 = 0 → l2.length = m := fun e => by
            cases hE2 with
            | done h => exact h
            | budget => cases e
          have LL := Lib.hid (And.intro hL1 hL2)
          have hlB : ∀ (s : Option Addr) (n k : Nat) (W : World), (Builtin.len_ #[25] 3 #[.slice s n k]).run Tryd.prog W = .ok (.int .i64 n) W := fun s n k W => rfl
          clear h hS1 hJ1 hE1 hS2 hJ2 hE2 hn hL1 hL2
          go_enter Tryd.func20, Tryd.ntmps20
          go_wp2_with (first | (go_at_call_of 43 (Value.pointer (some ⟨w.heap.size, 0, none⟩)); refine m1.mono ?_) | fail)
          first | (rintro e W2 rfl hs) | (rintro e W2 ⟨rfl, hs⟩)
          rw [hs.out]
          clear hs m1
          try dsimp only
          go_wp2_with (go_at_call 43; refine m2.mono ?_)
          first | (rintro e W2 rfl hs) | (rintro e W2 ⟨rfl, hs⟩)
          rw [hs.out]
          clear hs m2
          try dsimp only
          go_wp2_with (go_at_call 32; refine m3.mono ?_)
          first | (rintro e W2 rfl hs) | (rintro e W2 ⟨rfl, hs⟩)
          rw [hs.out]
          clear hs m3
          try dsimp only
          go_wp2_with (go_at_call 33; refine r1.mono ?_)
          rintro e W3 ⟨⟨s3, k3, rfl, o3⟩, b3⟩
          try dsimp only
          have r2 := R2.out W3 b3
          have HB3 := Lib.hid (BV.out.trans (b3.mono BV.out.size))
          have HO3 := Lib.hid o3
          clear r1 o3 b3
          go_wp2_with (go_at_call 33; refine r2.mono ?_)
          rintro e W4 ⟨⟨s4, k4, rfl, o4⟩, b4⟩
          try dsimp only
          have HB4 := Lib.hid (HB3.out.trans (b4.mono HB3.out.size))
          have I3 := Lib.hid (HO3.out.is.keep b4)
          have I4 := Lib.hid o4.is
          clear r2 o4 b4
          rcases hr with ⟨hc, rfl, rfl⟩ | ⟨rfl, rfl, hap⟩
          · by_cases h1 : c1 = 0
            · have h2 : (c2 == 0) = false := by rw [beq_eq_false_iff_ne]; exact fun e => hc ⟨h1, e⟩
              subst h1
              clear hc
              go_wp2
              refine bodyPost_ret (v := .tuple #[.int .i64 0, .int .i64 7]) (by simp [results, Tryd.results20, go_sem]) rfl ?_
              exact ⟨rfl, HB4.out⟩
            · have h2 : (c1 == 0) = false := by rw [beq_eq_false_iff_ne]; exact h1
              clear hc
              go_wp2
              refine bodyPost_ret (v := .tuple #[.int .i64 0, .int .i64 7]) (by simp [results, Tryd.results20, go_sem]) rfl ?_
              exact ⟨rfl, HB4.out⟩
          · have e1 := LL.out.1 rfl
            have e2 := LL.out.2 rfl
            rw [e1] at I3 ⊢
            rw [e2] at I4 ⊢
            have HAP := Lib.hid hap
            have HE := Lib.hid (And.intro e1 e2)
            clear hap e1 e2
            go_wp2
            go_loopw [17] (fun i wr => ∃ j : Nat, j ≤ m ∧ i = .int .i64 j ∧ Hid (∀ p, p < j → l1.getD p 0 = l2.getD p 0) ∧ Below W4.heap.size W4 wr) (fun i _ => m - (RowKit.intOf i).toNat)
            case atStart => exact ⟨0, Nat.zero_le _, rfl, fun p hp => absurd hp (Nat.not_lt_zero _), Below.refl _ _⟩
            case round =>
              obtain ⟨j, hj, rfl, hbf, hb⟩ := hrel
              by_cases hlt : j < m
              · obtain ⟨g1, o1, rfl, q1⟩ := ((show IsL .i8 W4 l1 (.slice s3 m k3) from I3.out).keep hb).cells (j := j) (by rw [HE.out.1]; exact hlt)
                obtain ⟨g2, o2, rfl, q2⟩ := ((show IsL .i8 W4 l2 (.slice s4 m k4) from I4.out).keep hb).cells (j := j) (by rw [HE.out.2]; exact hlt)
                obtain ⟨d1, hd1⟩ : ∃ d, l1.getD j 0 = d := ⟨_, rfl⟩
                obtain ⟨d2, hd2⟩ : ∃ d, l2.getD j 0 = d := ⟨_, rfl⟩
                rw [hd1] at q1
                rw [hd2] at q2
                have HDD := Lib.hid (And.intro hd1 hd2)
                have HBF := Lib.hid hbf
                have HBW := Lib.hid hb
                have gj : (j : Int) < m := by omega
                clear hd1 hd2 hbf hb
                by_cases hd : d1 = d2
                · subst hd
                  have ej : IntKind.i64.wrap ((j : Int) + 1) = (j : Int) + 1 := by rw [IntKind.wrap_i64]; omega
                  go_upto_region 13 with (fail)
                  go_quiet (fail)
                  go_wp2
                  exact ⟨⟨j + 1, by omega, rfl, show ∀ p, p < j + 1 → l1.getD p 0 = l2.getD p 0 from fun p hp => if hh : p < j then HBF.out p hh else by rw [show p = j by omega, HDD.out.1, HDD.out.2], HBW.out.trans ⟨rfl, rfl, rfl, Nat.le_refl _, fun _ _ => rfl⟩⟩, by simp [RowKit.intOf]; omega⟩
                · have hne : (d1 == d2) = false := by rw [beq_eq_false_iff_ne]; exact hd
                  obtain ⟨hx, hc⟩ := HAP.out.at hlt HBF.out (by rw [HDD.out.1, HDD.out.2]; exact hd)
                  subst hx
                  subst hc
                  clear hd
                  go_upto_region 13 with (fail)
                  go_quiet (fail)
                  go_wp2
                  refine bodyPost_ret (v := .tuple #[.int .i64 j, .int .i64 0]) (by simp [results, Tryd.results20, go_sem]) rfl ?_
                  exact ⟨rfl, (HB4.out.trans (HBW.out.mono HB4.out.size)).trans ⟨rfl, rfl, rfl, Nat.le_refl _, fun _ _ => rfl⟩⟩
              · obtain rfl : j = m := by omega
                obtain ⟨hx, hc⟩ := HAP.out.all hbf
                subst hx
                subst hc
                have HBW := Lib.hid hb
                clear hbf hb
                go_wp2
                refine bodyPost_ret (v := .tuple #[.int .i64 0, .int .i64 6]) (by simp [results, Tryd.results20, go_sem]) rfl ?_
                exact ⟨rfl, HB4.out.trans (HBW.out.mono HB4.out.size)⟩
        · rw [if_pos hn] at m3
          obtain ⟨rfl, rfl⟩ : x = 0 ∧ c = 2 := by
            rcases h with h | h | h
            · exact absurd h.1 (by simp)
            · exact h.2.2
            · exact absurd h.2.1 hn
          clear h hn
          go_enter Tryd.func20, Tryd.ntmps20
          go_wp2_with (first | (go_at_call_of 43 (Value.pointer (some ⟨w.heap.size, 0, none⟩)); refine m1.mono ?_) | fail)
          first | (rintro e W2 rfl hs) | (rintro e W2 ⟨rfl, hs⟩)
          rw [hs.out]
          clear hs m1
          try dsimp only
          go_wp2_with (go_at_call 43; refine m2.mono ?_)
          first | (rintro e W2 rfl hs) | (rintro e W2 ⟨rfl, hs⟩)
          rw [hs.out]
          clear hs m2
          try dsimp only
          go_wp2_with (go_at_call 32; refine m3.mono ?_)
          first | (rintro e W2 rfl hs) | (rintro e W2 ⟨rfl, hs⟩)
          rw [hs.out]
          clear hs m3
          try dsimp only
          go_wp2
          refine bodyPost_ret (v := .tuple #[.int .i64 0, .int .i64 2]) (by simp [results, Tryd.results20, go_sem]) rfl ?_
          exact ⟨rfl, BV.out⟩
end Go.Proofs.YtingfbohkchgbaaDoor.Sx
