/-
  Machines, by the model: the code of what is asked.
-/
import Derived.Test.YteemkophifcimaaK4
import Derived.WalkSpells
namespace Go.Proofs.Yteemkophifcimaa.Sx
open Go Go.RowKit
set_option linter.unusedVariables false
set_option linter.unusedSimpArgs false

def askC (A B C D : Int) (a b : List Int) (n : Int) : Int := if (vmB A B C D && vsB a b) = false then 1 else if ¬ (0 ≤ n ∧ n ≤ 60) then 2 else if liesB ⟨A, B, C, D⟩ (-2) 2 = false then 4 else 0
theorem vmB_ok {A B C D : Int} (h : vmB A B C D = true) : ((-1000000 ≤ A ∧ A ≤ 1000000) ∧ (-1000000 ≤ B ∧ B ≤ 1000000) ∧ (-1000000 ≤ C ∧ C ≤ 1000000) ∧ (-1000000 ≤ D ∧ D ≤ 1000000)) ∧ posM ⟨A, B, C, D⟩ := by
  unfold vmB at h
  simp only [Bool.and_eq_true, decide_eq_true_eq] at h
  exact ⟨fitM_iff.1 h.1, h.2⟩
set_option maxRecDepth 1000000 in
set_option maxHeartbeats 8000000 in
theorem askedS {w : World} {bm bs : Nat} {A B C D n : Int} {a b : List Int} {v0 v1 : Value} (x : BM w bm A B C D) (h : Here w bs a b v0 v1) (hC : -9223372036854775808 ≤ C ∧ C ≤ 9223372036854775807) (la : a.length ≤ 9223372036854775807) (lb : b.length ≤ 9223372036854775807) :
    Calls Try.prog 51 #[.pointer (some ⟨bm, 0, none⟩), .pointer (some ⟨bs, 0, none⟩), .int .i64 n] w fun e w' => e = .returned (.int .i64 (askC A B C D a b n)) ∧ Below w.heap.size w w' := by
  have m := machineS x hC.1 hC.2
  have OK := Lib.hid fun W' (hb : Below w.heap.size w W') => okS (x := (h.keep hb).bk) (h.keep hb).i0 (h.keep hb).i1 la lb
  have IN := Lib.hid fun W' => inR n 0 60 W'
  obtain ⟨z, hz⟩ : ∃ z, askC A B C D a b n = z := ⟨_, rfl⟩
  rw [hz]
  unfold askC at hz
  cases hv : vmB A B C D
  · rw [hv] at m
    have HZ := Lib.hid (show z = 1 from by rw [← hz, hv]; rfl)
    clear x h hv hz
    go_enter Try.func51, Try.ntmps51
    go_wp2_with (go_at_call 72; refine m.mono ?_)
    rintro e W1 ⟨rfl, b1⟩
    dsimp only
    go_wp2
    go_ret
    exact ⟨by rw [HZ.out]; rfl, b1⟩
  · rw [hv] at m
    obtain ⟨⟨o0, o1, o2, o3⟩, hp⟩ := vmB_ok hv
    have IM := Lib.hid fun W' (hb : Below w.heap.size w W') => imageS (x.keep hb) hp o0 o1 o2 o3
    clear x h o0 o1 o2 o3 hp
    cases hs : vsB a b
    · rw [hs] at OK
      have HZ := Lib.hid (show z = 1 from by rw [← hz, hv, hs]; rfl)
      clear hs hv hz
      go_enter Try.func51, Try.ntmps51
      go_wp2_with (go_at_call 72; refine m.mono ?_)
      rintro e W1 ⟨rfl, b1⟩
      dsimp only
      have ok := OK.out _ b1
      go_wp2_with (go_at_call 39; refine ok.mono ?_)
      first | (rintro e W2 rfl hs) | (rintro e W2 ⟨rfl, hs⟩)
      try dsimp only
      obtain rfl := hs.out
      go_wp2
      go_ret
      exact ⟨by rw [HZ.out]; rfl, b1⟩
    · rw [hs] at OK
      rw [hv, hs] at hz
      clear hs hv
      by_cases hn : 0 ≤ n ∧ n ≤ 60
      · have IN2 := Lib.hid fun W' => (show Calls Try.prog 65 #[.int .i64 n, .int .i64 0, .int .i64 60] W' fun e w' => e = .returned (.bool true) ∧ Same W' w' from by have := IN.out W'; rw [dec2 hn] at this; exact this)
        clear IN
        go_enter Try.func51, Try.ntmps51
        go_wp2_with (go_at_call 72; refine m.mono ?_)
        rintro e W1 ⟨rfl, b1⟩
        dsimp only
        have ok := OK.out _ b1
        go_wp2_with (go_at_call 39; refine ok.mono ?_)
        first | (rintro e W2 rfl hs) | (rintro e W2 ⟨rfl, hs⟩)
        try dsimp only
        obtain rfl := hs.out
        have ir := IN2.out W2
        clear hs ok m OK
        go_wp2_with (go_at_call 65; refine ir.mono ?_)
        first | (rintro e W3 rfl hs) | (rintro e W3 ⟨rfl, hs⟩)
        try dsimp only
        obtain rfl := hs.out
        have im := IM.out _ b1
        clear hs ir IM IN2
        go_wp2_with (go_at_call 61; refine im.mono ?_)
        rintro e W4 ⟨⟨lp, lq, hp, hq, rfl, ⟨l1, l2⟩, ⟨l3, l4⟩, hiff⟩, b4⟩
        dsimp only
        have b4 := b1.trans (b4.mono b1.size)
        obtain ⟨Wa, hWa, ba, ya⟩ := boxK W4 (.int .i64 0) (.int .i64 0) 36
        obtain ⟨Wb, hWb, bb, yb⟩ := boxK Wa (.int .i64 0) (.int .i64 0) 36
        have z1 : W4.heap.size < Wa.heap.size := by rw [← hWa]; simp
        have ya := ya.keep bb
        obtain ⟨W5, hW5, y5, _⟩ := storedK6 ya (.int .i64 lp) (.int .i64 lq)
        obtain ⟨W5', hW5', _, _, r5, B5⟩ := stored ya (.int .i64 lp) (.int .i64 lq)
        obtain rfl : W5 = W5' := hW5.symm.trans hW5'
        have y5b : Bk W5 Wa.heap.size _ _ _ := (r5 _ (by omega)).trans yb
        obtain ⟨W6, hW6, y6, _⟩ := storedK6 y5b (.int .i64 hp) (.int .i64 hq)
        obtain ⟨W6', hW6', _, _, r6, B6⟩ := stored y5b (.int .i64 hp) (.int .i64 hq)
        obtain rfl : W6 = W6' := hW6.symm.trans hW6'
        have y6a : Bk W6 W4.heap.size _ _ _ := (r6 _ (by omega)).trans y5
        have b6 := Lib.hid (((b4.trans (ba.mono b4.size)).trans (bb.mono (by have := b4.size; omega))).trans ((B5 _ b4.size).trans (B6 _ (by have := b4.size; omega))))
        have c0 := ya.c0
        have c1 := ya.c1
        have c2 := ya.f 0
        have c3 := ya.f 1
        have d0 := y5b.c0
        have d1 := y5b.c1
        have d2 := y5b.f 0
        have d3 := y5b.f 1
        have e0 := y6.c0
        have e1 := y6.c1
        have f0 := y6a.c0
        have f1 := y6a.c1
        have n1 : IntKind.i64.wrap (-lq) = -lq := by rw [IntKind.wrap_i64]; omega
        clear hW5' hW6' r5 r6 B5 B6 ya yb y5 y5b y6 y6a im b1 b4 ba bb
        cases hl : liesB ⟨A, B, C, D⟩ (-2) 2
        · have hor := hiff.2 hl
          have HZ := Lib.hid (show z = 4 from by rw [← hz, hl]; simp [hn])
          clear hiff hl hz
          by_cases hlo : lp < -lq
          · have g1 := decide_eq_true hlo
            go_wp2
            go_ret
            exact ⟨by rw [HZ.out]; rfl, b6.out⟩
          · have g1 := decide_eq_false hlo
            have hhi : hq < hp := hor.resolve_left hlo
            have g2 := decide_eq_true hhi
            clear hor
            go_wp2
            go_ret
            exact ⟨by rw [HZ.out]; rfl, b6.out⟩
        · have hnot : ¬ (lp < -lq ∨ hq < hp) := fun h => by rw [hiff.1 h] at hl; cases hl
          have g1 : decide (lp < -lq) = false := decide_eq_false fun h => hnot (.inl h)
          have g2 : decide (hq < hp) = false := decide_eq_false fun h => hnot (.inr h)
          have HZ := Lib.hid (show z = 0 from by rw [← hz, hl]; simp [hn])
          clear hiff hl hnot hz
          go_wp2
          go_ret
          exact ⟨by rw [HZ.out]; rfl, b6.out⟩
      · have IN2 := Lib.hid fun W' => (show Calls Try.prog 65 #[.int .i64 n, .int .i64 0, .int .i64 60] W' fun e w' => e = .returned (.bool false) ∧ Same W' w' from by have := IN.out W'; rw [dec2n hn] at this; exact this)
        have HZ := Lib.hid (show z = 2 from by rw [← hz, if_neg (by simp), if_pos hn])
        clear IN hz
        go_enter Try.func51, Try.ntmps51
        go_wp2_with (go_at_call 72; refine m.mono ?_)
        rintro e W1 ⟨rfl, b1⟩
        dsimp only
        have ok := OK.out _ b1
        go_wp2_with (go_at_call 39; refine ok.mono ?_)
        first | (rintro e W2 rfl hs) | (rintro e W2 ⟨rfl, hs⟩)
        try dsimp only
        obtain rfl := hs.out
        have ir := IN2.out W2
        clear hs ok m OK
        go_wp2_with (go_at_call 65; refine ir.mono ?_)
        first | (rintro e W3 rfl hs) | (rintro e W3 ⟨rfl, hs⟩)
        try dsimp only
        obtain rfl := hs.out
        go_wp2
        go_ret
        exact ⟨by rw [HZ.out]; rfl, b1⟩
end Go.Proofs.Yteemkophifcimaa.Sx
