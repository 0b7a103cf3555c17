/-
  The law of a function from two streams to a stream and a code: its walk.
-/
import Derived.Test.YtlkbnpgembgdfaaAV9
import Derived.Test.YtlkbnpgembgdfaaY1
import Derived.Deep.DeepCutAuto
namespace Go.Proofs.Ytlkbnpgembgdfaa.Sx
open Go Go.RowKit
set_option linter.unusedVariables false
set_option linter.unusedSimpArgs false

/-- Counting a stream, from any number on. -/
def szR2 (k : Int) (a b : List Int) : Int := if k < a.length then -1 else if k - a.length < b.length then -1 else k - a.length - b.length
set_option maxRecDepth 100000 in
set_option maxHeartbeats 1000000 in
theorem szS2 {k : Int} {w : World} {a b : List Int} {v0 v1 : Value} (h0 : IsL .i8 w a v0) (h1 : IsL .i8 w b v1) (la : a.length ≤ 9223372036854775807) (lb : b.length ≤ 9223372036854775807) (k0 : 0 ≤ k) (k1 : k ≤ 1048576) :
    Calls Try.prog 10 #[.agg #[v0, v1], .int .i64 k] w fun e w' => e = .returned (.int .i64 (szR2 k a b)) ∧ Below w.heap.size w w' := by
  obtain ⟨W, hW, hB, hz, hbx, c0, c1⟩ := box2 w v0 v1 24
  have m0 := sz8 (h0.keep hB) (k := k) k0 k1 la
  unfold szR2
  by_cases ha : k < a.length
  · rw [if_pos ha] at m0 ⊢
    clear hbx hz h0 h1 ha la lb
    go_enter Try.func10, Try.ntmps10
    go_wp2_with (go_at_call 33; refine m0.mono ?_)
    first | (rintro e W1 rfl hs) | (rintro e W1 ⟨rfl, hs⟩)
    obtain rfl := hs.out
    clear hs
    go_wp2
    go_ret
    exact ⟨rfl, hB⟩
  · rw [if_neg ha] at m0 ⊢
    have m1 := sz8 (h1.keep hB) (k := k - a.length) (by omega) (by omega) lb
    have b0 : 0 ≤ k - a.length := by omega
    by_cases hb : k - a.length < b.length
    · rw [if_pos hb] at m1 ⊢
      clear hbx hz h0 h1 ha hb
      go_enter Try.func10, Try.ntmps10
      go_wp2_with (go_at_call 33; refine m0.mono ?_)
      first | (rintro e W1 rfl hs) | (rintro e W1 ⟨rfl, hs⟩)
      obtain rfl := hs.out
      clear hs
      go_wp2_with (go_at_call 33; refine m1.mono ?_)
      first | (rintro e W1 rfl hs) | (rintro e W1 ⟨rfl, hs⟩)
      obtain rfl := hs.out
      clear hs
      go_wp2
      go_ret
      exact ⟨rfl, hB⟩
    · rw [if_neg hb] at m1 ⊢
      have b1 : 0 ≤ k - a.length - b.length := by omega
      clear hbx hz h0 h1 ha hb
      go_enter Try.func10, Try.ntmps10
      go_wp2_with (go_at_call 33; refine m0.mono ?_)
      first | (rintro e W1 rfl hs) | (rintro e W1 ⟨rfl, hs⟩)
      obtain rfl := hs.out
      clear hs
      go_wp2_with (go_at_call 33; refine m1.mono ?_)
      first | (rintro e W1 rfl hs) | (rintro e W1 ⟨rfl, hs⟩)
      obtain rfl := hs.out
      clear hs
      go_wp2
      go_ret
      exact ⟨rfl, hB⟩
/-- A copied stream, told from an older world. -/
structure CopZ (Z W' WA : World) (a b : List Int) (e : Ending) : Prop where
  mk ::
  here : ∃ p0 c0 p1 c1, e = .returned (.agg #[.slice (some p0) a.length c0, .slice (some p1) b.length c1]) ∧ Own2 .i8 W'.heap.size WA a b (.slice (some p0) a.length c0) (.slice (some p1) b.length c1)
  pre : Below W'.heap.size W' WA
  all : Below Z.heap.size Z WA
  s1 : Z.heap.size ≤ W'.heap.size
  s2 : W'.heap.size ≤ WA.heap.size
theorem toZ {w Z : World} {a b : List Int} {v0 v1 : Value} (h0 : IsL .i8 w a v0) (h1 : IsL .i8 w b v1) (hB : Below w.heap.size w Z) (la : a.length ≤ 1099511627776) (lb : b.length ≤ 1099511627776) :
    ∀ W', Below Z.heap.size Z W' → Calls Try.prog 12 #[.agg #[v0, v1]] W' fun e WA => CopZ Z W' WA a b e := fun W' hb =>
  (toS ((h0.keep hB).keep hb) ((h1.keep hB).keep hb) la lb).mono fun e WA h => ⟨h.here, h.below, hb.trans (h.below.mono hb.size), hb.size, h.below.size⟩
/-- A stream and a code are given, told from an older world. -/
structure GavZ (Z W' WC : World) (A B : List Int) (c : Int) (e : Ending) : Prop where
  mk ::
  here : ∃ s0 c0 s1 c1, e = .returned (.tuple #[.agg #[.slice s0 A.length c0, .slice s1 B.length c1], .int .i64 c]) ∧ Own2 .i8 W'.heap.size WC A B (.slice s0 A.length c0) (.slice s1 B.length c1)
  pre : Below W'.heap.size W' WC
  all : Below Z.heap.size Z WC
  s1 : Z.heap.size ≤ W'.heap.size
  s2 : W'.heap.size ≤ WC.heap.size
theorem gavZ {g : Nat} {Z : World} {a b c d A B : List Int} {cd : Int} (h : Does2 g a b c d A B cd) : ∀ W' v0 v1 u0 u1, Below Z.heap.size Z W' → IsL .i8 W' a v0 → IsL .i8 W' b v1 → IsL .i8 W' c u0 → IsL .i8 W' d u1 → Calls Try.prog g #[.agg #[v0, v1], .agg #[u0, u1]] W' fun e WC => GavZ Z W' WC A B cd e := fun W' v0 v1 u0 u1 hb h0 h1 h2 h3 =>
  (h W' v0 v1 u0 u1 h0 h1 h2 h3).mono fun e WC h => ⟨h.here, h.below, hb.trans (h.below.mono hb.size), hb.size, h.below.size⟩
set_option maxRecDepth 1000000 in
set_option maxHeartbeats 16000000 in
theorem law_AverageOf {w : World} {a b c d A B : List Int} {cd : Int} {v0 v1 u0 u1 : Value} (h0 : IsL .i8 w a v0) (h1 : IsL .i8 w b v1) (h2 : IsL .i8 w c u0) (h3 : IsL .i8 w d u1) (la : a.length ≤ 9223372036854775807) (lb : b.length ≤ 9223372036854775807) (lc : c.length ≤ 9223372036854775807) (ld : d.length ≤ 9223372036854775807)
    (lA : A.length ≤ 1099511627776) (lB : B.length ≤ 1099511627776) (hS : Does2 31 a b c d A B cd) (hI : Does2 32 a b c d A B cd) :
    Calls Try.prog 9 #[.agg #[v0, v1], .agg #[u0, u1]] w fun e w' => e = .returned (.bool true) ∧ Below w.heap.size w w' := by
  obtain ⟨W, hW, hB, X⟩ := boxK w v0 v1 24
  obtain ⟨V, hV, hB2, Y⟩ := boxK W u0 u1 24
  have X := X.keep hB2
  have bV := hB.trans (hB2.mono hB.size)
  have z1 : W.heap.size = w.heap.size + 1 := by rw [← hW]; simp
  have m0 := szS2 (k := 1048576) (h0.keep bV) (h1.keep bV) la lb (by omega) (by omega)
  have c0 := X.c0
  have c1 := X.c1
  have HX := Lib.hid X
  have HY := Lib.hid Y
  have HZ := Lib.hid z1
  have HB := Lib.hid bV
  have HS := Lib.hid hS
  have HI := Lib.hid hI
  clear X Y z1 bV hB hB2 hS hI
  by_cases hsz : szR2 1048576 a b < 0
  · clear h0 h1
    go_enter Try.func9, Try.ntmps9
    go_wp2_with (go_at_call 10; refine m0.mono ?_)
    first | (rintro e W1 rfl hs) | (rintro e W1 ⟨rfl, hs⟩)
    go_wp2
    go_ret
    exact ⟨rfl, HB.out.trans (hs.mono HB.out.size)⟩
  · have hl : a.length ≤ 1048576 ∧ b.length ≤ 1048576 ∧ szR2 1048576 a b ≤ 1048576 := by
      unfold szR2 at hsz ⊢
      split at hsz
      · omega
      · rename_i g
        rw [if_neg g]
        split at hsz
        · omega
        · rename_i g
          rw [if_neg g]
          omega
    obtain ⟨sz, hszz⟩ : ∃ x, szR2 1048576 a b = x := ⟨_, rfl⟩
    rw [hszz] at m0 hsz hl
    have sz0 : 0 ≤ sz := by omega
    have M1 := Lib.hid fun W' (hb : Below V.heap.size V W') => szS2 (k := sz) ((h2.keep HB.out).keep hb) ((h3.keep HB.out).keep hb) lc ld sz0 hl.2.2
    clear hszz la lb
    by_cases hsz2 : szR2 sz c d < 0
    · clear h0 h1 h2 h3
      go_enter Try.func9, Try.ntmps9
      go_wp2_with (go_at_call 10; refine m0.mono ?_)
      first | (rintro e W1 rfl b1) | (rintro e W1 ⟨rfl, b1⟩)
      have m1 := M1.out _ b1
      have c0 := (HY.out.keep b1).c0
      have c1 := (HY.out.keep b1).c1
      go_wp2_with (go_at_call 10; refine m1.mono ?_)
      first | (rintro e W2 rfl b2) | (rintro e W2 ⟨rfl, b2⟩)
      go_wp2
      go_ret
      have b2 := b1.trans (b2.mono b1.size)
      exact ⟨rfl, HB.out.trans (b2.mono HB.out.size)⟩
    · have hl2 : c.length ≤ 1048576 ∧ d.length ≤ 1048576 := by
        have := hl.2.2
        unfold szR2 at hsz2
        split at hsz2
        · omega
        · split at hsz2 <;> omega
      have sz2 : 0 ≤ szR2 sz c d := by omega
      clear hsz hsz2
      go_enter Try.func9, Try.ntmps9
      go_wp2_with (go_at_call 10; refine m0.mono ?_)
      first | (rintro e W1 rfl b1) | (rintro e W1 ⟨rfl, b1⟩)
      have m1 := M1.out _ b1
      have d0 := (HY.out.keep b1).c0
      have d1 := (HY.out.keep b1).c1
      go_wp2_with (go_at_call 10; refine m1.mono ?_)
      first | (rintro e Z rfl b2) | (rintro e Z ⟨rfl, b2⟩)
      have b2 := b1.trans (b2.mono b1.size)
      have hB := HB.out.trans (b2.mono HB.out.size)
      have X := HX.out.keep b2
      have Y := HY.out.keep b2
      have zX := X.lt
      have zY := Y.lt
      have TA := Lib.hid (toZ h0 h1 hB (by omega) (by omega))
      have TB := Lib.hid (toZ h2 h3 hB (by omega) (by omega))
      have SP := Lib.hid (gavZ (Z := Z) HS.out)
      have KP := Lib.hid (show ∀ w', Below Z.heap.size Z w' → (w'.cell? ⟨w.heap.size, 0, none⟩ = some v0 ∧ w'.cell? ⟨w.heap.size, 1, none⟩ = some v1) ∧ (w'.cell? ⟨W.heap.size, 0, none⟩ = some u0 ∧ w'.cell? ⟨W.heap.size, 1, none⟩ = some u1) ∧ Below Z.heap.size Z w' from fun w' h => ⟨⟨(X.keep h).c0, (X.keep h).c1⟩, ⟨(Y.keep h).c0, (Y.keep h).c1⟩, h⟩)
      have HX := Lib.hid X
      have HY := Lib.hid Y
      have HBZ := Lib.hid hB
      have c0 := X.c0
      have c1 := X.c1
      have d0 := Y.c0
      have d1 := Y.c1
      clear m0 m1 M1 b1 b2 hB X Y
      go_upto_region 8 with (fail)
      go_cut [6, 7] (fun s t wx => t = .int .i64 cd ∧ Boxd Z.heap.size Z wx A B s)
      case first =>
        go_region_held3 (fun w' => (w'.cell? ⟨w.heap.size, 0, none⟩ = some v0 ∧ w'.cell? ⟨w.heap.size, 1, none⟩ = some v1) ∧ (w'.cell? ⟨W.heap.size, 0, none⟩ = some u0 ∧ w'.cell? ⟨W.heap.size, 1, none⟩ = some u1) ∧ Below Z.heap.size Z w')
          (exact KP.out _ (by first | with_reducible exact hbC | with_reducible exact hbA | with_reducible exact hbB | with_reducible exact (Below.refl _ _).drew | with_reducible exact ((Below.refl _ _).alloc (Nat.le_refl _) _).drew | with_reducible exact hbA.alloc hbA.size _ | with_reducible exact hbB.alloc hbB.size _ | with_reducible exact hbC.alloc hbC.size _ | exact Below.setCell (Below.setCell hbC (by first | exact zi.out | exact hbC.size | fail) _) (by first | exact zi.out | exact hbC.size | fail) _ | fail))
          (first
            | (go_at_call 12; (with_reducible refine Calls.mono (TA.out _ ?_) ?_); (· first | with_reducible exact hbC | with_reducible exact hbA | with_reducible exact hbB | with_reducible exact (Below.refl _ _).drew | with_reducible exact ((Below.refl _ _).alloc (Nat.le_refl _) _).drew | with_reducible exact hbA.alloc hbA.size _ | with_reducible exact hbB.alloc hbB.size _ | with_reducible exact hbC.alloc hbC.size _ | exact Below.setCell (Below.setCell hbC (by first | exact zi.out | exact hbC.size | fail) _) (by first | exact zi.out | exact hbC.size | fail) _ | fail); rintro e WA ⟨⟨xs0, xc0, xs1, xc1, rfl, oA⟩, bA, hbA, zA0, zA⟩)
            | (go_at_call 12; (with_reducible refine Calls.mono (TB.out _ ?_) ?_); (· first | with_reducible exact hbC | with_reducible exact hbA | with_reducible exact hbB | with_reducible exact (Below.refl _ _).drew | with_reducible exact ((Below.refl _ _).alloc (Nat.le_refl _) _).drew | with_reducible exact hbA.alloc hbA.size _ | with_reducible exact hbB.alloc hbB.size _ | with_reducible exact hbC.alloc hbC.size _ | exact Below.setCell (Below.setCell hbC (by first | exact zi.out | exact hbC.size | fail) _) (by first | exact zi.out | exact hbC.size | fail) _ | fail); rintro e WB ⟨⟨ys0, yc0, ys1, yc1, rfl, oB⟩, bB, hbB, zB0, zB⟩)
            | (go_at_call 31; (with_reducible refine Calls.mono (SP.out _ _ _ _ _ ?_ ?_ ?_ ?_ ?_) ?_); (· first | with_reducible exact hbC | with_reducible exact hbA | with_reducible exact hbB | with_reducible exact (Below.refl _ _).drew | with_reducible exact ((Below.refl _ _).alloc (Nat.le_refl _) _).drew | with_reducible exact hbA.alloc hbA.size _ | with_reducible exact hbB.alloc hbB.size _ | with_reducible exact hbC.alloc hbC.size _ | exact Below.setCell (Below.setCell hbC (by first | exact zi.out | exact hbC.size | fail) _) (by first | exact zi.out | exact hbC.size | fail) _ | fail); (· first | with_reducible exact oA.o0.is | with_reducible exact oA.o0.is.keep bB | with_reducible exact oA.o0.is.keep ((Below.refl _ _).alloc (Nat.le_refl _) _) | with_reducible exact (oA.o0.is.keep ((Below.refl _ _).alloc (Nat.le_refl _) _)).keep bB | with_reducible exact (oA.o0.is.keep bB).keep ((Below.refl _ _).alloc (Nat.le_refl _) _) | fail); (· first | with_reducible exact oA.o1.is | with_reducible exact oA.o1.is.keep bB | with_reducible exact oA.o1.is.keep ((Below.refl _ _).alloc (Nat.le_refl _) _) | with_reducible exact (oA.o1.is.keep ((Below.refl _ _).alloc (Nat.le_refl _) _)).keep bB | with_reducible exact (oA.o1.is.keep bB).keep ((Below.refl _ _).alloc (Nat.le_refl _) _) | fail); (· first | with_reducible exact oB.o0.is | with_reducible exact oB.o0.is.keep bA | with_reducible exact oB.o0.is.keep ((Below.refl _ _).alloc (Nat.le_refl _) _) | with_reducible exact (oB.o0.is.keep ((Below.refl _ _).alloc (Nat.le_refl _) _)).keep bA | with_reducible exact (oB.o0.is.keep bA).keep ((Below.refl _ _).alloc (Nat.le_refl _) _) | fail); (· first | with_reducible exact oB.o1.is | with_reducible exact oB.o1.is.keep bA | with_reducible exact oB.o1.is.keep ((Below.refl _ _).alloc (Nat.le_refl _) _) | with_reducible exact (oB.o1.is.keep ((Below.refl _ _).alloc (Nat.le_refl _) _)).keep bA | with_reducible exact (oB.o1.is.keep bA).keep ((Below.refl _ _).alloc (Nat.le_refl _) _) | fail); rintro e WC ⟨⟨us0, uc0, us1, uc1, rfl, oC⟩, bC, hbC, zC0, zC⟩; (try simp at zA); (try simp at zB); first | (have ys' : WC.heap[Z.heap.size]? = some (.cells #[.slice none 0 0, .slice none 0 0] (26 : Nat) (0, 0)) := (by first | with_reducible exact at_below bC (by first | (simp; done) | (simp; omega) | omega | fail) (at_below bB (by first | (simp; done) | (simp; omega) | omega | fail) (at_below bA (by first | (simp; done) | (simp; omega) | omega | fail) (at_drew (at_new rfl)))) | fail); have ys : Bk WC Z.heap.size (.slice none 0 0) (.slice none 0 0) 26 := ys'; clear ys'; have k0 := ys.c0; have k1 := ys.c1; have t0 := ys.f 0; have t1 := ys.f 1; have zi := Lib.hid (show Z.heap.size ≤ Z.heap.size from by first | exact Nat.le_refl _ | exact hbA.size | exact hbB.size | fail)) | (have ys' : WC.heap[Z.heap.size]? = some (.cells #[.slice none 0 0, .slice none 0 0] (26 : Nat) (0, 0)) := (by first | with_reducible exact at_below bC (by first | (simp; done) | (simp; omega) | omega | fail) (at_below bA (by first | (simp; done) | (simp; omega) | omega | fail) (at_below bB (by first | (simp; done) | (simp; omega) | omega | fail) (at_drew (at_new rfl)))) | fail); have ys : Bk WC Z.heap.size (.slice none 0 0) (.slice none 0 0) 26 := ys'; clear ys'; have k0 := ys.c0; have k1 := ys.c1; have t0 := ys.f 0; have t1 := ys.f 1; have zi := Lib.hid (show Z.heap.size ≤ Z.heap.size from by first | exact Nat.le_refl _ | exact hbA.size | exact hbB.size | fail)) | (have ys' : WC.heap[WA.heap.size]? = some (.cells #[.slice none 0 0, .slice none 0 0] (26 : Nat) (0, 0)) := (by first | with_reducible exact at_below bC (by first | (simp; done) | (simp; omega) | omega | fail) (at_below bB (by first | (simp; done) | (simp; omega) | omega | fail) (at_new rfl)) | fail); have ys : Bk WC WA.heap.size (.slice none 0 0) (.slice none 0 0) 26 := ys'; clear ys'; have k0 := ys.c0; have k1 := ys.c1; have t0 := ys.f 0; have t1 := ys.f 1; have zi := Lib.hid (show Z.heap.size ≤ WA.heap.size from by first | exact Nat.le_refl _ | exact hbA.size | exact hbB.size | fail)) | (have ys' : WC.heap[WB.heap.size]? = some (.cells #[.slice none 0 0, .slice none 0 0] (26 : Nat) (0, 0)) := (by first | with_reducible exact at_below bC (by first | (simp; done) | (simp; omega) | omega | fail) (at_below bA (by first | (simp; done) | (simp; omega) | omega | fail) (at_new rfl)) | fail); have ys : Bk WC WB.heap.size (.slice none 0 0) (.slice none 0 0) 26 := ys'; clear ys'; have k0 := ys.c0; have k1 := ys.c1; have t0 := ys.f 0; have t1 := ys.f 1; have zi := Lib.hid (show Z.heap.size ≤ WB.heap.size from by first | exact Nat.le_refl _ | exact hbA.size | exact hbB.size | fail)) | (have ys' : WC.heap[WB.heap.size]? = some (.cells #[.slice none 0 0, .slice none 0 0] (26 : Nat) (0, 0)) := (by first | with_reducible exact at_below bC (by first | (simp; done) | (simp; omega) | omega | fail) (at_new rfl) | fail); have ys : Bk WC WB.heap.size (.slice none 0 0) (.slice none 0 0) 26 := ys'; clear ys'; have k0 := ys.c0; have k1 := ys.c1; have t0 := ys.f 0; have t1 := ys.f 1; have zi := Lib.hid (show Z.heap.size ≤ WB.heap.size from by first | exact Nat.le_refl _ | exact hbA.size | exact hbB.size | fail)) | (have ys' : WC.heap[WA.heap.size]? = some (.cells #[.slice none 0 0, .slice none 0 0] (26 : Nat) (0, 0)) := (by first | with_reducible exact at_below bC (by first | (simp; done) | (simp; omega) | omega | fail) (at_new rfl) | fail); have ys : Bk WC WA.heap.size (.slice none 0 0) (.slice none 0 0) 26 := ys'; clear ys'; have k0 := ys.c0; have k1 := ys.c1; have t0 := ys.f 0; have t1 := ys.f 1; have zi := Lib.hid (show Z.heap.size ≤ WA.heap.size from by first | exact Nat.le_refl _ | exact hbA.size | exact hbB.size | fail)) | skip)
            | (fail))
        all_goals
          first
            | (obtain ⟨W5, hW5, y5, _⟩ := storedK6 ys (.slice us0 A.length uc0) (.slice us1 B.length uc1)
               obtain ⟨W5', hW5', _, _, r5, B5⟩ := stored ys (.slice us0 A.length uc0) (.slice us1 B.length uc1)
               obtain rfl : W5 = W5' := hW5.symm.trans hW5'
               rw [hW5]
               go_wp2_with fail
               go_meet
               exact ⟨rfl, ⟨_, _, _, _, _, rfl, y5, ⟨(oC.o0.rest (by first | (simp; done) | (simp; omega) | omega | fail) r5).mono zC0, (oC.o1.rest (by first | (simp; done) | (simp; omega) | omega | fail) r5).mono zC0, oC.apart⟩, zi.out⟩, hbC.trans (B5 _ zi.out)⟩)
            | (obtain ⟨W5, hW5, bS, y5⟩ := boxK WC (.slice us0 A.length uc0) (.slice us1 B.length uc1) 26
               rw [hW5]
               have o5 := oC.keep bS
               go_wp2_with fail
               go_meet
               exact ⟨rfl, ⟨_, _, _, _, _, rfl, y5, ⟨o5.o0.mono zC0, o5.o1.mono zC0, o5.apart⟩, hbC.size⟩, hbC.trans (bS.mono hbC.size)⟩)
      case rest =>
      obtain ⟨rfl, ⟨n3, us0, uc0, us1, uc1, rfl, x3, o3, hn3⟩, b3⟩ := hcut
      have X := HX.out.keep b3
      have Y := HY.out.keep b3
      have hB := HBZ.out.trans (b3.mono HBZ.out.size)
      have zn := x3.lt
      have zX := X.lt
      have zY := Y.lt
      clear TA TB SP KP HX HY HBZ HB HS b3 c0 c1 d0 d1 zX zY
      have zX := X.lt
      have zY := Y.lt
      have t := toS (h0.keep hB) (h1.keep hB) (by omega) (by omega)
      have c0 := X.c0
      have c1 := X.c1
      go_wp2_with (go_at_call 12; refine t.mono ?_)
      rintro e W4 ⟨⟨xs0, xc0, xs1, xc1, rfl, ox⟩, b4⟩
      obtain ⟨V4, hV4, e4, xb⟩ := boxK W4 (.slice (some xs0) a.length xc0) (.slice (some xs1) b.length xc1) 26
      have LX := ox.lows
      have z4 := b4.size
      have z4' := xb.lt
      have P3x := (o3.apart2 ox (Nat.le_refl _)).symm
      replace b4 := b4.trans (e4.mono b4.size)
      clear t c0 c1
      replace X := X.keep b4
      replace Y := Y.keep b4
      replace x3 := x3.keep b4
      replace o3 := o3.keep b4
      replace ox := ox.keep e4
      replace hB := hB.trans (b4.mono hB.size)
      clear b4 e4
      have t := toS (h2.keep hB) (h3.keep hB) (by omega) (by omega)
      have c0 := Y.c0
      have c1 := Y.c1
      go_wp2_with (go_at_call 12; refine t.mono ?_)
      rintro e W5 ⟨⟨ys0, yc0, ys1, yc1, rfl, oy⟩, b5⟩
      obtain ⟨V5, hV5, e5, yb⟩ := boxK W5 (.slice (some ys0) c.length yc0) (.slice (some ys1) d.length yc1) 26
      have LY := oy.lows
      have z5 := b5.size
      have z5' := yb.lt
      have P3y := (o3.apart2 oy (Nat.le_refl _)).symm
      have Pxy := ox.apart2 oy (Nat.le_refl _)
      replace b5 := b5.trans (e5.mono b5.size)
      clear t c0 c1 hV4
      replace X := X.keep b5
      replace Y := Y.keep b5
      replace x3 := x3.keep b5
      replace xb := xb.keep b5
      replace o3 := o3.keep b5
      replace ox := ox.keep b5
      replace oy := oy.keep e5
      replace hB := hB.trans (b5.mono hB.size)
      clear b5 e5
      have t := HI.out V5 _ _ _ _ ox.o0.is ox.o1.is oy.o0.is oy.o1.is
      have c0 := xb.c0
      have c1 := xb.c1
      have d0 := yb.c0
      have d1 := yb.c1
      go_wp2_with (go_at_call 32; refine t.mono ?_)
      rintro e W6 ⟨⟨gs0, gc0, gs1, gc1, rfl, og⟩, b6⟩
      obtain ⟨V6, hV6, e6, gb⟩ := boxK W6 (.slice gs0 A.length gc0) (.slice gs1 B.length gc1) 26
      have LG := og.lows
      have z6 := b6.size
      have z6' := gb.lt
      have P3g := (o3.apart2 og (Nat.le_refl _)).symm
      have Pxg := ox.apart2 og (Nat.le_refl _)
      have Pyg := oy.apart2 og (Nat.le_refl _)
      replace b6 := b6.trans (e6.mono b6.size)
      clear t c0 c1 d0 d1 hV5
      replace X := X.keep b6
      replace Y := Y.keep b6
      replace x3 := x3.keep b6
      replace xb := xb.keep b6
      replace yb := yb.keep b6
      replace o3 := o3.keep b6
      replace ox := ox.keep b6
      replace oy := oy.keep b6
      replace og := og.keep e6
      replace hB := hB.trans (b6.mono hB.size)
      clear b6 e6
      have t := eqS og.o0.is og.o1.is o3.o0.is o3.o1.is lA lB
      have c0 := gb.c0
      have c1 := gb.c1
      have d0 := x3.c0
      have d1 := x3.c1
      go_wp2_with (go_at_call 14; refine t.mono ?_)
      first | (rintro e W7 rfl b7) | (rintro e W7 ⟨rfl, b7⟩)
      clear t c0 c1 d0 d1 hV6
      replace X := X.keep b7
      replace Y := Y.keep b7
      replace x3 := x3.keep b7
      replace xb := xb.keep b7
      replace yb := yb.keep b7
      replace gb := gb.keep b7
      replace o3 := o3.keep b7
      replace ox := ox.keep b7
      replace oy := oy.keep b7
      replace og := og.keep b7
      replace hB := hB.trans (b7.mono hB.size)
      have z7 := b7.size
      clear b7
      have T := toS (w := W7.drew) ((h0.keep hB).same rfl) ((h1.keep hB).same rfl) (by omega) (by omega)
      have EQ := Lib.hid (fun Wb s0 cc0 s1 cc1 (b7 : Below W7.drew.heap.size W7.drew Wb) (o7 : Own2 .i8 W7.drew.heap.size Wb a b (.slice (some s0) a.length cc0) (.slice (some s1) b.length cc1)) => eqS (w := Wb) ((ox.o0.is.same (w' := W7.drew) rfl).keep b7) ((ox.o1.is.same (w' := W7.drew) rfl).keep b7) o7.o0.is o7.o1.is (by omega) (by omega))
      have BX := Lib.hid (fun Wb (b7 : Below W7.drew.heap.size W7.drew Wb) => (X.same (w' := W7.drew) rfl).keep b7)
      have c0 := X.c0
      have c1 := X.c1
      have d0 := xb.c0
      have d1 := xb.c1
      have KQ := Lib.hid (show ∀ w', Below W7.drew.heap.size W7.drew w' → (w'.cell? ⟨W4.heap.size, 0, none⟩ = some (.slice (some xs0) a.length xc0) ∧ w'.cell? ⟨W4.heap.size, 1, none⟩ = some (.slice (some xs1) b.length xc1)) ∧ (w'.cell? ⟨w.heap.size, 0, none⟩ = some v0 ∧ w'.cell? ⟨w.heap.size, 1, none⟩ = some v1) ∧ Below W7.drew.heap.size W7.drew w' from fun w' h => ⟨⟨((xb.same (w' := W7.drew) rfl).keep h).c0, ((xb.same (w' := W7.drew) rfl).keep h).c1⟩, ⟨((X.same (w' := W7.drew) rfl).keep h).c0, ((X.same (w' := W7.drew) rfl).keep h).c1⟩, h⟩)
      clear c0 c1 d0 d1
      go_upto_region 14 with (fail)
      go_cut [58] (fun s wx => s = .bool false ∧ Below W7.drew.heap.size W7.drew wx)
      case first =>
        go_region_held3 (fun w' => (w'.cell? ⟨W4.heap.size, 0, none⟩ = some (.slice (some xs0) a.length xc0) ∧ w'.cell? ⟨W4.heap.size, 1, none⟩ = some (.slice (some xs1) b.length xc1)) ∧ (w'.cell? ⟨w.heap.size, 0, none⟩ = some v0 ∧ w'.cell? ⟨w.heap.size, 1, none⟩ = some v1) ∧ Below W7.drew.heap.size W7.drew w')
          (exact KQ.out _ (by first | with_reducible exact hb9 | with_reducible exact b8 | with_reducible exact Below.refl _ _ | fail))
          (first
          | (go_at_call 12; (refine T.mono ?_); rintro e W8 ⟨⟨zs0, zc0, zs1, zc1, rfl, o8⟩, b8⟩; have q8 := EQ.out _ _ _ _ _ b8 o8)
          | (go_at_call 14; (refine q8.mono ?_); rintro e W9 ⟨rfl, b9⟩; have hb9 := Below.trans b8 (b9.mono b8.size))
          | fail)
        all_goals (go_wp2_with fail; go_meet; exact ⟨rfl, hb9⟩)
      case rest =>
      obtain ⟨rfl, bq⟩ := hcut
      clear T EQ BX KQ
      replace X := (X.same (w' := W7.drew) rfl).keep bq
      replace Y := (Y.same (w' := W7.drew) rfl).keep bq
      replace x3 := (x3.same (w' := W7.drew) rfl).keep bq
      replace xb := (xb.same (w' := W7.drew) rfl).keep bq
      replace yb := (yb.same (w' := W7.drew) rfl).keep bq
      replace gb := (gb.same (w' := W7.drew) rfl).keep bq
      replace o3 := (o3.same (w' := W7.drew) rfl).keep bq
      replace ox := (ox.same (w' := W7.drew) rfl).keep bq
      replace oy := (oy.same (w' := W7.drew) rfl).keep bq
      replace og := (og.same (w' := W7.drew) rfl).keep bq
      replace hB := hB.drew.trans (bq.mono (show w.heap.size ≤ W7.heap.size from hB.size))
      have zq14 : W7.heap.size ≤ wc.heap.size := bq.size
      clear bq
      obtain ⟨W14, hW14⟩ : ∃ W, W = wc := ⟨_, rfl⟩
      subst hW14
      have T := toS (w := W14.drew) ((h2.keep hB).same rfl) ((h3.keep hB).same rfl) (by omega) (by omega)
      have EQ := Lib.hid (fun Wb s0 cc0 s1 cc1 (b7 : Below W14.drew.heap.size W14.drew Wb) (o7 : Own2 .i8 W14.drew.heap.size Wb c d (.slice (some s0) c.length cc0) (.slice (some s1) d.length cc1)) => eqS (w := Wb) ((oy.o0.is.same (w' := W14.drew) rfl).keep b7) ((oy.o1.is.same (w' := W14.drew) rfl).keep b7) o7.o0.is o7.o1.is (by omega) (by omega))
      have BX := Lib.hid (fun Wb (b7 : Below W14.drew.heap.size W14.drew Wb) => (Y.same (w' := W14.drew) rfl).keep b7)
      have c0 := Y.c0
      have c1 := Y.c1
      have d0 := yb.c0
      have d1 := yb.c1
      have KQ := Lib.hid (show ∀ w', Below W14.drew.heap.size W14.drew w' → (w'.cell? ⟨W5.heap.size, 0, none⟩ = some (.slice (some ys0) c.length yc0) ∧ w'.cell? ⟨W5.heap.size, 1, none⟩ = some (.slice (some ys1) d.length yc1)) ∧ (w'.cell? ⟨W.heap.size, 0, none⟩ = some u0 ∧ w'.cell? ⟨W.heap.size, 1, none⟩ = some u1) ∧ Below W14.drew.heap.size W14.drew w' from fun w' h => ⟨⟨((yb.same (w' := W14.drew) rfl).keep h).c0, ((yb.same (w' := W14.drew) rfl).keep h).c1⟩, ⟨((Y.same (w' := W14.drew) rfl).keep h).c0, ((Y.same (w' := W14.drew) rfl).keep h).c1⟩, h⟩)
      clear c0 c1 d0 d1
      go_upto_region 16 with (fail)
      go_cut [63] (fun s wx => s = .bool false ∧ Below W14.drew.heap.size W14.drew wx)
      case first =>
        go_region_held3 (fun w' => (w'.cell? ⟨W5.heap.size, 0, none⟩ = some (.slice (some ys0) c.length yc0) ∧ w'.cell? ⟨W5.heap.size, 1, none⟩ = some (.slice (some ys1) d.length yc1)) ∧ (w'.cell? ⟨W.heap.size, 0, none⟩ = some u0 ∧ w'.cell? ⟨W.heap.size, 1, none⟩ = some u1) ∧ Below W14.drew.heap.size W14.drew w')
          (exact KQ.out _ (by first | with_reducible exact hb9 | with_reducible exact b8 | with_reducible exact Below.refl _ _ | fail))
          (first
          | (go_at_call 12; (refine T.mono ?_); rintro e W8 ⟨⟨zs0, zc0, zs1, zc1, rfl, o8⟩, b8⟩; have q8 := EQ.out _ _ _ _ _ b8 o8)
          | (go_at_call 14; (refine q8.mono ?_); rintro e W9 ⟨rfl, b9⟩; have hb9 := Below.trans b8 (b9.mono b8.size))
          | fail)
        all_goals (go_wp2_with fail; go_meet; exact ⟨rfl, hb9⟩)
      case rest =>
      obtain ⟨rfl, bq⟩ := hcut
      clear T EQ BX KQ
      replace X := (X.same (w' := W14.drew) rfl).keep bq
      replace Y := (Y.same (w' := W14.drew) rfl).keep bq
      replace x3 := (x3.same (w' := W14.drew) rfl).keep bq
      replace xb := (xb.same (w' := W14.drew) rfl).keep bq
      replace yb := (yb.same (w' := W14.drew) rfl).keep bq
      replace gb := (gb.same (w' := W14.drew) rfl).keep bq
      replace o3 := (o3.same (w' := W14.drew) rfl).keep bq
      replace ox := (ox.same (w' := W14.drew) rfl).keep bq
      replace oy := (oy.same (w' := W14.drew) rfl).keep bq
      replace og := (og.same (w' := W14.drew) rfl).keep bq
      replace hB := hB.drew.trans (bq.mono (show w.heap.size ≤ W14.heap.size from hB.size))
      have zq16 : W14.heap.size ≤ wc.heap.size := bq.size
      clear bq
      obtain ⟨W16, hW16⟩ : ∃ W, W = wc := ⟨_, rfl⟩
      subst hW16
      have t := markS (k := 1) ox (by omega) (by omega) (by omega)
      have c0 := xb.c0
      have c1 := xb.c1
      go_wp2_with (go_at_call 15; refine t.mono ?_)
      first | (rintro e W19 rfl b19 ox k19) | (rintro e W19 ⟨rfl, b19, ox, k19⟩)
      clear t c0 c1
      replace X := X.under b19 (by omega)
      replace Y := Y.under b19 (by omega)
      replace x3 := x3.under b19 (by omega)
      replace xb := xb.marked k19 LX (by omega)
      replace yb := yb.marked k19 LX (by omega)
      replace gb := gb.marked k19 LX (by omega)
      replace o3 := k19.own o3 P3x
      replace oy := k19.own oy Pxy
      replace og := k19.own og Pxg
      have z19 := b19.size
      replace hB : Below w.heap.size w W19 := hB.trans (b19.mono (by omega))
      clear b19 k19
      have t := markS (k := 1 + a.length + b.length) oy (by omega) (by omega) (by omega)
      have c0 := yb.c0
      have c1 := yb.c1
      go_wp2_with (go_at_call 15; refine t.mono ?_)
      first | (rintro e W20 rfl b20 oy k20) | (rintro e W20 ⟨rfl, b20, oy, k20⟩)
      clear t c0 c1
      replace X := X.under b20 (by omega)
      replace Y := Y.under b20 (by omega)
      replace x3 := x3.under b20 (by omega)
      replace xb := xb.under b20 (by omega)
      replace yb := yb.marked k20 LY (by omega)
      replace gb := gb.marked k20 LY (by omega)
      replace o3 := k20.own o3 P3y
      replace og := k20.own og Pyg
      have z20 := b20.size
      replace hB : Below w.heap.size w W20 := hB.trans (b20.mono (by omega))
      clear b20 k20
      have pk : 0 ≤ 1 + (a.length : Int) + b.length + c.length + d.length := by omega
      have t := eqS og.o0.is og.o1.is o3.o0.is o3.o1.is lA lB
      have c0 := gb.c0
      have c1 := gb.c1
      have d0 := x3.c0
      have d1 := x3.c1
      go_wp2_with (go_at_call 14; refine t.mono ?_)
      first | (rintro e W21 rfl b21) | (rintro e W21 ⟨rfl, b21⟩)
      clear t c0 c1 d0 d1
      replace X := X.keep b21
      replace Y := Y.keep b21
      replace x3 := x3.keep b21
      replace gb := gb.keep b21
      replace o3 := o3.keep b21
      replace og := og.keep b21
      replace hB := hB.trans (b21.mono hB.size)
      have z21 := b21.size
      clear b21 xb yb ox oy
      have t := markS (k := 1) og (by omega) (by omega) (by omega)
      have c0 := gb.c0
      have c1 := gb.c1
      go_wp2_with (go_at_call 15; refine t.mono ?_)
      first | (rintro e W24 rfl b24 og k24) | (rintro e W24 ⟨rfl, b24, og, k24⟩)
      clear t c0 c1
      replace X := X.under b24 (by omega)
      replace Y := Y.under b24 (by omega)
      replace x3 := x3.under b24 (by omega)
      replace gb := gb.marked k24 LG (by omega)
      replace o3 := k24.own o3 P3g
      have z24 := b24.size
      replace hB : Below w.heap.size w W24 := hB.trans (b24.mono (by omega))
      clear b24 k24
      have pA : 0 ≤ (1 : Int) + A.length + B.length := by omega
      have t := heldS (k := 1) og (by omega) (by omega)
      have c0 := gb.c0
      have c1 := gb.c1
      go_wp2_with (go_at_call 16; refine t.mono ?_)
      first | (rintro e W26 rfl b26) | (rintro e W26 ⟨rfl, b26⟩)
      clear t c0 c1
      replace X := X.keep b26
      replace Y := Y.keep b26
      replace x3 := x3.keep b26
      replace gb := gb.keep b26
      replace o3 := o3.keep b26
      replace og := og.keep b26
      replace hB := hB.trans (b26.mono hB.size)
      have z26 := b26.size
      clear b26
      obtain ⟨Z, hZ⟩ : ∃ Z, Z = W26 := ⟨_, rfl⟩
      subst hZ
      have TA := Lib.hid (toZ h0 h1 hB (by omega) (by omega))
      have TB := Lib.hid (toZ h2 h3 hB (by omega) (by omega))
      have SP := Lib.hid (gavZ (Z := Z) HI.out)
      have KP := Lib.hid (show ∀ w', Below Z.heap.size Z w' → (w'.cell? ⟨w.heap.size, 0, none⟩ = some v0 ∧ w'.cell? ⟨w.heap.size, 1, none⟩ = some v1) ∧ (w'.cell? ⟨W.heap.size, 0, none⟩ = some u0 ∧ w'.cell? ⟨W.heap.size, 1, none⟩ = some u1) ∧ Below Z.heap.size Z w' from fun w' h => ⟨⟨(X.keep h).c0, (X.keep h).c1⟩, ⟨(Y.keep h).c0, (Y.keep h).c1⟩, h⟩)
      have R3 := Lib.hid x3
      have RG := Lib.hid gb
      have RO3 := Lib.hid o3
      have ROG := Lib.hid og
      have HB := Lib.hid hB
      have zZ := x3.lt
      clear X Y x3 gb o3 og hB h0 h1 h2 h3
      go_upto_region 31 with (fail)
      go_cut [15, 16] (fun s t wx => t = .int .i64 cd ∧ Boxd Z.heap.size Z wx A B s)
      case first =>
        go_region_held3 (fun w' => (w'.cell? ⟨w.heap.size, 0, none⟩ = some v0 ∧ w'.cell? ⟨w.heap.size, 1, none⟩ = some v1) ∧ (w'.cell? ⟨W.heap.size, 0, none⟩ = some u0 ∧ w'.cell? ⟨W.heap.size, 1, none⟩ = some u1) ∧ Below Z.heap.size Z w')
          (exact KP.out _ (by first | with_reducible exact hbC | with_reducible exact hbA | with_reducible exact hbB | with_reducible exact (Below.refl _ _).drew | with_reducible exact ((Below.refl _ _).alloc (Nat.le_refl _) _).drew | with_reducible exact hbA.alloc hbA.size _ | with_reducible exact hbB.alloc hbB.size _ | with_reducible exact hbC.alloc hbC.size _ | exact Below.setCell (Below.setCell hbC (by first | exact zi.out | exact hbC.size | fail) _) (by first | exact zi.out | exact hbC.size | fail) _ | fail))
          (first
            | (go_at_call 12; (with_reducible refine Calls.mono (TA.out _ ?_) ?_); (· first | with_reducible exact hbC | with_reducible exact hbA | with_reducible exact hbB | with_reducible exact (Below.refl _ _).drew | with_reducible exact ((Below.refl _ _).alloc (Nat.le_refl _) _).drew | with_reducible exact hbA.alloc hbA.size _ | with_reducible exact hbB.alloc hbB.size _ | with_reducible exact hbC.alloc hbC.size _ | exact Below.setCell (Below.setCell hbC (by first | exact zi.out | exact hbC.size | fail) _) (by first | exact zi.out | exact hbC.size | fail) _ | fail); rintro e WA ⟨⟨xs0, xc0, xs1, xc1, rfl, oA⟩, bA, hbA, zA0, zA⟩)
            | (go_at_call 12; (with_reducible refine Calls.mono (TB.out _ ?_) ?_); (· first | with_reducible exact hbC | with_reducible exact hbA | with_reducible exact hbB | with_reducible exact (Below.refl _ _).drew | with_reducible exact ((Below.refl _ _).alloc (Nat.le_refl _) _).drew | with_reducible exact hbA.alloc hbA.size _ | with_reducible exact hbB.alloc hbB.size _ | with_reducible exact hbC.alloc hbC.size _ | exact Below.setCell (Below.setCell hbC (by first | exact zi.out | exact hbC.size | fail) _) (by first | exact zi.out | exact hbC.size | fail) _ | fail); rintro e WB ⟨⟨ys0, yc0, ys1, yc1, rfl, oB⟩, bB, hbB, zB0, zB⟩)
            | (go_at_call 32; (with_reducible refine Calls.mono (SP.out _ _ _ _ _ ?_ ?_ ?_ ?_ ?_) ?_); (· first | with_reducible exact hbC | with_reducible exact hbA | with_reducible exact hbB | with_reducible exact (Below.refl _ _).drew | with_reducible exact ((Below.refl _ _).alloc (Nat.le_refl _) _).drew | with_reducible exact hbA.alloc hbA.size _ | with_reducible exact hbB.alloc hbB.size _ | with_reducible exact hbC.alloc hbC.size _ | exact Below.setCell (Below.setCell hbC (by first | exact zi.out | exact hbC.size | fail) _) (by first | exact zi.out | exact hbC.size | fail) _ | fail); (· first | with_reducible exact oA.o0.is | with_reducible exact oA.o0.is.keep bB | with_reducible exact oA.o0.is.keep ((Below.refl _ _).alloc (Nat.le_refl _) _) | with_reducible exact (oA.o0.is.keep ((Below.refl _ _).alloc (Nat.le_refl _) _)).keep bB | with_reducible exact (oA.o0.is.keep bB).keep ((Below.refl _ _).alloc (Nat.le_refl _) _) | fail); (· first | with_reducible exact oA.o1.is | with_reducible exact oA.o1.is.keep bB | with_reducible exact oA.o1.is.keep ((Below.refl _ _).alloc (Nat.le_refl _) _) | with_reducible exact (oA.o1.is.keep ((Below.refl _ _).alloc (Nat.le_refl _) _)).keep bB | with_reducible exact (oA.o1.is.keep bB).keep ((Below.refl _ _).alloc (Nat.le_refl _) _) | fail); (· first | with_reducible exact oB.o0.is | with_reducible exact oB.o0.is.keep bA | with_reducible exact oB.o0.is.keep ((Below.refl _ _).alloc (Nat.le_refl _) _) | with_reducible exact (oB.o0.is.keep ((Below.refl _ _).alloc (Nat.le_refl _) _)).keep bA | with_reducible exact (oB.o0.is.keep bA).keep ((Below.refl _ _).alloc (Nat.le_refl _) _) | fail); (· first | with_reducible exact oB.o1.is | with_reducible exact oB.o1.is.keep bA | with_reducible exact oB.o1.is.keep ((Below.refl _ _).alloc (Nat.le_refl _) _) | with_reducible exact (oB.o1.is.keep ((Below.refl _ _).alloc (Nat.le_refl _) _)).keep bA | with_reducible exact (oB.o1.is.keep bA).keep ((Below.refl _ _).alloc (Nat.le_refl _) _) | fail); rintro e WC ⟨⟨us0, uc0, us1, uc1, rfl, oC⟩, bC, hbC, zC0, zC⟩; (try simp at zA); (try simp at zB); first | (have ys' : WC.heap[Z.heap.size]? = some (.cells #[.slice none 0 0, .slice none 0 0] (26 : Nat) (0, 0)) := (by first | with_reducible exact at_below bC (by first | (simp; done) | (simp; omega) | omega | fail) (at_below bB (by first | (simp; done) | (simp; omega) | omega | fail) (at_below bA (by first | (simp; done) | (simp; omega) | omega | fail) (at_drew (at_new rfl)))) | fail); have ys : Bk WC Z.heap.size (.slice none 0 0) (.slice none 0 0) 26 := ys'; clear ys'; have k0 := ys.c0; have k1 := ys.c1; have t0 := ys.f 0; have t1 := ys.f 1; have zi := Lib.hid (show Z.heap.size ≤ Z.heap.size from by first | exact Nat.le_refl _ | exact hbA.size | exact hbB.size | fail)) | (have ys' : WC.heap[Z.heap.size]? = some (.cells #[.slice none 0 0, .slice none 0 0] (26 : Nat) (0, 0)) := (by first | with_reducible exact at_below bC (by first | (simp; done) | (simp; omega) | omega | fail) (at_below bA (by first | (simp; done) | (simp; omega) | omega | fail) (at_below bB (by first | (simp; done) | (simp; omega) | omega | fail) (at_drew (at_new rfl)))) | fail); have ys : Bk WC Z.heap.size (.slice none 0 0) (.slice none 0 0) 26 := ys'; clear ys'; have k0 := ys.c0; have k1 := ys.c1; have t0 := ys.f 0; have t1 := ys.f 1; have zi := Lib.hid (show Z.heap.size ≤ Z.heap.size from by first | exact Nat.le_refl _ | exact hbA.size | exact hbB.size | fail)) | (have ys' : WC.heap[WA.heap.size]? = some (.cells #[.slice none 0 0, .slice none 0 0] (26 : Nat) (0, 0)) := (by first | with_reducible exact at_below bC (by first | (simp; done) | (simp; omega) | omega | fail) (at_below bB (by first | (simp; done) | (simp; omega) | omega | fail) (at_new rfl)) | fail); have ys : Bk WC WA.heap.size (.slice none 0 0) (.slice none 0 0) 26 := ys'; clear ys'; have k0 := ys.c0; have k1 := ys.c1; have t0 := ys.f 0; have t1 := ys.f 1; have zi := Lib.hid (show Z.heap.size ≤ WA.heap.size from by first | exact Nat.le_refl _ | exact hbA.size | exact hbB.size | fail)) | (have ys' : WC.heap[WB.heap.size]? = some (.cells #[.slice none 0 0, .slice none 0 0] (26 : Nat) (0, 0)) := (by first | with_reducible exact at_below bC (by first | (simp; done) | (simp; omega) | omega | fail) (at_below bA (by first | (simp; done) | (simp; omega) | omega | fail) (at_new rfl)) | fail); have ys : Bk WC WB.heap.size (.slice none 0 0) (.slice none 0 0) 26 := ys'; clear ys'; have k0 := ys.c0; have k1 := ys.c1; have t0 := ys.f 0; have t1 := ys.f 1; have zi := Lib.hid (show Z.heap.size ≤ WB.heap.size from by first | exact Nat.le_refl _ | exact hbA.size | exact hbB.size | fail)) | (have ys' : WC.heap[WB.heap.size]? = some (.cells #[.slice none 0 0, .slice none 0 0] (26 : Nat) (0, 0)) := (by first | with_reducible exact at_below bC (by first | (simp; done) | (simp; omega) | omega | fail) (at_new rfl) | fail); have ys : Bk WC WB.heap.size (.slice none 0 0) (.slice none 0 0) 26 := ys'; clear ys'; have k0 := ys.c0; have k1 := ys.c1; have t0 := ys.f 0; have t1 := ys.f 1; have zi := Lib.hid (show Z.heap.size ≤ WB.heap.size from by first | exact Nat.le_refl _ | exact hbA.size | exact hbB.size | fail)) | (have ys' : WC.heap[WA.heap.size]? = some (.cells #[.slice none 0 0, .slice none 0 0] (26 : Nat) (0, 0)) := (by first | with_reducible exact at_below bC (by first | (simp; done) | (simp; omega) | omega | fail) (at_new rfl) | fail); have ys : Bk WC WA.heap.size (.slice none 0 0) (.slice none 0 0) 26 := ys'; clear ys'; have k0 := ys.c0; have k1 := ys.c1; have t0 := ys.f 0; have t1 := ys.f 1; have zi := Lib.hid (show Z.heap.size ≤ WA.heap.size from by first | exact Nat.le_refl _ | exact hbA.size | exact hbB.size | fail)) | skip)
            | (fail))
        all_goals
          first
            | (obtain ⟨W5, hW5, y5, _⟩ := storedK6 ys (.slice us0 A.length uc0) (.slice us1 B.length uc1)
               obtain ⟨W5', hW5', _, _, r5, B5⟩ := stored ys (.slice us0 A.length uc0) (.slice us1 B.length uc1)
               obtain rfl : W5 = W5' := hW5.symm.trans hW5'
               rw [hW5]
               go_wp2_with fail
               go_meet
               exact ⟨rfl, ⟨_, _, _, _, _, rfl, y5, ⟨(oC.o0.rest (by first | (simp; done) | (simp; omega) | omega | fail) r5).mono zC0, (oC.o1.rest (by first | (simp; done) | (simp; omega) | omega | fail) r5).mono zC0, oC.apart⟩, zi.out⟩, hbC.trans (B5 _ zi.out)⟩)
            | (obtain ⟨W5, hW5, bS, y5⟩ := boxK WC (.slice us0 A.length uc0) (.slice us1 B.length uc1) 26
               rw [hW5]
               have o5 := oC.keep bS
               go_wp2_with fail
               go_meet
               exact ⟨rfl, ⟨_, _, _, _, _, rfl, y5, ⟨o5.o0.mono zC0, o5.o1.mono zC0, o5.apart⟩, hbC.size⟩, hbC.trans (bS.mono hbC.size)⟩)
      case rest =>
      obtain ⟨rfl, ⟨n4, hs0, hc0, hs1, hc1, rfl, hb', oh, hn4⟩, b3⟩ := hcut
      have t := eqS oh.o0.is oh.o1.is (RO3.out.keep b3).o0.is (RO3.out.keep b3).o1.is lA lB
      have hB := HB.out.trans (b3.mono HB.out.size)
      have c0 := hb'.c0
      have c1 := hb'.c1
      have d0 := (R3.out.keep b3).c0
      have d1 := (R3.out.keep b3).c1
      have gb := RG.out.keep b3
      have og := ROG.out.keep b3
      clear b3 TA TB SP KP R3 RG RO3 ROG HB
      go_wp2_with (go_at_call 14; refine t.mono ?_)
      first | (rintro e W32 rfl b32) | (rintro e W32 ⟨rfl, b32⟩)
      clear t c0 c1 d0 d1
      replace gb := gb.keep b32
      replace og := og.keep b32
      replace hB := hB.trans (b32.mono hB.size)
      have t := heldS (k := 1) og (by omega) (by omega)
      have c0 := gb.c0
      have c1 := gb.c1
      clear b32
      go_wp2_with (go_at_call 16; refine t.mono ?_)
      first | (rintro e W35 rfl b35) | (rintro e W35 ⟨rfl, b35⟩)
      go_wp2
      go_ret
      exact ⟨rfl, hB.trans (b35.mono hB.size)⟩
end Go.Proofs.Ytlkbnpgembgdfaa.Sx
