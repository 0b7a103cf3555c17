/-
  The law of the first digit at which two trees differ: its walk.
-/
import Derived.Test.YtingfbohkchgbaaDoorXB
import Derived.Test.YtingfbohkchgbaaDoorLR
namespace Go.Proofs.YtingfbohkchgbaaDoor.Sx
open Go Go.RowKit
set_option linter.unusedVariables false
set_option linter.unusedSimpArgs false

def szK (k : Int) (l : Nat) : Int := if k < l then -1 else k - l
set_option maxRecDepth 1000000 in
set_option maxHeartbeats 8000000 in
theorem szTrK {w : World} {T : List Fk} {v : Value} {k : Int} (h : IsF w T v) (hlen : T.length ≤ 9223372036854775807) (hk : 0 ≤ k ∧ k ≤ 1048576) :
    Calls Tryd.prog 7 #[.agg #[v], .int .i64 k] w fun e w' => e = .returned (.int .i64 (szK k T.length)) ∧ Below w.heap.size w w' := by
  obtain ⟨s, c, rfl⟩ := h.form
  obtain ⟨W, hW, hB, x⟩ := boxN w #[.slice s T.length c] 24
  obtain ⟨n, hn⟩ : ∃ n, T.length = n := ⟨_, rfl⟩
  rw [hn] at x hlen hW ⊢
  have hlB : ∀ (s : Option Addr) (n k : Nat) (W : World), (Builtin.len_ #[22] 3 #[.slice s n k]).run Tryd.prog W = .ok (.int .i64 n) W := fun s n k W => rfl
  have c0 : W.cell? ⟨w.heap.size, 0, none⟩ = some (.slice s n c) := by rw [Lib.cell_of_heap x]; rfl
  have e0 : IntKind.i64.wrap (k - (n : Int)) = k - n := by rw [IntKind.wrap_i64]; omega
  clear h x hn
  unfold szK
  by_cases hb : k < n
  · rw [if_pos hb]
    have hb2 : k - (n : Int) < 0 := by omega
    have d0 := decide_eq_true hb2
    have m : ∀ W', Calls Tryd.prog 30 #[.slice s n c, .int .i64 k] W' fun e w' => e = .returned (.int .i64 (-1)) ∧ Same W' w' := fun W' => by
      go_enter Tryd.func30, Tryd.ntmps30
      go_wp2
      go_ret
      exact ⟨rfl, rfl⟩
    go_enter Tryd.func7, Tryd.ntmps7
    go_wp2_with (go_at_call 30; refine (m _).mono ?_)
    first | (rintro e W5 rfl hs) | (rintro e W5 ⟨rfl, hs⟩)
    rw [hs.out]
    clear hs
    try dsimp only
    go_wp2
    go_ret
    exact ⟨rfl, hB⟩
  · rw [if_neg hb]
    have hb2 : ¬ k - (n : Int) < 0 := by omega
    have d0 := decide_eq_false hb2
    have m : ∀ W', Calls Tryd.prog 30 #[.slice s n c, .int .i64 k] W' fun e w' => e = .returned (.int .i64 (k - n)) ∧ Same W' w' := fun W' => by
      go_enter Tryd.func30, Tryd.ntmps30
      go_wp2
      go_ret
      exact ⟨rfl, rfl⟩
    go_enter Tryd.func7, Tryd.ntmps7
    go_wp2_with (go_at_call 30; refine (m _).mono ?_)
    first | (rintro e W5 rfl hs) | (rintro e W5 ⟨rfl, hs⟩)
    rw [hs.out]
    clear hs
    try dsimp only
    go_wp2
    go_ret
    exact ⟨rfl, hB⟩
/-- A number and a code, told from an older world. -/
structure TwoZ (Z WC : World) (x c : Int) (e : Ending) : Prop where
  mk ::
  here : e = .returned (.tuple #[.int .i64 x, .int .i64 c])
  all : Below Z.heap.size Z WC
/-- A function of two trees, a stream and a number gives a number and a code. -/
def DoesX (G : World → Prop) (g : Nat) (T U : List Fk) (a b : List Int) (n x c : Int) : Prop := ∀ (w : World) (t u v0 v1 : Value), G w → IsF w T t → IsF w U u → IsL .i8 w a v0 → IsL .i8 w b v1 → (∀ q, v0.ownBlock = some q → q < w.heap.size) → (∀ q, v1.ownBlock = some q → q < w.heap.size) → Calls Tryd.prog g #[.agg #[t], .agg #[u], .agg #[v0, v1], .int .i64 n] w (TwoN w x c)
set_option maxRecDepth 1000000 in
set_option maxHeartbeats 32000000 in
theorem law_Apart {w : World} {T U : List Fk} {tv uv v0 v1 : Value} {a b : List Int} {n x c : Int} (hg : ErrG w) (hF : IsF w T tv) (hU : IsF w U uv) (h0 : IsL .i8 w a v0) (h1 : IsL .i8 w b v1) (lT : T.length ≤ 9223372036854775807) (lU : U.length ≤ 9223372036854775807) (la : a.length ≤ 9223372036854775807) (lb : b.length ≤ 9223372036854775807)
    (hS : T.length ≤ 1048576 → U.length ≤ 1048576 → DoesX (fun _ => True) 20 T U a b n x c) (hI : T.length ≤ 1048576 → U.length ≤ 1048576 → DoesX ErrG 21 T U a b n x c) :
    Calls Tryd.prog 4 #[.agg #[tv], .agg #[uv], .agg #[v0, v1], .int .i64 n] w fun e w' => e = .returned (.bool true) ∧ Below w.heap.size w w' := by
  obtain ⟨st, kt, rfl⟩ := hF.form
  obtain ⟨su, ku, rfl⟩ := hU.form
  obtain ⟨W, hW, hB0, XT⟩ := boxN w #[.slice st T.length kt] 24
  obtain ⟨V, hV, hB1, XU⟩ := boxN W #[.slice su U.length ku] 24
  obtain ⟨V2, hV2, hB2, X⟩ := boxK V v0 v1 27
  have XT := at_keep (at_keep XT hB1) hB2
  have XU := at_keep XU hB2
  have hB := (hB0.trans (hB1.mono hB0.size)).trans (hB2.mono (Nat.le_trans hB0.size hB1.size))
  have m0 := szTrK (k := 1048576) (hF.keep hB) lT (by decide)
  have q0 : V2.cell? ⟨w.heap.size, 0, none⟩ = some (.slice st T.length kt) := by rw [Lib.cell_of_heap XT]; rfl
  unfold szK at m0
  by_cases hT : (1048576 : Int) < T.length
  · rw [if_pos hT] at m0
    have HB := Lib.hid hB
    clear hF hU h0 h1 XT XU X hS hI hg hB
    go_enter Tryd.func4, Tryd.ntmps4
    go_wp2_with (go_at_call 7; refine m0.mono ?_)
    first | (rintro e W1 rfl b1) | (rintro e W1 ⟨rfl, b1⟩)
    try dsimp only
    have FB := Lib.hid (HB.out.trans (b1.mono HB.out.size))
    go_wp2
    go_ret
    exact ⟨rfl, FB.out⟩
  · rw [if_neg hT] at m0
    have hT' : T.length ≤ 1048576 := by omega
    obtain ⟨K, hK⟩ : ∃ K : Int, 1048576 - (T.length : Int) = K := ⟨_, rfl⟩
    rw [hK] at m0
    have kK : 0 ≤ K ∧ K ≤ 1048576 := by omega
    have kK0 : ¬ K < 0 := by omega
    have MU := Lib.hid fun (Z : World) (hb : Below w.heap.size w Z) => szTrK (k := K) (hU.keep hb) lU kK
    have HXT := Lib.hid XT
    have HXU := Lib.hid XU
    have HX := Lib.hid X
    have HB := Lib.hid hB
    clear hB0 hB1 hB2 XT XU X hB hK hT
    unfold szK at MU
    by_cases hUl : K < U.length
    · clear hF hU h0 h1 hg hS hI
      rw [if_pos hUl] at MU
      go_enter Tryd.func4, Tryd.ntmps4
      go_wp2_with (go_at_call 7; refine m0.mono ?_)
      first | (rintro e W1 rfl b1) | (rintro e W1 ⟨rfl, b1⟩)
      try dsimp only
      have hb := HB.out.trans (b1.mono HB.out.size)
      have m1 := MU.out W1 hb
      have c0 : W1.cell? ⟨W.heap.size, 0, none⟩ = some (.slice su U.length ku) := by rw [Lib.cell_of_heap (at_keep HXU.out b1)]; rfl
      have HB1 := Lib.hid hb
      clear b1 hb m0 q0
      go_wp2_with (go_at_call 7; refine m1.mono ?_)
      first | (rintro e W2 rfl b2) | (rintro e W2 ⟨rfl, b2⟩)
      try dsimp only
      have FB := Lib.hid (HB1.out.trans (b2.mono HB1.out.size))
      clear b2 m1
      go_wp2
      go_ret
      exact ⟨rfl, FB.out⟩
    rw [if_neg hUl] at MU
    have hU' : U.length ≤ 1048576 := by omega
    have HS := Lib.hid (hS hT' hU')
    have HI := Lib.hid (hI hT' hU')
    obtain ⟨K2, hK2⟩ : ∃ K2 : Int, K - (U.length : Int) = K2 := ⟨_, rfl⟩
    rw [hK2] at MU
    have kK2 : 0 ≤ K2 ∧ K2 ≤ 1048576 := by omega
    have kK20 : ¬ K2 < 0 := by omega
    have M1 := Lib.hid fun (Z : World) (hb : Below w.heap.size w Z) => szS2 (k := K2) (h0.keep hb) (h1.keep hb) la lb kK2.1 kK2.2
    clear hS hI hK2 hUl
    by_cases hsz : szR2 K2 a b < 0
    · clear hF hU h0 h1 hg
      go_enter Tryd.func4, Tryd.ntmps4
      go_wp2_with (go_at_call 7; refine m0.mono ?_)
      first | (rintro e W1 rfl b1) | (rintro e W1 ⟨rfl, b1⟩)
      try dsimp only
      have hb := HB.out.trans (b1.mono HB.out.size)
      have m1 := MU.out W1 hb
      have c0 : W1.cell? ⟨W.heap.size, 0, none⟩ = some (.slice su U.length ku) := by rw [Lib.cell_of_heap (at_keep HXU.out b1)]; rfl
      have HB1 := Lib.hid hb
      have HX1 := Lib.hid (HX.out.keep b1)
      clear b1 hb m0 q0
      go_wp2_with (go_at_call 7; refine m1.mono ?_)
      first | (rintro e W2 rfl b2) | (rintro e W2 ⟨rfl, b2⟩)
      try dsimp only
      have hb := HB1.out.trans (b2.mono HB1.out.size)
      have m2 := M1.out W2 hb
      have d0 := (HX1.out.keep b2).c0
      have d1 := (HX1.out.keep b2).c1
      have HB2 := Lib.hid hb
      clear b2 hb m1 c0
      go_wp2_with (go_at_call 8; refine m2.mono ?_)
      first | (rintro e W3 rfl b3) | (rintro e W3 ⟨rfl, b3⟩)
      try dsimp only
      have FB := Lib.hid (HB2.out.trans (b3.mono HB2.out.size))
      clear b3 m2
      go_wp2
      go_ret
      exact ⟨rfl, FB.out⟩
    have hl : a.length ≤ 1048576 ∧ b.length ≤ 1048576 := by
      unfold szR2 at hsz
      split at hsz
      · omega
      · split at hsz <;> omega
    have hsz' : 0 ≤ szR2 K2 a b := by omega
    clear la lb lT lU hsz
    go_enter Tryd.func4, Tryd.ntmps4
    go_wp2_with (go_at_call 7; refine m0.mono ?_)
    first | (rintro e W1 rfl b1) | (rintro e W1 ⟨rfl, b1⟩)
    try dsimp only
    have hb := HB.out.trans (b1.mono HB.out.size)
    have m1 := MU.out W1 hb
    have XU1 := at_keep HXU.out b1
    have c0 : W1.cell? ⟨W.heap.size, 0, none⟩ = some (.slice su U.length ku) := by rw [Lib.cell_of_heap XU1]; rfl
    have HB1 := Lib.hid hb
    have HX1 := Lib.hid (HX.out.keep b1)
    have HXT1 := Lib.hid (at_keep HXT.out b1)
    have HXU1 := Lib.hid XU1
    clear b1 hb m0 q0 XU1 HX HXT HXU HB MU
    go_wp2_with (go_at_call 7; refine m1.mono ?_)
    first | (rintro e W2 rfl b2) | (rintro e W2 ⟨rfl, b2⟩)
    try dsimp only
    have hb := HB1.out.trans (b2.mono HB1.out.size)
    have m2 := M1.out W2 hb
    have X2 := HX1.out.keep b2
    have d0 := X2.c0
    have d1 := X2.c1
    have HB2 := Lib.hid hb
    have HX2 := Lib.hid X2
    have HXT2 := Lib.hid (at_keep HXT1.out b2)
    have HXU2 := Lib.hid (at_keep HXU1.out b2)
    clear b2 hb m1 c0 X2 HX1 HXT1 HXU1 HB1 M1
    go_wp2_with (go_at_call 8; refine m2.mono ?_)
    first | (rintro e Z rfl b1) | (rintro e Z ⟨rfl, b1⟩)
    try dsimp only
    have XT := at_keep HXT2.out b1
    have XU := at_keep HXU2.out b1
    have X := HX2.out.keep b1
    have hB := HB2.out.trans (b1.mono HB2.out.size)
    clear m2 d0 d1 b1 HXT2 HXU2 HX2 HB2
    have TA := Lib.hid (toTZ hF hB hT')
    have TU := Lib.hid (toTZ hU hB hU')
    have TB := Lib.hid (toZ h0 h1 hB (by omega) (by omega))
    have SP := Lib.hid (show ∀ W' t u u0 u1, Below Z.heap.size Z W' → IsF W' T t → IsF W' U u → IsL .i8 W' a u0 → IsL .i8 W' b u1 → (∀ q, u0.ownBlock = some q → q < W'.heap.size) → (∀ q, u1.ownBlock = some q → q < W'.heap.size) → Calls Tryd.prog 20 #[.agg #[t], .agg #[u], .agg #[u0, u1], .int .i64 n] W' fun e WC => TwoZ Z WC x c e from fun W' t u u0 u1 hb it iu i0 i1 k0 k1 => (HS.out W' t u u0 u1 trivial it iu i0 i1 k0 k1).mono fun e WC h => ⟨h.1, hb.trans (h.2.mono hb.size)⟩)
    have KP := Lib.hid (show ∀ w', Below Z.heap.size Z w' → (w'.cell? ⟨w.heap.size, 0, none⟩ = some (.slice st T.length kt)) ∧ (w'.cell? ⟨W.heap.size, 0, none⟩ = some (.slice su U.length ku)) ∧ (w'.cell? ⟨V.heap.size, 0, none⟩ = some v0 ∧ w'.cell? ⟨V.heap.size, 1, none⟩ = some v1) ∧ Below Z.heap.size Z w' from fun w' h => ⟨by rw [Lib.cell_of_heap (at_keep XT h)]; rfl, by rw [Lib.cell_of_heap (at_keep XU h)]; rfl, ⟨(X.keep h).c0, (X.keep h).c1⟩, h⟩)
    have HXT := Lib.hid XT
    have HXU := Lib.hid XU
    have HX := Lib.hid X
    have HBZ := Lib.hid hB
    clear XT XU X hB
    go_upto_region 11 with (fail)
    go_cut [10, 11] (fun s t wx => s = .int .i64 x ∧ t = .int .i64 c ∧ Below Z.heap.size Z wx)
    case first =>
      go_region_held3 (fun w' => (w'.cell? ⟨w.heap.size, 0, none⟩ = some (.slice st T.length kt)) ∧ (w'.cell? ⟨W.heap.size, 0, none⟩ = some (.slice su U.length ku)) ∧ (w'.cell? ⟨V.heap.size, 0, none⟩ = some v0 ∧ w'.cell? ⟨V.heap.size, 1, none⟩ = some v1) ∧ Below Z.heap.size Z w')
        (exact KP.out _ (by first | with_reducible exact hbC | with_reducible exact hbA | with_reducible exact hbU | with_reducible exact hbB | with_reducible exact (Below.refl _ _).drew | with_reducible exact Below.refl _ _ | fail))
        (first
          | (go_at_call 10; (with_reducible refine Calls.mono (TA.out _ ?_) ?_); (· first | with_reducible exact hbC | with_reducible exact hbA | with_reducible exact hbU | with_reducible exact hbB | with_reducible exact (Below.refl _ _).drew | with_reducible exact Below.refl _ _ | fail); rintro e WA ⟨⟨pA, kA, rfl, rA⟩, bA, hbA⟩)
          | (go_at_call 10; (with_reducible refine Calls.mono (TU.out _ ?_) ?_); (· first | with_reducible exact hbC | with_reducible exact hbA | with_reducible exact hbU | with_reducible exact hbB | with_reducible exact (Below.refl _ _).drew | with_reducible exact Below.refl _ _ | fail); rintro e WU ⟨⟨pU, kU, rfl, rU⟩, bU, hbU⟩)
          | (go_at_call 11; (with_reducible refine Calls.mono (TB.out _ ?_) ?_); (· first | with_reducible exact hbC | with_reducible exact hbA | with_reducible exact hbU | with_reducible exact hbB | with_reducible exact (Below.refl _ _).drew | with_reducible exact Below.refl _ _ | fail); rintro e WB ⟨⟨ys0, yc0, ys1, yc1, rfl, oB⟩, bB, hbB⟩)
          | (go_at_call 20; (with_reducible refine Calls.mono (SP.out _ _ _ _ _ ?_ ?_ ?_ ?_ ?_ ?_ ?_) ?_); (· first | with_reducible exact hbC | with_reducible exact hbA | with_reducible exact hbU | with_reducible exact hbB | with_reducible exact (Below.refl _ _).drew | with_reducible exact Below.refl _ _ | fail); (· first | with_reducible exact (IsF.of_row rA rfl) | with_reducible exact (IsF.of_row rA rfl).keep bU | with_reducible exact (IsF.of_row rA rfl).keep bB | with_reducible exact ((IsF.of_row rA rfl).keep bU).keep bB | with_reducible exact ((IsF.of_row rA rfl).keep bB).keep bU | fail); (· first | with_reducible exact (IsF.of_row rU rfl) | with_reducible exact (IsF.of_row rU rfl).keep bA | with_reducible exact (IsF.of_row rU rfl).keep bB | with_reducible exact ((IsF.of_row rU rfl).keep bA).keep bB | with_reducible exact ((IsF.of_row rU rfl).keep bB).keep bA | fail); (· first | with_reducible exact (oB.o0.is) | with_reducible exact (oB.o0.is).keep bA | with_reducible exact (oB.o0.is).keep bU | with_reducible exact ((oB.o0.is).keep bA).keep bU | with_reducible exact ((oB.o0.is).keep bU).keep bA | fail); (· first | with_reducible exact (oB.o1.is) | with_reducible exact (oB.o1.is).keep bA | with_reducible exact (oB.o1.is).keep bU | with_reducible exact ((oB.o1.is).keep bA).keep bU | with_reducible exact ((oB.o1.is).keep bU).keep bA | fail); (· first | exact fun q hq => (oB.o0.lt q hq).2 | exact fun q hq => Nat.lt_of_lt_of_le (oB.o0.lt q hq).2 bA.size | exact fun q hq => Nat.lt_of_lt_of_le (oB.o0.lt q hq).2 bU.size | exact fun q hq => Nat.lt_of_lt_of_le (oB.o0.lt q hq).2 (Nat.le_trans bA.size bU.size) | exact fun q hq => Nat.lt_of_lt_of_le (oB.o0.lt q hq).2 (Nat.le_trans bU.size bA.size) | fail); (· first | exact fun q hq => (oB.o1.lt q hq).2 | exact fun q hq => Nat.lt_of_lt_of_le (oB.o1.lt q hq).2 bA.size | exact fun q hq => Nat.lt_of_lt_of_le (oB.o1.lt q hq).2 bU.size | exact fun q hq => Nat.lt_of_lt_of_le (oB.o1.lt q hq).2 (Nat.le_trans bA.size bU.size) | exact fun q hq => Nat.lt_of_lt_of_le (oB.o1.lt q hq).2 (Nat.le_trans bU.size bA.size) | fail); rintro e WC ⟨rfl, hbC⟩)
          | fail)
      all_goals (go_wp2_with fail; go_meet; exact ⟨rfl, rfl, hbC⟩)
    case rest =>
    obtain ⟨rfl, rfl, b3⟩ := hcut
    have XT := at_keep HXT.out b3
    have XU := at_keep HXU.out b3
    have X := HX.out.keep b3
    have hB := HBZ.out.trans (b3.mono HBZ.out.size)
    clear TA TU TB SP KP HXT HXU HX HBZ
    clear b3
    obtain ⟨W4, hW4⟩ : ∃ W4, W4 = wc := ⟨_, rfl⟩
    subst hW4
    have t := toTr (hF.keep hB) hT'
    have q0 : W4.cell? ⟨w.heap.size, 0, none⟩ = some (.slice st T.length kt) := by rw [Lib.cell_of_heap XT]; rfl
    go_wp2_with (go_at_call 10; refine t.mono ?_)
    rintro e W5 ⟨⟨px, kx, rfl, rx⟩, b5⟩
    try dsimp only
    obtain ⟨V5, hV5, e5, xt⟩ := boxN W5 #[.slice (some px) T.length kx] 34
    replace b5 := b5.trans (e5.mono b5.size)
    clear t q0
    replace X := X.keep b5
    replace XT := at_keep XT b5
    replace XU := at_keep XU b5
    replace rx := row_underN (k := 0) rx e5
    replace hB := hB.trans (b5.mono hB.size)
    clear b5 e5
    have t := toTr (hU.keep hB) hU'
    have q0 : V5.cell? ⟨W.heap.size, 0, none⟩ = some (.slice su U.length ku) := by rw [Lib.cell_of_heap XU]; rfl
    go_wp2_with (go_at_call 10; refine t.mono ?_)
    rintro e W6 ⟨⟨py, ky, rfl, ry⟩, b6⟩
    try dsimp only
    obtain ⟨V6, hV6, e6, xu⟩ := boxN W6 #[.slice (some py) U.length ky] 34
    replace b6 := b6.trans (e6.mono b6.size)
    clear t q0
    replace X := X.keep b6
    replace XT := at_keep XT b6
    replace XU := at_keep XU b6
    replace xt := at_keep xt b6
    replace rx := row_underN (k := 0) rx b6
    replace ry := row_underN (k := 0) ry e6
    replace hB := hB.trans (b6.mono hB.size)
    clear b6 e6
    have t := toS (h0.keep hB) (h1.keep hB) (by omega) (by omega)
    have c0 := X.c0
    have c1 := X.c1
    go_wp2_with (go_at_call 11; refine t.mono ?_)
    rintro e W7 ⟨⟨xs0, xc0, xs1, xc1, rfl, ox⟩, b7⟩
    obtain ⟨V7, hV7, e7, xb⟩ := boxK W7 (.slice (some xs0) a.length xc0) (.slice (some xs1) b.length xc1) 36
    replace b7 := b7.trans (e7.mono b7.size)
    clear t c0 c1
    replace X := X.keep b7
    replace XT := at_keep XT b7
    replace XU := at_keep XU b7
    replace xt := at_keep xt b7
    replace xu := at_keep xu b7
    replace rx := row_underN (k := 0) rx b7
    replace ry := row_underN (k := 0) ry b7
    replace ox := ox.keep e7
    replace hB := hB.trans (b7.mono hB.size)
    have lx0 : ∀ q, (Value.slice (some xs0) a.length xc0).ownBlock = some q → q < V7.heap.size := fun q h => (ox.o0.lt q h).2
    have lx1 : ∀ q, (Value.slice (some xs1) b.length xc1).ownBlock = some q → q < V7.heap.size := fun q h => (ox.o1.lt q h).2
    clear b7 e7
    have r := HI.out V7 _ _ _ _ (hg.keep hB) (IsF.of_row rx rfl) (IsF.of_row ry rfl) ox.o0.is ox.o1.is lx0 lx1
    have q0 : V7.cell? ⟨W5.heap.size, 0, none⟩ = some (.slice (some px) T.length kx) := by rw [Lib.cell_of_heap xt]; rfl
    have q1 : V7.cell? ⟨W6.heap.size, 0, none⟩ = some (.slice (some py) U.length ky) := by rw [Lib.cell_of_heap xu]; rfl
    have c0 := xb.c0
    have c1 := xb.c1
    go_wp2_with (go_at_call 21; refine r.mono ?_)
    rintro e W8 ⟨rfl, b8⟩
    try dsimp only
    replace X := X.keep b8
    replace XT := at_keep XT b8
    replace XU := at_keep XU b8
    replace xt := at_keep xt b8
    replace xu := at_keep xu b8
    replace rx := row_underN (k := 0) rx b8
    replace ry := row_underN (k := 0) ry b8
    replace ox := ox.keep b8
    replace xb := xb.keep b8
    replace hB := hB.trans (b8.mono hB.size)
    clear r q0 q1 c0 c1 b8 hV5 hV6 hV7 lx0 lx1
    have TT := Lib.hid (toTr (w := W8.drew) ((hF.keep hB).same rfl) hT')
    have EQ := Lib.hid (fun (Wb : World) (p : Addr) (k : Nat) (b9 : Below W8.drew.heap.size W8.drew Wb) (r9 : Wb.ownsRow W8.drew.heap.size 96 5 (.slice (some p) T.length k) T.length (fkC T)) => eqTr (w := Wb) (row_underN (k := 0) (show W8.drew.ownsRow _ _ _ _ _ _ from rx) b9) r9 (fkC_forky T) hT')
    have KQ := Lib.hid (show ∀ w', Below W8.drew.heap.size W8.drew w' → (w'.cell? ⟨W5.heap.size, 0, none⟩ = some (.slice (some px) T.length kx)) ∧ (w'.cell? ⟨w.heap.size, 0, none⟩ = some (.slice st T.length kt)) ∧ Below W8.drew.heap.size W8.drew w' from fun w' h => ⟨by rw [Lib.cell_of_heap (at_keep (show W8.drew.heap[W5.heap.size]? = _ from xt) h)]; rfl, by rw [Lib.cell_of_heap (at_keep (show W8.drew.heap[w.heap.size]? = _ from XT) h)]; rfl, h⟩)
    go_upto_region 18 with (fail)
    go_cut [69] (fun s wx => s = .bool false ∧ Below W8.drew.heap.size W8.drew wx)
    case first =>
      go_region_held3 (fun w' => (w'.cell? ⟨W5.heap.size, 0, none⟩ = some (.slice (some px) T.length kx)) ∧ (w'.cell? ⟨w.heap.size, 0, none⟩ = some (.slice st T.length kt)) ∧ Below W8.drew.heap.size W8.drew w')
        (exact KQ.out _ (by first | with_reducible exact hb9 | with_reducible exact b8 | with_reducible exact Below.refl _ _ | fail))
        (first
        | (go_at_call 10; (refine TT.out.mono ?_); rintro e W9 ⟨⟨pz, kz, rfl, rz⟩, b8⟩; have q8 := EQ.out _ _ _ b8 rz)
        | (go_at_call 14; (refine q8.mono ?_); rintro e W10 ⟨rfl, b9⟩; have hb9 := Below.trans b8 (b9.mono b8.size))
        | fail)
      all_goals (go_wp2_with fail; go_meet; exact ⟨rfl, hb9⟩)
    case rest =>
    obtain ⟨rfl, bq⟩ := hcut
    clear TT EQ KQ
    have bd := (Below.refl W8.heap.size W8).drew.trans bq
    replace X := X.keep bd
    replace XT := at_keep XT bd
    replace XU := at_keep XU bd
    replace xt := at_keep xt bd
    replace xu := at_keep xu bd
    replace rx := row_underN (k := 0) rx bd
    replace ry := row_underN (k := 0) ry bd
    replace ox := ox.keep bd
    replace xb := xb.keep bd
    replace hB := hB.trans (bd.mono hB.size)
    clear bd bq
    obtain ⟨YA, hYA⟩ : ∃ Y, Y = wc := ⟨_, rfl⟩
    subst hYA
    have TT := Lib.hid (toTr (w := YA.drew) ((hU.keep hB).same rfl) hU')
    have EQ := Lib.hid (fun (Wb : World) (p : Addr) (k : Nat) (b9 : Below YA.drew.heap.size YA.drew Wb) (r9 : Wb.ownsRow YA.drew.heap.size 96 5 (.slice (some p) U.length k) U.length (fkC U)) => eqTr (w := Wb) (row_underN (k := 0) (show YA.drew.ownsRow _ _ _ _ _ _ from ry) b9) r9 (fkC_forky U) hU')
    have KQ := Lib.hid (show ∀ w', Below YA.drew.heap.size YA.drew w' → (w'.cell? ⟨W6.heap.size, 0, none⟩ = some (.slice (some py) U.length ky)) ∧ (w'.cell? ⟨W.heap.size, 0, none⟩ = some (.slice su U.length ku)) ∧ Below YA.drew.heap.size YA.drew w' from fun w' h => ⟨by rw [Lib.cell_of_heap (at_keep (show YA.drew.heap[W6.heap.size]? = _ from xu) h)]; rfl, by rw [Lib.cell_of_heap (at_keep (show YA.drew.heap[W.heap.size]? = _ from XU) h)]; rfl, h⟩)
    go_upto_region 20 with (fail)
    go_cut [74] (fun s wx => s = .bool false ∧ Below YA.drew.heap.size YA.drew wx)
    case first =>
      go_region_held3 (fun w' => (w'.cell? ⟨W6.heap.size, 0, none⟩ = some (.slice (some py) U.length ky)) ∧ (w'.cell? ⟨W.heap.size, 0, none⟩ = some (.slice su U.length ku)) ∧ Below YA.drew.heap.size YA.drew w')
        (exact KQ.out _ (by first | with_reducible exact hb9 | with_reducible exact b8 | with_reducible exact Below.refl _ _ | fail))
        (first
        | (go_at_call 10; (refine TT.out.mono ?_); rintro e W9 ⟨⟨pz, kz, rfl, rz⟩, b8⟩; have q8 := EQ.out _ _ _ b8 rz)
        | (go_at_call 14; (refine q8.mono ?_); rintro e W10 ⟨rfl, b9⟩; have hb9 := Below.trans b8 (b9.mono b8.size))
        | fail)
      all_goals (go_wp2_with fail; go_meet; exact ⟨rfl, hb9⟩)
    case rest =>
    obtain ⟨rfl, bq⟩ := hcut
    clear TT EQ KQ
    have bd := (Below.refl YA.heap.size YA).drew.trans bq
    replace X := X.keep bd
    replace XT := at_keep XT bd
    replace XU := at_keep XU bd
    replace xt := at_keep xt bd
    replace xu := at_keep xu bd
    replace rx := row_underN (k := 0) rx bd
    replace ry := row_underN (k := 0) ry bd
    replace ox := ox.keep bd
    replace xb := xb.keep bd
    replace hB := hB.trans (bd.mono hB.size)
    clear bd bq
    obtain ⟨YB, hYB⟩ : ∃ Y, Y = wc := ⟨_, rfl⟩
    subst hYB
    have T1 := toS (w := YB.drew) ((h0.keep hB).same rfl) ((h1.keep hB).same rfl) (by omega) (by omega)
    have EQ := Lib.hid (fun Wb s0 cc0 s1 cc1 (b7 : Below YB.drew.heap.size YB.drew Wb) (o7 : Own2 .i8 YB.drew.heap.size Wb a b (.slice (some s0) a.length cc0) (.slice (some s1) b.length cc1)) => eqS (w := Wb) ((ox.o0.is.same (w' := YB.drew) rfl).keep b7) ((ox.o1.is.same (w' := YB.drew) rfl).keep b7) o7.o0.is o7.o1.is (by omega) (by omega))
    have KQ := Lib.hid (show ∀ w', Below YB.drew.heap.size YB.drew w' → (w'.cell? ⟨W7.heap.size, 0, none⟩ = some (.slice (some xs0) a.length xc0) ∧ w'.cell? ⟨W7.heap.size, 1, none⟩ = some (.slice (some xs1) b.length xc1)) ∧ (w'.cell? ⟨V.heap.size, 0, none⟩ = some v0 ∧ w'.cell? ⟨V.heap.size, 1, none⟩ = some v1) ∧ Below YB.drew.heap.size YB.drew w' from fun w' h => ⟨⟨((xb.same (w' := YB.drew) rfl).keep h).c0, ((xb.same (w' := YB.drew) rfl).keep h).c1⟩, ⟨((X.same (w' := YB.drew) rfl).keep h).c0, ((X.same (w' := YB.drew) rfl).keep h).c1⟩, h⟩)
    go_upto_region 22 with (fail)
    go_cut [79] (fun s wx => s = .bool false ∧ Below YB.drew.heap.size YB.drew wx)
    case first =>
      go_region_held3 (fun w' => (w'.cell? ⟨W7.heap.size, 0, none⟩ = some (.slice (some xs0) a.length xc0) ∧ w'.cell? ⟨W7.heap.size, 1, none⟩ = some (.slice (some xs1) b.length xc1)) ∧ (w'.cell? ⟨V.heap.size, 0, none⟩ = some v0 ∧ w'.cell? ⟨V.heap.size, 1, none⟩ = some v1) ∧ Below YB.drew.heap.size YB.drew w')
        (exact KQ.out _ (by first | with_reducible exact hb9 | with_reducible exact b8 | with_reducible exact Below.refl _ _ | fail))
        (first
        | (go_at_call 11; (refine T1.mono ?_); rintro e W8 ⟨⟨zs0, zc0, zs1, zc1, rfl, o8⟩, b8⟩; have q8 := EQ.out _ _ _ _ _ b8 o8)
        | (go_at_call 15; (refine q8.mono ?_); rintro e W9 ⟨rfl, b9⟩; have hb9 := Below.trans b8 (b9.mono b8.size))
        | fail)
      all_goals (go_wp2_with fail; go_meet; exact ⟨rfl, hb9⟩)
    case rest =>
    obtain ⟨rfl, bq⟩ := hcut
    have bd := (Below.refl YB.heap.size YB).drew.trans bq
    have FB := Lib.hid (hB.trans (bd.mono hB.size))
    clear T1 EQ KQ bd bq X XT XU xt xu xb ox rx ry hB
    go_wp2
    go_ret
    exact ⟨rfl, FB.out⟩
end Go.Proofs.YtingfbohkchgbaaDoor.Sx
