/-
  Small functions of the law: lists alike, a digit at a place, bounds of bytes.
-/
import Derived.Test.YteemkophifcimaaSN
import Derived.Test.YteemkophifcimaaV2
import Derived.Test.YteemkophifcimaaA1
namespace Go.Proofs.Yteemkophifcimaa.Sx
open Go Go.RowKit
set_option linter.unusedVariables false
set_option linter.unusedSimpArgs false

set_option maxRecDepth 1000000 in
set_option maxHeartbeats 4000000 in
theorem sl8_some (b o c b' o' c' : Nat) (l : List Int) (w : World) (hlen : l.length ≤ 1099511627776) (hcs : ∀ i x, l[i]? = some x → w.cell? ⟨b, o + i, none⟩ = some (.int .i8 x)) (hcs' : ∀ i x, l[i]? = some x → w.cell? ⟨b', o' + i, none⟩ = some (.int .i8 x)) :
    Calls Try.prog 64 #[.slice (some ⟨b, o, none⟩) l.length c, .slice (some ⟨b', o', none⟩) l.length c'] w fun e w' => e = .returned (.bool true) ∧ Below w.heap.size w w' := by
  have hlB : ∀ W : World, (Builtin.len_ #[22] 3 #[.slice (some ⟨b, o, none⟩) l.length c]).run Try.prog W = .ok (.int .i64 l.length) W := fun W => rfl
  have hlB' : ∀ W : World, (Builtin.len_ #[22] 3 #[.slice (some ⟨b', o', none⟩) l.length c']).run Try.prog W = .ok (.int .i64 l.length) W := fun W => rfl
  obtain ⟨n, hn⟩ : ∃ n, l.length = n := ⟨_, rfl⟩
  rw [hn] at hlen hlB hlB' ⊢
  have HN := Lib.hid hn
  have HC := Lib.hid hcs
  have HC' := Lib.hid hcs'
  clear hn hcs hcs'
  go_enter Try.func64, Try.ntmps64
  go_wp2
  go_loopw [5] (fun i wr => ∃ j : Nat, j ≤ n ∧ i = .int .i64 j ∧ ∃ q, wr = w.drewN q) (fun i _ => n - (RowKit.intOf i).toNat)
  case atStart => exact ⟨0, Nat.zero_le _, rfl, 0, rfl⟩
  case round =>
    obtain ⟨j, hj, rfl, q, rfl⟩ := hrel
    by_cases hlt : j < n
    · have h2 : l[j]? = some (l.getD j 0) := by rw [List.getD_eq_getElem?_getD, List.getElem?_eq_getElem (by have := HN.out; omega)]; rfl
      have c1 := HC.out j _ h2
      have c2 := HC'.out j _ h2
      generalize l.getD j 0 = x at c1 c2
      clear h2
      go_wp2
      go_quiet (fail)
      go_wp2
      go_roundw
      case rel => exact ⟨j + 1, by omega, by simp, _, rfl⟩
      case measure => simp [RowKit.intOf]; omega
    · obtain rfl : j = n := by omega
      go_wp2
      go_ret
      exact ⟨rfl, ⟨rfl, rfl, rfl, Nat.le_refl _, fun _ _ => rfl⟩⟩
set_option maxRecDepth 1000000 in
set_option maxHeartbeats 4000000 in
theorem sl8_empty (a a' : Option Addr) (c c' : Nat) (w : World) :
    Calls Try.prog 64 #[.slice a 0 c, .slice a' 0 c'] w fun e w' => e = .returned (.bool true) ∧ Below w.heap.size w w' := by
  have hlB : ∀ W : World, (Builtin.len_ #[22] 3 #[.slice a 0 c]).run Try.prog W = .ok (.int .i64 0) W := fun W => rfl
  have hlB' : ∀ W : World, (Builtin.len_ #[22] 3 #[.slice a' 0 c']).run Try.prog W = .ok (.int .i64 0) W := fun W => rfl
  go_enter Try.func64, Try.ntmps64
  go_wp2
  go_loop [5] (fun i => i = .int .i64 0) (fun i => 0)
  case atStart => exact rfl
  case round =>
    obtain rfl := hrel
    go_wp2
    go_ret
    exact ⟨rfl, Below.refl _ _⟩
/-- COMPARING TWO SLICES THAT HOLD ONE LIST. -/
theorem sl8 {w : World} {l : List Int} {v u : Value} (h : IsL .i8 w l v) (h' : IsL .i8 w l u) (hlen : l.length ≤ 1099511627776) :
    Calls Try.prog 64 #[v, u] w fun e w' => e = .returned (.bool true) ∧ Below w.heap.size w w' := by
  by_cases hl : l = []
  · subst hl
    rcases h with ⟨rfl, _⟩ | ⟨b, o, c, rfl, _⟩ <;> rcases h' with ⟨rfl, _⟩ | ⟨b', o', c', rfl, _⟩ <;> exact sl8_empty _ _ _ _ w
  · rcases h with ⟨rfl, e⟩ | ⟨b, o, c, rfl, h2, h3⟩
    · exact absurd e hl
    · rcases h' with ⟨rfl, e⟩ | ⟨b', o', c', rfl, h2', h3'⟩
      · exact absurd e hl
      · exact sl8_some b o c b' o' c' l w hlen h3 h3'
set_option maxRecDepth 1000000 in
set_option maxHeartbeats 4000000 in
/-- ALIKE. -/
theorem alikeS {w : World} {l : List Int} {v u : Value} (h : IsL .i8 w l v) (h' : IsL .i8 w l u) (hlen : l.length ≤ 1099511627776) :
    Calls Try.prog 37 #[v, u] w fun e w' => e = .returned (.bool true) ∧ Below w.heap.size w w' := by
  have m := sl8 h h' hlen
  have M := Lib.hid m
  clear m h h'
  go_enter Try.func37, Try.ntmps37
  go_wp2_with (go_at_call 64; refine M.out.mono ?_)
  first | (rintro e W1 rfl b1) | (rintro e W1 ⟨rfl, b1⟩)
  go_wp2
  go_ret
  exact ⟨rfl, b1⟩
set_option maxRecDepth 1000000 in
set_option maxHeartbeats 4000000 in
/-- A DIGIT AT A PLACE. -/
theorem digAtI {w : World} {a b : List Int} {v0 v1 : Value} (h0 : IsL .i8 w a v0) (h1 : IsL .i8 w b v1) (hv : vsB a b = true) {k : Nat} (hk : k ≤ 1000000000) :
    Calls Try.prog 36 #[.agg #[v0, v1], .int .i64 k] w fun e w' => e = .returned (.tuple #[.int .i8 (dg a b k), .int .i64 0]) ∧ Below w.heap.size w w' := by
  obtain ⟨q1, q2, q3, q4, q5⟩ := (vsB_iff a b).1 hv
  obtain ⟨s0, k0, rfl⟩ := h0.form
  obtain ⟨s1, k1, rfl⟩ := h1.form
  obtain ⟨W, hW, hB, x⟩ := boxK w (.slice s0 a.length k0) (.slice s1 b.length k1) 26
  have hz : W.heap.size = w.heap.size + 1 := by rw [← hW]; simp
  have m1 := vsI (h0.keep hB) (h1.keep hB) (by omega) (by omega)
  rw [hv] at m1
  have c0 := x.c0
  have c1 := x.c1
  have hlB : ∀ (s : Option Addr) (n k : Nat) (W : World), (Builtin.len_ #[22] 3 #[.slice s n k]).run Try.prog W = .ok (.int .i64 n) W := fun s n k W => rfl
  have AT := Lib.hid fun W' (hb : Below W.heap.size W W') => atI ((h0.keep hB).keep hb) ((h1.keep hB).keep hb) (by omega) (by omega) (plc_lt q2 k)
  have X := Lib.hid x
  have HB := Lib.hid hB
  have g0 : decide (k < 0) = false := decide_eq_false (by omega)
  have g1 : ¬ (k : Int) < 0 := by omega
  have g2 : ¬ (1000000000 : Int) < (k : Int) := by omega
  have Q := Lib.hid (And.intro q1 (And.intro q2 q3))
  have HK := Lib.hid hk
  clear h0 h1 hv q1 q2 q3 q4 q5 x hB hz hk
  obtain ⟨na, hna⟩ : ∃ n, a.length = n := ⟨_, rfl⟩
  obtain ⟨nb, hnb⟩ : ∃ n, b.length = n := ⟨_, rfl⟩
  unfold dg
  have HP := Lib.hid (show plc a b k = if k < na then k else na + (k - na) % nb by rw [← hna, ← hnb]; rfl)
  rw [hna] at Q m1 c0 X hW
  rw [hnb] at Q m1 c1 X hW
  rw [hna, hnb]
  have AT := (show Hid (∀ W' (hb : Below W.heap.size W W'), Calls Try.prog 63 #[.agg #[.slice s0 na k0, .slice s1 nb k1], .int .i64 (plc a b k : Nat)] W' (Num .i8 (dgp a b (plc a b k)) W')) from Lib.hid fun W' hb => by rw [← hna, ← hnb]; exact AT.out W' hb)
  clear hna hnb
  by_cases hlt : k < na
  · have hp : plc a b k = k := by rw [HP.out, if_pos hlt]
    rw [hp] at AT ⊢
    obtain ⟨y, hy⟩ : ∃ y, dgp a b k = y := ⟨_, rfl⟩
    rw [hy] at AT ⊢
    clear hy hp
    have g3 : decide ((na : Int) ≤ (k : Int)) = false := decide_eq_false (by omega)
    have g4 : decide (na ≤ k) = false := decide_eq_false (by omega)
    go_enter Try.func36, Try.ntmps36
    go_wp2_with (go_at_call 42; refine m1.mono ?_)
    first | (rintro e W1 rfl b1) | (rintro e W1 ⟨rfl, b1⟩)
    try dsimp only
    have x1 := X.out.keep b1
    have c0 := x1.c0
    have c1 := x1.c1
    have at1 := AT.out W1 b1
    have B1 := Lib.hid b1
    clear x1 b1
    go_wp2_with (go_at_call 63; refine at1.mono ?_)
    rintro e W2 ⟨rfl, b2⟩
    have BF := Lib.hid ((HB.out.trans (B1.out.mono HB.out.size)).trans (b2.mono (Nat.le_trans HB.out.size B1.out.size)))
    clear b2
    go_wp2
    refine bodyPost_ret (v := .tuple #[.int .i8 y, .int .i64 0]) (by simp [results, Try.results36, go_sem]) rfl ?_
    exact ⟨rfl, BF.out⟩
  · obtain ⟨r, hr⟩ : ∃ r, (k - na) % nb = r := ⟨_, rfl⟩
    have hrl : r < nb := by rw [← hr]; exact Nat.mod_lt _ (by have := Q.out; omega)
    have hp : plc a b k = na + r := by rw [HP.out, if_neg hlt, hr]
    rw [hp] at AT ⊢
    obtain ⟨y, hy⟩ : ∃ y, dgp a b (na + r) = y := ⟨_, rfl⟩
    rw [hy] at AT ⊢
    have q1 := Q.out.1
    have q2 := Q.out.2.1
    have q3 := Q.out.2.2
    have g3 : na ≤ k := by omega
    have g5 : ¬ nb = 0 := by omega
    have g6 : ¬ (nb : Int) = 0 := by omega
    have e0 : IntKind.i64.wrap ((k : Int) - na) = (k : Int) - na := by have := HK.out; rw [IntKind.wrap_i64]; omega
    have e1 : ((k : Int) - na) % (nb : Int) = (r : Int) := by
      rw [← hr, show (k : Int) - na = ((k - na : Nat) : Int) by omega]
      exact (Int.natCast_emod _ _).symm
    have e2 : ((k : Int) - na).tmod (nb : Int) = (r : Int) := by
      rw [← hr, show (k : Int) - na = ((k - na : Nat) : Int) by omega]
      rfl
    have e3 : IntKind.i64.wrap ((na : Int) + r) = (na : Int) + r := by rw [IntKind.wrap_i64]; omega
    have e4 : IntKind.i64.wrap (r : Int) = (r : Int) := by rw [IntKind.wrap_i64]; omega
    clear hy hp hr q1 q2 q3
    go_enter Try.func36, Try.ntmps36
    go_wp2_with (go_at_call 42; refine m1.mono ?_)
    first | (rintro e W1 rfl b1) | (rintro e W1 ⟨rfl, b1⟩)
    try dsimp only
    have x1 := X.out.keep b1
    have c0 := x1.c0
    have c1 := x1.c1
    have at1 := AT.out W1 b1
    have B1 := Lib.hid b1
    rw [show ((na + r : Nat) : Int) = (na : Int) + r by omega] at at1
    clear x1 b1
    go_wp2_with (go_at_call 63; refine at1.mono ?_)
    rintro e W2 ⟨rfl, b2⟩
    have BF := Lib.hid ((HB.out.trans (B1.out.mono HB.out.size)).trans (b2.mono (Nat.le_trans HB.out.size B1.out.size)))
    clear b2
    go_wp2
    refine bodyPost_ret (v := .tuple #[.int .i8 y, .int .i64 0]) (by simp [results, Try.results36, go_sem]) rfl ?_
    exact ⟨rfl, BF.out⟩
set_option maxRecDepth 1000000 in
set_option maxHeartbeats 4000000 in
/-- NEITHER IS LONG. -/
theorem longI {w : World} {s1 s2 : Option Addr} {n m c1 c2 : Nat} :
    Calls Try.prog 32 #[.slice s1 n c1, .slice s2 m c2] w fun e w' => e = .returned (.bool (decide (3000 < n) || decide (3000 < m))) ∧ Same w w' := by
  have hlB : ∀ (s : Option Addr) (n k : Nat) (W : World), (Builtin.len_ #[53] 3 #[.slice s n k]).run Try.prog W = .ok (.int .i64 n) W := fun s n k W => rfl
  by_cases h : 3000 < n
  · have h1 : (3000 : Int) < n := by omega
    rw [decide_eq_true h, Bool.true_or]
    go_enter Try.func32, Try.ntmps32
    go_wp2
    go_ret
    exact ⟨rfl, rfl⟩
  · have h1 : ¬ (3000 : Int) < n := by omega
    rw [decide_eq_false h, Bool.false_or]
    by_cases h2 : 3000 < m
    · have h3 : (3000 : Int) < m := by omega
      rw [decide_eq_true h2]
      go_enter Try.func32, Try.ntmps32
      go_wp2
      go_ret
      exact ⟨rfl, rfl⟩
    · have h3 : ¬ (3000 : Int) < m := by omega
      rw [decide_eq_false h2]
      go_enter Try.func32, Try.ntmps32
      go_wp2
      go_ret
      exact ⟨rfl, rfl⟩
set_option maxRecDepth 1000000 in
set_option maxHeartbeats 4000000 in
/-- A NUMBER THAT DEPENDS ON A BYTE. -/
theorem a2AtI {w : World} {l : List Int} {v : Value} (h : IsL .u8 w l v) (hb : ∀ (i : Nat) (x : Int), l[i]? = some x → 0 ≤ x ∧ x ≤ 255) (hl : l.length ≤ 3000) (n : Nat) (hn : 1 ≤ n) (hn2 : n ≤ 1000) :
    Calls Try.prog 35 #[v, .int .i64 0, .int .i64 n] w fun e w' => (∃ k : Nat, e = .returned (.int .i64 k) ∧ k < n) ∧ Same w w' := by
  have hlB : ∀ (s : Option Addr) (n k : Nat) (W : World), (Builtin.len_ #[53] 3 #[.slice s n k]).run Try.prog W = .ok (.int .i64 n) W := fun s n k W => rfl
  have go : l = [] ∨ ∃ x, l[0]? = some x := by
    cases l with
    | nil => exact .inl rfl
    | cons x l => exact .inr ⟨x, rfl⟩
  rcases go with rfl | ⟨x, hx⟩
  · obtain ⟨s, k, rfl⟩ := h.form
    have g1 : ¬ (n : Int) < 1 := by omega
    rw [show ([] : List Int).length = 0 from rfl]
    go_enter Try.func35, Try.ntmps35
    go_wp2
    go_ret
    exact ⟨⟨0, rfl, by omega⟩, rfl⟩
  · have hl1 : 0 < l.length := by
      rcases Nat.eq_zero_or_pos l.length with e | e
      · rw [List.length_eq_zero_iff.1 e] at hx; cases hx
      · exact e
    rcases h with ⟨_, e⟩ | ⟨b, o, c, rfl, h2, h3⟩
    · rw [e] at hl1; exact absurd hl1 (Nat.lt_irrefl _)
    · have hc := h3 0 x hx
      obtain ⟨m, hm⟩ : ∃ m, l.length = m := ⟨_, rfl⟩
      have bx := hb 0 x hx
      obtain ⟨y, rfl⟩ : ∃ y : Nat, x = y := ⟨x.toNat, by omega⟩
      rw [hm] at hl1 ⊢
      rw [Nat.add_zero] at hc
      have g1 : ¬ (n : Int) < 1 := by omega
      have g2 : ¬ n = 0 := by omega
      have g3 : ¬ m = 0 := by omega
      have e0 : IntKind.i64.wrap (y : Int) = y := by rw [IntKind.wrap_i64]; omega
      clear hx h2 h3 hb hl bx hm
      go_enter Try.func35, Try.ntmps35
      go_wp2
      go_ret
      exact ⟨⟨y % n, rfl, Nat.mod_lt _ hn⟩, rfl⟩
end Go.Proofs.Yteemkophifcimaa.Sx
