/-
  A digit of a stream, and the place behind: both programs.
-/
import Derived.Test.YtingfbohkchgbaaDoorN3
namespace Go.Proofs.YtingfbohkchgbaaDoor.Sx
open Go Go.RowKit
set_option linter.unusedVariables false
set_option linter.unusedSimpArgs false

/-- The place of a digit. -/
def plc (a b : List Int) (k : Nat) : Nat := if k < a.length then k else a.length + (k - a.length) % b.length
/-- The digit at a place. -/
def dgp (a b : List Int) (p : Nat) : Int := if p < a.length then a.getD p 0 else b.getD (p - a.length) 0
def dg (a b : List Int) (k : Nat) : Int := dgp a b (plc a b k)
theorem plc_lt {a b : List Int} (hb : 1 ≤ b.length) (k : Nat) : plc a b k < a.length + b.length := by
  unfold plc
  split
  · omega
  · have := Nat.mod_lt (k - a.length) (show 0 < b.length by omega); omega
theorem plc_zero (a b : List Int) (hb : 1 ≤ b.length) : plc a b 0 = 0 := by
  unfold plc
  split
  · rfl
  · rename_i h
    have : a.length = 0 := by omega
    rw [this]; simp
theorem plc_succ {a b : List Int} (hb : 1 ≤ b.length) (k : Nat) : plc a b (k + 1) = if plc a b k + 1 < a.length + b.length then plc a b k + 1 else a.length := by
  unfold plc
  by_cases h : k < a.length
  · rw [if_pos h]
    by_cases h2 : k + 1 < a.length
    · rw [if_pos h2, if_pos (by omega)]
    · rw [if_neg h2, show k + 1 - a.length = 0 by omega, Nat.zero_mod, if_pos (by omega)]; omega
  · rw [if_neg h, if_neg (by omega), show k + 1 - a.length = (k - a.length) + 1 by omega]
    have hm := Nat.mod_lt (k - a.length) (show 0 < b.length by omega)
    by_cases h3 : (k - a.length) % b.length + 1 < b.length
    · rw [if_pos (by omega), Nat.add_mod, Nat.mod_eq_of_lt (a := 1) (by omega), Nat.mod_eq_of_lt h3]; omega
    · rw [if_neg (by omega)]
      have e : (k - a.length) % b.length + 1 = b.length := by omega
      rw [Nat.add_mod]
      by_cases h1 : b.length = 1
      · rw [h1]; simp [Nat.mod_one]
      · rw [Nat.mod_eq_of_lt (a := 1) (by omega), e, Nat.mod_self]; omega
theorem dg_spec {a b : List Int} (k : Nat) : dg a b k = if k < a.length then a.getD k 0 else b.getD ((k - a.length) % b.length) 0 := by
  unfold dg dgp plc
  by_cases h : k < a.length
  · rw [if_pos h, if_pos h, if_pos h]
  · rw [if_neg h, if_neg h, if_neg (by omega), show a.length + (k - a.length) % b.length - a.length = (k - a.length) % b.length by omega]
theorem IsL.cellD {w : World} {l : List Int} {v : Value} {K : IntKind} (h : IsL K w l v) {i : Nat} (hi : i < l.length) : ∃ b o c, v = .slice (some ⟨b, o, none⟩) l.length c ∧ w.cell? ⟨b, o + i, none⟩ = some (.int K (l.getD i 0)) := by
  rcases h with ⟨_, rfl⟩ | ⟨b, o, c, h1, _, h3⟩
  · simp at hi
  · exact ⟨b, o, c, h1, h3 i _ (by rw [List.getD_eq_getElem?_getD, List.getElem?_eq_getElem hi]; rfl)⟩
/-- A number is returned. -/
def Num (K : IntKind) (x : Int) (w : World) (e : Ending) (w' : World) : Prop := e = .returned (.int K x) ∧ Below w.heap.size w w'
set_option maxRecDepth 1000000 in
set_option maxHeartbeats 4000000 in
theorem at_head {w : World} {n m p b0 o c k1 : Nat} {s1 : Option Addr} {y : Int} (la : n ≤ 1048576) (h : p < n) (hc : w.cell? ⟨b0, o + p, none⟩ = some (.int .i8 y)) :
    Calls Tryd.prog 63 #[.agg #[.slice (some ⟨b0, o, none⟩) n c, .slice s1 m k1], .int .i64 p] w (Num .i8 y w) := by
  obtain ⟨W, hW, hB, x⟩ := boxK w (.slice (some ⟨b0, o, none⟩) n c) (.slice s1 m k1) 36
  have hc := (hB.cell (p := ⟨b0, o + p, none⟩) (cell_lt hc)).trans hc
  have hlB : ∀ (s : Option Addr) (n k : Nat) (W : World), (Builtin.len_ #[25] 3 #[.slice s n k]).run Tryd.prog W = .ok (.int .i64 n) W := fun s n k W => rfl
  have c0 := x.c0
  have c1 := x.c1
  clear x
  go_enter Tryd.func63, Tryd.ntmps63
  go_wp2
  go_ret
  exact ⟨rfl, hB⟩
set_option maxRecDepth 1000000 in
set_option maxHeartbeats 4000000 in
theorem at_loop {w : World} {n m q b0 o c k0 : Nat} {s0 : Option Addr} {y : Int} (la : n ≤ 1048576) (lb : m ≤ 1048576) (h : q < m) (hc : w.cell? ⟨b0, o + q, none⟩ = some (.int .i8 y)) :
    Calls Tryd.prog 63 #[.agg #[.slice s0 n k0, .slice (some ⟨b0, o, none⟩) m c], .int .i64 ((n + q : Nat) : Int)] w (Num .i8 y w) := by
  obtain ⟨W, hW, hB, x⟩ := boxK w (.slice s0 n k0) (.slice (some ⟨b0, o, none⟩) m c) 36
  have hc := (hB.cell (p := ⟨b0, o + q, none⟩) (cell_lt hc)).trans hc
  have hlB : ∀ (s : Option Addr) (n k : Nat) (W : World), (Builtin.len_ #[25] 3 #[.slice s n k]).run Tryd.prog W = .ok (.int .i64 n) W := fun s n k W => rfl
  have c0 := x.c0
  have c1 := x.c1
  obtain ⟨p, hp⟩ : ∃ p : Int, ((n + q : Nat) : Int) = p := ⟨_, rfl⟩
  rw [hp]
  have g1 : ¬ p < (n : Int) := by omega
  have g2 : p - (n : Int) = q := by omega
  clear x hp
  go_enter Tryd.func63, Tryd.ntmps63
  go_wp2
  go_ret
  exact ⟨rfl, hB⟩
theorem atI {w : World} {a b : List Int} {v0 v1 : Value} (h0 : IsL .i8 w a v0) (h1 : IsL .i8 w b v1) (la : a.length ≤ 1048576) (lb : b.length ≤ 1048576) {p : Nat} (hp : p < a.length + b.length) :
    Calls Tryd.prog 63 #[.agg #[v0, v1], .int .i64 p] w (Num .i8 (dgp a b p) w) := by
  unfold dgp
  by_cases h : p < a.length
  · obtain ⟨b0, o, c, rfl, hc⟩ := h0.cellD h
    obtain ⟨s1, k1, rfl⟩ := h1.form
    rw [if_pos h]
    exact at_head la h hc
  · obtain ⟨s0, k0, rfl⟩ := h0.form
    obtain ⟨b0, o, c, rfl, hc⟩ := h1.cellD (i := p - a.length) (by omega)
    rw [if_neg h]
    have := at_loop (s0 := s0) (k0 := k0) (c := c) la lb (show p - a.length < b.length by omega) hc
    rw [show a.length + (p - a.length) = p by omega] at this
    exact this
set_option maxRecDepth 1000000 in
set_option maxHeartbeats 4000000 in
theorem behindI {w : World} {n m : Nat} {s0 s1 : Option Addr} {c0' c1' : Nat} (la : n ≤ 1048576) (lb : m ≤ 1048576) {p : Nat} (hp : p < n + m) :
    Calls Tryd.prog 64 #[.agg #[.slice s0 n c0', .slice s1 m c1'], .int .i64 p] w (Num .i64 ((if p + 1 < n + m then p + 1 else n : Nat) : Int) w) := by
  obtain ⟨W, hW, hB, x⟩ := boxK w (.slice s0 n c0') (.slice s1 m c1') 36
  have hlB : ∀ (s : Option Addr) (n k : Nat) (W : World), (Builtin.len_ #[25] 3 #[.slice s n k]).run Tryd.prog W = .ok (.int .i64 n) W := fun s n k W => rfl
  have c0 := x.c0
  have c1 := x.c1
  by_cases h : p + 1 < n + m
  · rw [if_pos h]
    clear x
    go_enter Tryd.func64, Tryd.ntmps64
    go_wp2
    go_ret
    exact ⟨rfl, hB⟩
  · rw [if_neg h]
    clear x
    go_enter Tryd.func64, Tryd.ntmps64
    go_wp2
    go_ret
    exact ⟨rfl, hB⟩
end Go.Proofs.YtingfbohkchgbaaDoor.Sx
