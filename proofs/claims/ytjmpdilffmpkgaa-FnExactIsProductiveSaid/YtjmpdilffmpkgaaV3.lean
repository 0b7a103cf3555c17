/-
  Valid streams: the model's side.
-/
import Derived.Test.YtjmpdilffmpkgaaV2
namespace Go.Proofs.Ytjmpdilffmpkgaa.Sx
open Go Go.RowKit
set_option linter.unusedVariables false
set_option linter.unusedSimpArgs false

set_option maxRecDepth 100000 in
theorem inR (x lo hi : Int) (w : World) : Calls Try.prog 50 #[.int .i64 x, .int .i64 lo, .int .i64 hi] w fun e w' => e = .returned (.bool (decide (lo ≤ x) && decide (x ≤ hi))) ∧ Same w w' := by
  by_cases h1 : lo ≤ x
  · have d1 := decide_eq_true h1
    by_cases h2 : x ≤ hi
    · have d2 := decide_eq_true h2
      go_enter Try.func50, Try.ntmps50
      go_wp2
      go_ret
      exact ⟨by simp [h1, h2], rfl⟩
    · have d2 := decide_eq_false h2
      go_enter Try.func50, Try.ntmps50
      go_wp2
      go_ret
      exact ⟨by first | (simp; done) | (simp; omega), rfl⟩
  · have d1 := decide_eq_false h1
    go_enter Try.func50, Try.ntmps50
    go_wp2
    go_ret
    exact ⟨by first | (simp; done) | (simp; omega), rfl⟩
set_option maxRecDepth 100000 in
set_option maxHeartbeats 1000000 in
theorem okS {w : World} {a b : List Int} {v0 v1 : Value} {B : Nat} (x : Bk w B v0 v1 39) (h0 : IsL .i8 w a v0) (h1 : IsL .i8 w b v1) (la : a.length ≤ 9223372036854775807) (lb : b.length ≤ 9223372036854775807) :
    Calls Try.prog 39 #[.pointer (some ⟨B, 0, none⟩)] w fun e w' => e = .returned (.bool (vsB a b)) ∧ Same w w' := by
  obtain ⟨s0, k0, rfl⟩ := h0.form
  obtain ⟨s1, k1, rfl⟩ := h1.form
  have c0 := x.c0
  have c1 := x.c1
  have ca := digits h0 la
  have cb := digits h1 lb
  have hlB : ∀ (s : Option Addr) (n k : Nat) (W : World), (Builtin.len_ #[37] 3 #[.slice s n k]).run Try.prog W = .ok (.int .i64 n) W := fun s n k W => rfl
  have nv := Lib.hid (@not_vs a b)
  have vi := Lib.hid (vsB_iff a b)
  clear h0 h1 x
  generalize vsB a b = vv at *
  generalize dgB a = da at *
  generalize dgB b = db at *
  generalize a.length = n at *
  generalize b.length = m at *
  have ci := inR (m : Int) 1 14 w
  by_cases g1 : (n : Int) ≤ 16
  · have d1 := decide_eq_true g1
    by_cases g2 : (1 : Int) ≤ m ∧ (m : Int) ≤ 14
    · rw [decide_eq_true g2.1, decide_eq_true g2.2] at ci
      simp only [Bool.and_self] at ci
      cases da
      · have F := Lib.hid (nv.out fun h => by have := h.2.2.2.1; cases this)
        clear g1 g2 cb
        go_enter Try.func39, Try.ntmps39
        go_wp2_with (go_at_call 50; refine ci.mono ?_)
        first | (rintro e W1 rfl hs) | (rintro e W1 ⟨rfl, hs⟩)
        obtain rfl := hs.out
        clear hs ci
        go_wp2_with (go_at_call 59; refine ca.mono ?_)
        first | (rintro e W1 rfl hs) | (rintro e W1 ⟨rfl, hs⟩)
        obtain rfl := hs.out
        clear hs ca
        go_wp2
        go_ret
        exact ⟨by rw [F.out]; rfl, rfl⟩
      · have F := Lib.hid (show vv = db by
          cases db
          · exact nv.out fun h => by have := h.2.2.2.2; cases this
          · exact vi.out.2 ⟨by omega, by omega, by omega, rfl, rfl⟩)
        clear g1 g2
        go_enter Try.func39, Try.ntmps39
        go_wp2_with (go_at_call 50; refine ci.mono ?_)
        first | (rintro e W1 rfl hs) | (rintro e W1 ⟨rfl, hs⟩)
        obtain rfl := hs.out
        clear hs ci
        go_wp2_with (go_at_call 59; refine ca.mono ?_)
        first | (rintro e W1 rfl hs) | (rintro e W1 ⟨rfl, hs⟩)
        obtain rfl := hs.out
        clear hs ca
        go_wp2_with (go_at_call 59; refine cb.mono ?_)
        first | (rintro e W1 rfl hs) | (rintro e W1 ⟨rfl, hs⟩)
        obtain rfl := hs.out
        clear hs cb
        go_wp2
        go_ret
        exact ⟨by rw [F.out]; rfl, rfl⟩
    · have F := Lib.hid (nv.out fun h => by omega)
      have e2 : (decide ((1 : Int) ≤ m) && decide ((m : Int) ≤ 14)) = false := by simp; omega
      rw [e2] at ci
      clear g1 g2 cb ca e2
      go_enter Try.func39, Try.ntmps39
      go_wp2_with (go_at_call 50; refine ci.mono ?_)
      first | (rintro e W1 rfl hs) | (rintro e W1 ⟨rfl, hs⟩)
      obtain rfl := hs.out
      clear hs ci
      go_wp2
      go_ret
      exact ⟨by rw [F.out]; rfl, rfl⟩
  · have d1 := decide_eq_false g1
    have F := Lib.hid (nv.out fun h => by omega)
    clear cb ca ci
    go_enter Try.func39, Try.ntmps39
    go_wp2
    go_ret
    exact ⟨by rw [F.out]; rfl, rfl⟩
end Go.Proofs.Ytjmpdilffmpkgaa.Sx
