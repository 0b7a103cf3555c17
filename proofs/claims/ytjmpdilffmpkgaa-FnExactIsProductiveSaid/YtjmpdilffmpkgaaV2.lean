/-
  Valid streams: both programs.
-/
import Derived.Test.YtjmpdilffmpkgaaV1
namespace Go.Proofs.Ytjmpdilffmpkgaa.Sx
open Go Go.RowKit
set_option linter.unusedVariables false
set_option linter.unusedSimpArgs false

set_option maxRecDepth 100000 in
theorem index_none (w : World) : Calls Try.prog 75 #[.slice none 0 0, .func (.func 63) #[] #[]] w fun e w' => ∃ r, e = .returned (.int .i64 r) ∧ Found [] r ∧ Same w w' := by
  have hlB : ∀ W : World, (Builtin.len_ #[37] 3 #[.slice none 0 0]).run Try.prog W = .ok (.int .i64 0) W := fun W => rfl
  go_enter Try.func75, Try.ntmps75
  go_wp2
  go_loop [8] (fun i => i = .int .i64 0) (fun i => 0)
  case atStart => exact rfl
  case round =>
    obtain rfl := hrel
    go_wp2
    go_ret
    exact ⟨-1, rfl, rfl, rfl⟩
theorem index {w : World} {l : List Int} {v : Value} (h : IsL .i8 w l v) (hlen : l.length ≤ 9223372036854775807) :
    Calls Try.prog 75 #[v, .func (.func 63) #[] #[]] w fun e w' => ∃ r, e = .returned (.int .i64 r) ∧ Found l r ∧ Same w w' := by
  rcases h with ⟨rfl, rfl⟩ | ⟨b, o, c, rfl, h2, h3⟩
  · exact index_none w
  · exact index_some b o c l w hlen h3
set_option maxRecDepth 100000 in
theorem contains {w : World} {l : List Int} {v : Value} (h : IsL .i8 w l v) (hlen : l.length ≤ 9223372036854775807) :
    Calls Try.prog 62 #[v, .func (.func 63) #[] #[]] w fun e w' => e = .returned (.bool (!(dgB l))) ∧ Same w w' := by
  have hi := index h hlen
  have HI := Lib.hid hi
  clear hi
  generalize hd : dgB l = d
  have HD := Lib.hid hd
  clear hd
  go_enter Try.func62, Try.ntmps62
  go_wp2_with (go_at_call 75; refine HI.out.mono ?_)
  rintro e W1 ⟨r, rfl, hr, hs⟩
  obtain rfl := hs.out
  clear hs
  unfold Found at hr
  rw [HD.out] at hr
  cases d
  · have hr' : 0 ≤ r := by simpa using hr
    clear hr
    go_wp2
    go_ret
    exact ⟨by simp [hr'], rfl⟩
  · have hr' : r = -1 := by simpa using hr
    subst hr'
    clear hr
    go_wp2
    go_ret
    exact ⟨by simp, rfl⟩
theorem not_vs {a b : List Int} (h : ¬ (a.length ≤ 16 ∧ 1 ≤ b.length ∧ b.length ≤ 14 ∧ dgB a = true ∧ dgB b = true)) : vsB a b = false := by
  rw [← Bool.not_eq_true, vsB_iff]; exact h
set_option maxRecDepth 100000 in
set_option maxHeartbeats 1000000 in
theorem vsI {w : World} {a b : List Int} {v0 v1 : Value} (h0 : IsL .i8 w a v0) (h1 : IsL .i8 w b v1) (la : a.length ≤ 9223372036854775807) (lb : b.length ≤ 9223372036854775807) :
    Calls Try.prog 42 #[.agg #[v0, v1]] w fun e w' => e = .returned (.bool (vsB a b)) ∧ Below w.heap.size w w' := by
  obtain ⟨s0, k0, rfl⟩ := h0.form
  obtain ⟨s1, k1, rfl⟩ := h1.form
  obtain ⟨W, hW, hB, x⟩ := boxK w (.slice s0 a.length k0) (.slice s1 b.length k1) 39
  have c0 := x.c0
  have c1 := x.c1
  have ca := contains (h0.keep hB) la
  have cb := contains (h1.keep hB) lb
  have hlB : ∀ (s : Option Addr) (n k : Nat) (W : World), (Builtin.len_ #[37] 3 #[.slice s n k]).run Try.prog W = .ok (.int .i64 n) W := fun s n k W => rfl
  have nv := Lib.hid (@not_vs a b)
  have vi := Lib.hid (vsB_iff a b)
  clear h0 h1 x
  generalize vsB a b = vv at *
  generalize dgB a = da at *
  generalize dgB b = db at *
  generalize a.length = n at *
  generalize b.length = m at *
  by_cases g1 : (16 : Int) < n
  · have F := Lib.hid (nv.out fun h => by omega)
    have d1 := decide_eq_true g1
    clear cb ca
    go_enter Try.func42, Try.ntmps42
    go_wp2
    go_ret
    exact ⟨by rw [F.out]; rfl, hB⟩
  · have d1 := decide_eq_false g1
    by_cases g2 : (m : Int) < 1
    · have F := Lib.hid (nv.out fun h => by omega)
      have d2 := decide_eq_true g2
      clear cb ca
      go_enter Try.func42, Try.ntmps42
      go_wp2
      go_ret
      exact ⟨by rw [F.out]; rfl, hB⟩
    · have d2 := decide_eq_false g2
      by_cases g3 : (14 : Int) < m
      · have F := Lib.hid (nv.out fun h => by omega)
        have d3 := decide_eq_true g3
        clear cb ca
        go_enter Try.func42, Try.ntmps42
        go_wp2
        go_ret
        exact ⟨by rw [F.out]; rfl, hB⟩
      · have d3 := decide_eq_false g3
        cases da
        · have F := Lib.hid (nv.out fun h => by have := h.2.2.2.1; cases this)
          clear cb
          go_enter Try.func42, Try.ntmps42
          go_wp2_with (go_at_call 62; refine ca.mono ?_)
          first | (rintro e W1 rfl hs) | (rintro e W1 ⟨rfl, hs⟩)
          obtain rfl := hs.out
          clear hs ca
          go_wp2
          go_ret
          exact ⟨by rw [F.out]; rfl, hB⟩
        · have F := Lib.hid (show vv = db by
            cases db
            · exact nv.out fun h => by have := h.2.2.2.2; cases this
            · exact vi.out.2 ⟨by omega, by omega, by omega, rfl, rfl⟩)
          go_enter Try.func42, Try.ntmps42
          go_wp2_with (go_at_call 62; refine ca.mono ?_)
          first | (rintro e W1 rfl hs) | (rintro e W1 ⟨rfl, hs⟩)
          obtain rfl := hs.out
          clear hs ca
          go_wp2_with (go_at_call 62; refine cb.mono ?_)
          first | (rintro e W1 rfl hs) | (rintro e W1 ⟨rfl, hs⟩)
          obtain rfl := hs.out
          clear hs cb
          go_wp2
          go_ret
          exact ⟨by rw [F.out]; simp, hB⟩
end Go.Proofs.Ytjmpdilffmpkgaa.Sx
