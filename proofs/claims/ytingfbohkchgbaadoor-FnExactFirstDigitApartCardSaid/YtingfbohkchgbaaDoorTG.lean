/-
  What a tree tells of a stream, by the model.
-/
import Derived.Test.YtingfbohkchgbaaDoorTS
namespace Go.Proofs.YtingfbohkchgbaaDoor.Sx
open Go Go.RowKit
set_option linter.unusedVariables false
set_option linter.unusedSimpArgs false

/-- The code of a tree, a stream and a number. -/
def askR (T : List Fk) (a b : List Int) (n : Int) : Int := if (trB T && vsB a b) = false then 1 else if ¬ (0 ≤ n ∧ n ≤ 60) then 2 else 0
/-- The numbers of nodes are 16 bits wide. -/
def Wid (T : List Fk) : Prop := ∀ f ∈ T, (-32768 ≤ f.n0 ∧ f.n0 ≤ 32767) ∧ (-32768 ≤ f.n1 ∧ f.n1 ≤ 32767) ∧ (-32768 ≤ f.n2 ∧ f.n2 ≤ 32767)
set_option maxRecDepth 1000000 in
set_option maxHeartbeats 8000000 in
theorem givenS {w : World} {bt bs : Nat} {T : List Fk} {v v0 v1 : Value} {a b : List Int} {n : Int} (h : HereT w bt T v) (hs : Here w bs a b v0 v1) (hl : T.length ≤ 1048576) (hr : Wid T) (la : a.length ≤ 9223372036854775807) (lb : b.length ≤ 9223372036854775807) :
    Calls Tryd.prog 32 #[.pointer (some ⟨bt, 0, none⟩), .pointer (some ⟨bs, 0, none⟩), .int .i64 n] w fun e w' => e = .returned (.int .i64 (askR T a b n)) ∧ Same w w' := by
  have m1 := okTS h hl hr
  have m2 := okS hs.bk hs.i0 hs.i1 la lb
  have m3 := inR n 0 60 w
  unfold askR
  cases hT : trB T
  · rw [hT] at m1
    clear h hs hr m2 m3
    go_enter Tryd.func32, Tryd.ntmps32
    go_wp2_with (go_at_call 43; refine m1.mono ?_)
    first | (rintro e W2 rfl hs) | (rintro e W2 ⟨rfl, hs⟩)
    rw [hs.out]
    clear hs m1
    try dsimp only
    go_wp2
    go_ret
    exact ⟨rfl, rfl⟩
  · rw [hT] at m1
    cases hV : vsB a b
    · rw [hV] at m2
      clear h hs hr m3
      go_enter Tryd.func32, Tryd.ntmps32
      go_wp2_with (go_at_call 43; refine m1.mono ?_)
      first | (rintro e W2 rfl hs) | (rintro e W2 ⟨rfl, hs⟩)
      rw [hs.out]
      clear hs m1
      try dsimp only
      go_wp2_with (go_at_call 53; refine m2.mono ?_)
      first | (rintro e W2 rfl hs) | (rintro e W2 ⟨rfl, hs⟩)
      rw [hs.out]
      clear hs m2
      try dsimp only
      go_wp2
      go_ret
      exact ⟨rfl, rfl⟩
    · rw [hV] at m2
      by_cases hn : 0 ≤ n ∧ n ≤ 60
      · rw [if_neg (by simp), if_neg (by omega)]
        rw [decide_eq_true hn.1, decide_eq_true hn.2] at m3
        clear h hs hr hn
        go_enter Tryd.func32, Tryd.ntmps32
        go_wp2_with (go_at_call 43; refine m1.mono ?_)
        first | (rintro e W2 rfl hs) | (rintro e W2 ⟨rfl, hs⟩)
        rw [hs.out]
        clear hs m1
        try dsimp only
        go_wp2_with (go_at_call 53; refine m2.mono ?_)
        first | (rintro e W2 rfl hs) | (rintro e W2 ⟨rfl, hs⟩)
        rw [hs.out]
        clear hs m2
        try dsimp only
        go_wp2_with (go_at_call 54; refine m3.mono ?_)
        first | (rintro e W2 rfl hs) | (rintro e W2 ⟨rfl, hs⟩)
        rw [hs.out]
        clear hs m3
        try dsimp only
        go_wp2
        go_ret
        exact ⟨rfl, rfl⟩
      · rw [if_neg (by simp), if_pos hn]
        rw [show (decide (0 ≤ n) && decide (n ≤ 60)) = false by rw [← Bool.not_eq_true, Bool.and_eq_true, decide_eq_true_eq, decide_eq_true_eq]; exact hn] at m3
        clear h hs hr hn
        go_enter Tryd.func32, Tryd.ntmps32
        go_wp2_with (go_at_call 43; refine m1.mono ?_)
        first | (rintro e W2 rfl hs) | (rintro e W2 ⟨rfl, hs⟩)
        rw [hs.out]
        clear hs m1
        try dsimp only
        go_wp2_with (go_at_call 53; refine m2.mono ?_)
        first | (rintro e W2 rfl hs) | (rintro e W2 ⟨rfl, hs⟩)
        rw [hs.out]
        clear hs m2
        try dsimp only
        go_wp2_with (go_at_call 54; refine m3.mono ?_)
        first | (rintro e W2 rfl hs) | (rintro e W2 ⟨rfl, hs⟩)
        rw [hs.out]
        clear hs m3
        try dsimp only
        go_wp2
        go_ret
        exact ⟨rfl, rfl⟩
/-- A function of a tree, a stream and a number gives digits, a number and a code. -/
def DoesR (g : Nat) (T : List Fk) (a b : List Int) (n : Int) (l : List Int) (x c : Int) : Prop := ∀ (w : World) (v v0 v1 : Value), IsF w T v → IsL .i8 w a v0 → IsL .i8 w b v1 → (∀ q, v0.ownBlock = some q → q < w.heap.size) → (∀ q, v1.ownBlock = some q → q < w.heap.size) → Calls Tryd.prog g #[.agg #[v], .agg #[v0, v1], .int .i64 n] w fun e w' => GaveD w w' l x c e
theorem askR_ok {T : List Fk} {a b : List Int} {n : Int} (h : askR T a b n = 0) : trB T = true ∧ vsB a b = true ∧ 0 ≤ n ∧ n ≤ 60 := by
  unfold askR at h
  split at h
  · cases h
  · rename_i h1
    split at h
    · cases h
    · rename_i h2
      have h3 : (trB T && vsB a b) = true := by simpa using h1
      rw [Bool.and_eq_true] at h3
      exact ⟨h3.1, h3.2, by omega, by omega⟩
theorem GaveD.mono {w W w' : World} {l : List Int} {x c : Int} {e : Ending} (h : GaveD W w' l x c e) (hB : Below w.heap.size w W) : GaveD w w' l x c e := by
  obtain ⟨⟨s, k, h1, h2⟩, h3⟩ := h
  exact ⟨⟨s, k, h1, h2.mono hB.size⟩, hB.trans (h3.mono hB.size)⟩
set_option maxRecDepth 1000000 in
set_option maxHeartbeats 8000000 in
theorem treeS_no (T : List Fk) (a b : List Int) (n z : Int) (hz : askR T a b n = z) (h0 : z ≠ 0) (hl : T.length ≤ 1048576) (hr : Wid T) (la : a.length ≤ 9223372036854775807) (lb : b.length ≤ 9223372036854775807) : DoesR 9 T a b n [] 0 z := by
  intro w v v0 v1 hF i0 i1 _ _
  obtain ⟨W, hW, hB, x⟩ := boxN w #[v] 34
  obtain ⟨V, hV, hB2, y⟩ := boxK W v0 v1 36
  have bV := hB.trans (hB2.mono hB.size)
  have h : HereT V w.heap.size T v := ⟨at_keep x hB2, hF.keep bV⟩
  have hs : Here V W.heap.size a b v0 v1 := ⟨y, i0.keep bV, i1.keep bV⟩
  have m := givenS (n := n) h hs hl hr la lb
  rw [hz] at m
  have zb : (z == 0) = false := by rw [beq_eq_false_iff_ne]; exact h0
  have OW := Lib.hid (own8 V w.heap.size bV.size)
  have FB := Lib.hid (show Below w.heap.size w (V.alloc (.cells #[] 75)) from bV.alloc bV.size _)
  obtain ⟨s, k, rfl⟩ := hF.form
  obtain ⟨s0, k0, rfl⟩ := i0.form
  obtain ⟨s1, k1, rfl⟩ := i1.form
  clear hz x y h hs hF i0 i1 hB hB2 bV
  go_enter Tryd.func9, Tryd.ntmps9
  go_wp2_with (go_at_call 32; refine m.mono ?_)
  first | (rintro e W2 rfl hs) | (rintro e W2 ⟨rfl, hs⟩)
  rw [hs.out]
  clear hs m
  try dsimp only
  go_wp2
  refine bodyPost_ret (v := .tuple #[.slice (some ⟨V.heap.size, 0, none⟩) 0 0, .int .i64 0, .int .i64 z]) (by simp [results, Tryd.results9, go_sem]) rfl ?_
  exact ⟨⟨_, _, rfl, OW.out⟩, FB.out⟩
set_option maxRecDepth 1000000 in
set_option maxHeartbeats 8000000 in
theorem treeS_yes (T : List Fk) (a b : List Int) (n : Int) (hz : askR T a b n = 0) (hl : T.length ≤ 1048576) (hr : Wid T) (J : Nat) (l : List Int) (k c : Int) (hSt : ∀ i, i < J → OkT T a b n.toNat i) (hJ : J ≤ n.toNat + 400) (hE : EndT T a b n.toNat J l k c) : DoesR 9 T a b n l k c := by
  intro w v v0 v1 hF i0 i1 _ _
  obtain ⟨q1, q2, q3, q4⟩ := askR_ok hz
  have hv := (vsB_iff a b).1 q2
  obtain ⟨m, rfl⟩ : ∃ m : Nat, n = m := ⟨n.toNat, by omega⟩
  simp only [Int.toNat_natCast] at hSt hJ hE
  obtain ⟨W, hW, hB, x⟩ := boxN w #[v] 34
  obtain ⟨V, hV, hB2, y⟩ := boxK W v0 v1 36
  have bV := hB.trans (hB2.mono hB.size)
  have h : HereT V w.heap.size T v := ⟨at_keep x hB2, hF.keep bV⟩
  have hs : Here V W.heap.size a b v0 v1 := ⟨y, i0.keep bV, i1.keep bV⟩
  have g := givenS (n := (m : Int)) h hs hl hr (by omega) (by omega)
  rw [hz] at g
  have r := runTS h hs q1 q2 (by omega) hSt hJ hE
  have R := Lib.hid r
  have BV := Lib.hid bV
  obtain ⟨s, k', rfl⟩ := hF.form
  obtain ⟨s0, k0, rfl⟩ := i0.form
  obtain ⟨s1, k1, rfl⟩ := i1.form
  clear hz x y h hs hF i0 i1 hB hB2 bV r hSt hJ hE q1 q2 q3 q4 hv
  go_enter Tryd.func9, Tryd.ntmps9
  go_wp2_with (go_at_call 32; refine g.mono ?_)
  first | (rintro e W2 rfl hs) | (rintro e W2 ⟨rfl, hs⟩)
  rw [hs.out]
  clear hs g
  try dsimp only
  go_wp2_with (go_at_call 33; refine R.out.mono ?_)
  rintro e W3 ⟨⟨s3, k3, rfl, o3⟩, b3⟩
  try dsimp only
  have G := Lib.hid (show GaveD w W3 l k c (.returned (.tuple #[.slice s3 l.length k3, .int .i64 k, .int .i64 c])) from GaveD.mono ⟨⟨s3, k3, rfl, o3⟩, b3⟩ BV.out)
  clear o3 b3 R
  go_wp2
  refine bodyPost_ret (v := .tuple #[.slice s3 l.length k3, .int .i64 k, .int .i64 c]) (by simp [results, Tryd.results9, go_sem]) rfl ?_
  exact G.out
end Go.Proofs.YtingfbohkchgbaaDoor.Sx
