/-
  Rows of lines: counted, and compared.
-/
import Derived.Test.YtejmncldmnkakaaJ2
import Derived.Deep.RegionHeld3
namespace Go.Proofs.Ytejmncldmnkakaa.Sx
open Go Go.RowKit
set_option linter.unusedVariables false
set_option linter.unusedSimpArgs false

/-- What counting gives: -1, or what is left. -/
def Left (left m : Int) (w : World) (e : Ending) (w' : World) : Prop := ∃ r : Int, e = .returned (.int .i64 r) ∧ (r = -1 ∨ (0 ≤ r ∧ r ≤ left ∧ m ≤ left)) ∧ Below w.heap.size w w'
set_option maxRecDepth 1000000 in
set_option maxHeartbeats 4000000 in
theorem szLn (L : Ln) (left : Int) (w : World) (hk : LnOk L) (h0 : 0 ≤ left) (h1 : left ≤ 1048576) : Calls Try.prog 9 #[.agg (lnC L), .int .i64 left] w (Left left 0 w) := by
  unfold lnC
  obtain ⟨W, hW, hB, x⟩ := boxN w #[.string L.nm, .int .i8 L.kd, .string L.a, .string L.b, .int .i64 L.p, .int .i64 L.q] 31
  have c0 : W.cell? ⟨w.heap.size, 0, none⟩ = some (.string L.nm) := by rw [Lib.cell_of_heap x]; rfl
  have c2 : W.cell? ⟨w.heap.size, 2, none⟩ = some (.string L.a) := by rw [Lib.cell_of_heap x]; rfl
  have c3 : W.cell? ⟨w.heap.size, 3, none⟩ = some (.string L.b) := by rw [Lib.cell_of_heap x]; rfl
  obtain ⟨k1, k2, k3⟩ := hk
  have hl : ∀ (t : ByteArray) (W : World), (Builtin.len_ #[9] 3 #[.string t]).run Try.prog W = .ok (.int .i64 t.size) W := fun t W => rfl
  have q0 := hl L.nm
  have q2 := hl L.a
  have q3 := hl L.b
  generalize L.nm = t0 at *
  generalize L.a = t2 at *
  generalize L.b = t3 at *
  obtain ⟨n0, e0⟩ : ∃ n0, t0.size = n0 := ⟨_, rfl⟩
  obtain ⟨n2, e2⟩ : ∃ n2, t2.size = n2 := ⟨_, rfl⟩
  obtain ⟨n3, e3⟩ : ∃ n3, t3.size = n3 := ⟨_, rfl⟩
  rw [e0] at q0 k1
  rw [e2] at q2 k2
  rw [e3] at q3 k3
  clear x hl e0 e2 e3
  by_cases g0 : left - n0 < 0
  · have d0 := decide_eq_true g0
    go_enter Try.func9, Try.ntmps9
    go_wp2
    go_ret
    exact ⟨-1, rfl, .inl rfl, hB⟩
  · have d0 := decide_eq_false g0
    by_cases g2 : left - n0 - n2 < 0
    · have d2 := decide_eq_true g2
      go_enter Try.func9, Try.ntmps9
      go_wp2
      go_ret
      exact ⟨-1, rfl, .inl rfl, hB⟩
    · have d2 := decide_eq_false g2
      by_cases g3 : left - n0 - n2 - n3 < 0
      · have d3 := decide_eq_true g3
        go_enter Try.func9, Try.ntmps9
        go_wp2
        go_ret
        exact ⟨-1, rfl, .inl rfl, hB⟩
      · have d3 := decide_eq_false g3
        go_enter Try.func9, Try.ntmps9
        go_wp2
        go_ret
        exact ⟨left - n0 - n2 - n3, rfl, .inr ⟨by omega, by omega, by omega⟩, hB⟩
set_option maxRecDepth 1000000 in
set_option maxHeartbeats 4000000 in
theorem szLnS {w : World} {ls : List Ln} {v : Value} (h : IsLn w ls v) (hk : ∀ L ∈ ls, LnOk L) (hlen : ls.length ≤ 9223372036854775807) (left : Int) (h0 : 0 ≤ left) (h1 : left ≤ 1048576) :
    Calls Try.prog 4 #[v, .int .i64 left] w (Left left ls.length w) := by
  obtain ⟨s, c, rfl⟩ := h.form
  have hlB : ∀ (s : Option Addr) (n k : Nat) (W : World), (Builtin.len_ #[22] 3 #[.slice s n k]).run Try.prog W = .ok (.int .i64 n) W := fun s n k W => rfl
  obtain ⟨n, hn⟩ : ∃ n, ls.length = n := ⟨_, rfl⟩
  rw [hn] at h hlen ⊢
  have HI := Lib.hid h
  have HN := Lib.hid hn
  have HK := Lib.hid hk
  clear h hn hk
  by_cases g0 : left - n < 0
  · have d0 := decide_eq_true g0
    go_enter Try.func4, Try.ntmps4
    go_wp2
    go_ret
    exact ⟨-1, rfl, .inl rfl, Below.refl _ _⟩
  · have d0 := decide_eq_false g0
    go_enter Try.func4, Try.ntmps4
    go_wp2
    go_loopw [1, 5] (fun l i wr => ∃ (j : Nat) (r : Int), j ≤ n ∧ i = .int .i64 j ∧ l = .int .i64 r ∧ (0 ≤ r ∧ r ≤ left) ∧ Below w.heap.size w wr) (fun _ i _ => n - (RowKit.intOf i).toNat)
    case atStart => exact ⟨0, left - n, Nat.zero_le _, rfl, by simp, by omega, Below.refl _ _⟩
    case round =>
      obtain ⟨j, r, hj, rfl, rfl, hr, hBw⟩ := hrel
      by_cases hlt : j < n
      · obtain ⟨L, hL⟩ : ∃ L, ls[j]? = some L := ⟨_, List.getElem?_eq_getElem (by have := HN.out; omega)⟩
        obtain ⟨b, o, rfl, A⟩ := (HI.out.keep hBw).at6 hL
        have a0 := A.c0
        have a1 := A.c1
        have a2 := A.c2
        have a3 := A.c3
        have a4 := A.c4
        have a5 := A.c5
        have tl := szLn L r wr (HK.out L (List.mem_of_getElem? hL)) hr.1 (by omega)
        unfold lnC at tl
        have gj : (j : Int) < n := by omega
        clear A hL
        go_wp2_with (go_at_call 9; refine tl.mono ?_)
        rintro e W1 ⟨r1, rfl, hr1, b1⟩
        have hB1 := hBw.trans (b1.mono hBw.size)
        rcases hr1 with rfl | ⟨q0, q1, _⟩
        · go_wp2
          go_ret
          exact ⟨-1, rfl, .inl rfl, hB1⟩
        · have d1 : decide (r1 < 0) = false := decide_eq_false (by omega)
          go_wp2
          go_roundw
          case rel => exact ⟨j + 1, r1, by omega, by simp, rfl, by omega, hB1⟩
          case measure => simp [RowKit.intOf]; omega
      · obtain rfl : j = n := by omega
        go_wp2
        go_ret
        exact ⟨r, rfl, .inr ⟨hr.1, hr.2, by omega⟩, hBw⟩
set_option maxRecDepth 1000000 in
set_option maxHeartbeats 4000000 in
theorem eqLn (L : Ln) (w : World) : Calls Try.prog 12 #[.agg (lnC L), .agg (lnC L)] w fun e w' => e = .returned (.bool true) ∧ Below w.heap.size w w' := by
  unfold lnC
  obtain ⟨W, hW, hB, x⟩ := boxN w #[.string L.nm, .int .i8 L.kd, .string L.a, .string L.b, .int .i64 L.p, .int .i64 L.q] 32
  obtain ⟨V, hV, hB2, y⟩ := boxN W #[.string L.nm, .int .i8 L.kd, .string L.a, .string L.b, .int .i64 L.p, .int .i64 L.q] 32
  have A := at6_of (L := L) (at_keep x hB2)
  have B := at6_of (L := L) y
  have hB3 := hB.trans (hB2.mono hB.size)
  have a0 := A.c0
  have a1 := A.c1
  have a2 := A.c2
  have a3 := A.c3
  have a4 := A.c4
  have a5 := A.c5
  have b0 := B.c0
  have b1 := B.c1
  have b2 := B.c2
  have b3 := B.c3
  have b4 := B.c4
  have b5 := B.c5
  rw [Nat.zero_add] at a1 a2 a3 a4 a5 b1 b2 b3 b4 b5
  clear x y A B
  go_enter Try.func12, Try.ntmps12
  go_wp2
  go_ret
  exact ⟨rfl, hB3⟩
set_option maxRecDepth 1000000 in
set_option maxHeartbeats 4000000 in
theorem eqLnS {w : World} {ls : List Ln} {v u : Value} (h : IsLn w ls v) (h' : IsLn w ls u) (hn : ls.length ≤ 1048576) :
    Calls Try.prog 8 #[v, u] w fun e w' => e = .returned (.bool true) ∧ Below w.heap.size w w' := by
  obtain ⟨s0, k0, rfl⟩ := h.form
  obtain ⟨s1, k1, rfl⟩ := h'.form
  have hlB : ∀ (s : Option Addr) (n k : Nat) (W : World), (Builtin.len_ #[25] 3 #[.slice s n k]).run Try.prog W = .ok (.int .i64 n) W := fun s n k W => rfl
  obtain ⟨n, hnn⟩ : ∃ n, ls.length = n := ⟨_, rfl⟩
  rw [hnn] at h h' hn ⊢
  have H1 := Lib.hid h
  have H2 := Lib.hid h'
  have HN := Lib.hid hnn
  clear h h' hnn
  go_enter Try.func8, Try.ntmps8
  go_wp2
  go_loopw [5] (fun i wr => ∃ j : Nat, j ≤ n ∧ i = .int .i64 j ∧ Below w.heap.size w wr) (fun i _ => n - (RowKit.intOf i).toNat)
  case atStart => exact ⟨0, by omega, rfl, Below.refl _ _⟩
  case round =>
    obtain ⟨j, hj, rfl, hb⟩ := hrel
    by_cases hlt : j < n
    · obtain ⟨L, hL⟩ : ∃ L, ls[j]? = some L := ⟨_, List.getElem?_eq_getElem (by have := HN.out; omega)⟩
      obtain ⟨g, o, rfl, A⟩ := (H1.out.keep hb).at6 hL
      obtain ⟨g', o', rfl, B⟩ := (H2.out.keep hb).at6 hL
      have a0 := A.c0
      have a1 := A.c1
      have a2 := A.c2
      have a3 := A.c3
      have a4 := A.c4
      have a5 := A.c5
      have b0 := B.c0
      have b1 := B.c1
      have b2 := B.c2
      have b3 := B.c3
      have b4 := B.c4
      have b5 := B.c5
      have q := eqLn L wr.drew
      unfold lnC at q
      have gj : (j : Int) < n := by omega
      have KA := Lib.hid (fun W hb => A.keep (w' := W) hb)
      have KB := Lib.hid (fun W hb => B.keep (w' := W) hb)
      have dD : Below wr.heap.size wr wr.drew := (Below.refl _ _).drew
      clear A B hL
      go_wp2
      go_region_held3 (fun w' => w'.cell? ⟨g, o + j * 6, none⟩ = some (.string L.nm) ∧ w'.cell? ⟨g, o + j * 6 + 1, none⟩ = some (.int .i8 L.kd) ∧ w'.cell? ⟨g, o + j * 6 + 2, none⟩ = some (.string L.a) ∧ w'.cell? ⟨g, o + j * 6 + 3, none⟩ = some (.string L.b) ∧ w'.cell? ⟨g, o + j * 6 + 4, none⟩ = some (.int .i64 L.p) ∧ w'.cell? ⟨g, o + j * 6 + 5, none⟩ = some (.int .i64 L.q) ∧ w'.cell? ⟨g', o' + j * 6, none⟩ = some (.string L.nm) ∧ w'.cell? ⟨g', o' + j * 6 + 1, none⟩ = some (.int .i8 L.kd) ∧ w'.cell? ⟨g', o' + j * 6 + 2, none⟩ = some (.string L.a) ∧ w'.cell? ⟨g', o' + j * 6 + 3, none⟩ = some (.string L.b) ∧ w'.cell? ⟨g', o' + j * 6 + 4, none⟩ = some (.int .i64 L.p) ∧ w'.cell? ⟨g', o' + j * 6 + 5, none⟩ = some (.int .i64 L.q))
        (first | exact ⟨(KA.out _ (dD.trans q1)).c0, (KA.out _ (dD.trans q1)).c1, (KA.out _ (dD.trans q1)).c2, (KA.out _ (dD.trans q1)).c3, (KA.out _ (dD.trans q1)).c4, (KA.out _ (dD.trans q1)).c5, (KB.out _ (dD.trans q1)).c0, (KB.out _ (dD.trans q1)).c1, (KB.out _ (dD.trans q1)).c2, (KB.out _ (dD.trans q1)).c3, (KB.out _ (dD.trans q1)).c4, (KB.out _ (dD.trans q1)).c5⟩ | exact ⟨(KA.out _ dD).c0, (KA.out _ dD).c1, (KA.out _ dD).c2, (KA.out _ dD).c3, (KA.out _ dD).c4, (KA.out _ dD).c5, (KB.out _ dD).c0, (KB.out _ dD).c1, (KB.out _ dD).c2, (KB.out _ dD).c3, (KB.out _ dD).c4, (KB.out _ dD).c5⟩)
        (first | (go_at_call 12; refine q.mono ?_; rintro e W1 ⟨rfl, q1⟩))
      all_goals
        go_wp2
        go_roundw
        case rel => exact ⟨j + 1, by omega, by simp, hb.trans ((dD.trans q1).mono hb.size)⟩
        case measure => simp [RowKit.intOf]; omega
    · obtain rfl : j = n := by omega
      go_wp2
      go_ret
      exact ⟨rfl, hb⟩
end Go.Proofs.Ytejmncldmnkakaa.Sx
