/-
  A stream's text: both programs, by hand: two calls in whatever order.
-/
import Derived.Test.YtfmbbioibdmhjaaC3
import Derived.Deep.RegionHeld3
namespace Go.Proofs.Ytfmbbioibdmhjaa.Sx
open Go Go.RowKit Go.Shelf
set_option linter.unusedVariables false
set_option linter.unusedSimpArgs false

theorem cell_lt {w : World} {a : Addr} {v : Value} (h : w.cell? a = some v) : a.block < w.heap.size := by
  rcases Nat.lt_or_ge a.block w.heap.size with h' | h'
  · exact h'
  · simp [World.cell?, Array.getElem?_eq_none h'] at h
theorem SliceIs.below {w w' : World} {n : Nat} {ks : List EK} {l : List Int} {v : Value} (h : SliceIs w ks l v) (hn : w.heap.size ≤ n) (hB : Below n w w') : SliceIs w' ks l v := by
  obtain ⟨a, m, c, rfl, h1, h2, h3, h4, h5⟩ := h
  refine ⟨a, m, c, rfl, h1, h2, h3, fun p hp i x hx => ?_, h5⟩
  have := h4 p hp i x hx
  rw [← this]
  exact hB.cell (p := ⟨p.1, p.2 + i, none⟩) (by have := cell_lt this; show p.1 < n; have : p.1 < w.heap.size := this; omega)
/-- What the two texts need: the box's two slices. -/
theorem box_keep {w w' : World} {B n : Nat} {v0 v1 : Value} {a b : List Int} (hn : w.heap.size ≤ n) (hB : Below n w w') (c0 : w.cell? ⟨B, 0, none⟩ = some v0) (c1 : w.cell? ⟨B, 1, none⟩ = some v1) (s0 : SliceIs w [.i8] a v0) (s1 : SliceIs w [.i8] b v1) :
    w'.cell? ⟨B, 0, none⟩ = some v0 ∧ w'.cell? ⟨B, 1, none⟩ = some v1 ∧ SliceIs w' [.i8] a v0 ∧ SliceIs w' [.i8] b v1 :=
  ⟨(hB.cell (p := ⟨B, 0, none⟩) (by have := cell_lt c0; show B < n; have : B < w.heap.size := this; omega)).trans c0, (hB.cell (p := ⟨B, 1, none⟩) (by have := cell_lt c0; show B < n; have : B < w.heap.size := this; omega)).trans c1, s0.below hn hB, s1.below hn hB⟩

theorem box_cells (w : World) (v0 v1 : Value) (t : TypeId) : (w.alloc (.cells #[v0, v1] t)).cell? ⟨w.heap.size, 0, none⟩ = some v0 ∧ (w.alloc (.cells #[v0, v1] t)).cell? ⟨w.heap.size, 1, none⟩ = some v1 := by
  have : (w.alloc (.cells #[v0, v1] t)).heap[w.heap.size]? = some (.cells #[v0, v1] t (0, 0)) := by show (w.heap.push _)[w.heap.size]? = _; simp
  constructor <;> (rw [Lib.cell_of_heap this]; rfl)
theorem vsCall (a b : List Int) (v0 v1 : Value) (W : World) (d0 : SliceIs W [.i8] a v0) (d1 : SliceIs W [.i8] b v1) (hl : allL (parLvs s13.params) [a, b]) :
    Calls Try.prog 13 #[.agg #[v0, v1]] W fun e w' => e = .returned (.bool (decide (VS a b))) ∧ Below W.heap.size W w' := by
  have hA : ArgsAre W [] [a, b] 0 0 s13.params [.agg #[v0, v1]] := ⟨[v0, v1], [], rfl, ⟨v0, [v1], rfl, d0, v1, [], rfl, d1, rfl⟩, rfl⟩
  refine Calls.mono (cVS W [] [a, b] [.agg #[v0, v1]] trivial hl hA trivial) ?_
  rintro e w' ⟨he, h⟩
  refine ⟨?_, h⟩
  rw [he]
  have e : (tbC.fns 13 [] [a, b]).1 = [if VS a b then 1 else 0] := (Tab.fns_app (s := s13) rfl [] [a, b]).trans (clamp_id (show allHas [⟨0, 1⟩] [if VS a b then 1 else 0] from bool_has _))
  rw [e]
  by_cases k : VS a b
  · rw [if_pos k, decide_eq_true k]; rfl
  · rw [if_neg k, decide_eq_false k]; rfl
/-- What the calls of the region keep. -/
abbrev Bx (n B : Nat) (v0 v1 : Value) (a b : List Int) (w w' : World) : Prop := w'.cell? ⟨B, 0, none⟩ = some v0 ∧ w'.cell? ⟨B, 1, none⟩ = some v1 ∧ SliceIs w' [.i8] a v0 ∧ SliceIs w' [.i8] b v1 ∧ Below n w w'
theorem SliceIs.drew {w : World} {ks : List EK} {l : List Int} {v : Value} (h : SliceIs w ks l v) : SliceIs w.drew ks l v := h
theorem keepD {n B : Nat} {v0 v1 : Value} {a b : List Int} {w w1 : World} (h : Bx n B v0 v1 a b w w1) : Bx n B v0 v1 a b w w1.drew := by
  obtain ⟨c0, c1, s0, s1, hB⟩ := h
  exact ⟨c0, c1, s0, s1, hB.drew⟩
theorem keepS {B : Nat} {v0 v1 : Value} {a b : List Int} {w w1 w2 : World} (h : Bx w.heap.size B v0 v1 a b w w1) (k : Below w1.heap.size w1 w2) : Bx w.heap.size B v0 v1 a b w w2 := by
  obtain ⟨c0, c1, s0, s1, hB⟩ := h
  obtain ⟨e0, e1, f0, f1⟩ := box_keep (Nat.le_refl _) k c0 c1 s0 s1
  exact ⟨e0, e1, f0, f1, hB.trans (k.mono hB.size)⟩
set_option maxRecDepth 100000 in
set_option maxHeartbeats 400000 in
theorem walkI (a b : List Int) (v0 v1 : Value) (w : World) (s0 : SliceIs w [.i8] a v0) (s1 : SliceIs w [.i8] b v1) (hl : allL (parLvs s13.params) [a, b]) :
    Calls Try.prog 7 #[.agg #[v0, v1]] w fun e w' => e = .returned (byteV (if VS a b then shownF a ++ [58] ++ shownF b else [])) ∧ Below w.heap.size w w' := by
  obtain ⟨W, hW⟩ : ∃ W, w.alloc (.cells #[v0, v1] 27) = W := ⟨_, rfl⟩
  have hB : Below w.heap.size w W := by rw [← hW]; exact (Below.refl _ _).alloc (Nat.le_refl _) _
  have c0 : W.cell? ⟨w.heap.size, 0, none⟩ = some v0 := by rw [← hW]; exact (box_cells w v0 v1 27).1
  have c1 : W.cell? ⟨w.heap.size, 1, none⟩ = some v1 := by rw [← hW]; exact (box_cells w v0 v1 27).2
  have d0 := s0.below (Nat.le_refl _) hB
  have d1 := s1.below (Nat.le_refl _) hB
  have hv := vsCall a b v0 v1 W d0 d1 hl
  generalize hk : decide (VS a b) = k at hv
  clear hl s0 s1
  cases k
  · have hn := of_decide_eq_false hk
    clear hk
    rw [if_neg hn]
    clear hn
    go_enter Try.func7, Try.ntmps7
    go_wp2_with (go_at_call 13; refine hv.mono ?_; rintro e W1 ⟨rfl, b1⟩)
    go_ret
    exact ⟨rfl, hB.trans (b1.mono (by have := hB.size; omega))⟩
  · have hy := of_decide_eq_true hk
    clear hk
    rw [if_pos hy]
    have ha : Digs a := hy.2.2.1
    have hb : Digs b := hy.2.2.2
    have la : a.length ≤ 1000000 := by omega
    have lb : b.length ≤ 1000000 := by omega
    clear hy
    obtain ⟨ta, hta⟩ : ∃ ta : ByteArray, (⟨((shownF a).map u8).toArray⟩ : ByteArray) = ta := ⟨_, rfl⟩
    obtain ⟨tb, htb⟩ : ∃ tb : ByteArray, (⟨((shownF b).map u8).toArray⟩ : ByteArray) = tb := ⟨_, rfl⟩
    have hfin : byteV (shownF a ++ [58] ++ shownF b) = .string (ta ++ ⟨#[58]⟩ ++ tb) := by
      rw [← hta, ← htb]
      unfold byteV
      congr 1
      apply ByteArray.ext
      simp [Array.append_assoc, u8]
    rw [hfin]
    clear hfin
    go_enter Try.func7, Try.ntmps7
    go_wp2_with (go_at_call 13; refine hv.mono ?_; rintro e W1 ⟨rfl, b1⟩)
    obtain ⟨e0, e1, f0, f1⟩ := box_keep (Nat.le_refl _) b1 c0 c1 d0 d1
    have g1 : Below w.heap.size w W1 := hB.trans (b1.mono hB.size)
    clear hW hB c0 c1 d0 d1 hv b1
    have hA : ∀ w' : World, SliceIs w' [.i8] a v0 → Calls Try.prog 14 #[v0] w' fun e w'' => e = .returned (.string ta) ∧ Below w'.heap.size w' w'' := fun w' h => by
      rw [← hta]; exact cDigText w' a v0 ha la h
    have hBB : ∀ w' : World, SliceIs w' [.i8] b v1 → Calls Try.prog 14 #[v1] w' fun e w'' => e = .returned (.string tb) ∧ Below w'.heap.size w' w'' := fun w' h => by
      rw [← htb]; exact cDigText w' b v1 hb lb h
    have zta : ta.size ≤ 1000000 := by rw [← hta, ByteArray.size]; simp [shownF]; omega
    have ztb : tb.size ≤ 1000000 := by rw [← htb, ByteArray.size]; simp [shownF]; omega
    have q1 : ¬ 9223372036854775807 < ta.size + 1 := by omega
    have q2 : ¬ 9223372036854775807 < ta.size + 1 + tb.size := by omega
    go_region_held3 (fun w' => w'.cell? ⟨w.heap.size, 0, none⟩ = some v0 ∧ w'.cell? ⟨w.heap.size, 1, none⟩ = some v1 ∧ SliceIs w' [.i8] a v0 ∧ SliceIs w' [.i8] b v1 ∧ Below w.heap.size w w')
      (first | exact keepD ⟨‹_›, ‹_›, ‹_›, ‹_›, ‹_›⟩ | assumption | exact keepS ‹_› hh)
      (first
        | (go_at_call_of 14 v0; refine (hA _ (by simp [*])).mono ?_; rintro e w' ⟨rfl, hh⟩)
        | (go_at_call_of 14 v1; refine (hBB _ (by simp [*])).mono ?_; rintro e w' ⟨rfl, hh⟩))
    go_wp2
    go_ret
    exact ⟨rfl, (show Bx w.heap.size w.heap.size v0 v1 a b w _ by assumption).2.2.2.2⟩
theorem okCall (a b : List Int) (v0 v1 : Value) (B : Nat) (W : World) (hlt : B < W.heap.size) (c0 : W.cell? ⟨B, 0, none⟩ = some v0) (c1 : W.cell? ⟨B, 1, none⟩ = some v1) (d0 : SliceIs W [.i8] a v0) (d1 : SliceIs W [.i8] b v1) (hl : allL (parLvs s13.params) [a, b]) :
    Calls Try.prog 10 #[.pointer (some ⟨B, 0, none⟩)] W fun e w' => e = .returned (.bool (decide (VS a b))) ∧ Below W.heap.size W w' := by
  have hA : ArgsAre W [] [a, b] 0 0 s10.params [.pointer (some ⟨B, 0, none⟩)] := ⟨B, 0, [v0, v1], [], rfl, hlt, (fun i v h => by
    match i, h with
    | 0, h => obtain rfl := Option.some.inj h; exact c0
    | 1, h => obtain rfl := Option.some.inj h; exact c1
    | (n + 2), h => exact absurd h (by simp)), ⟨v0, [v1], rfl, d0, v1, [], rfl, d1, rfl⟩, rfl⟩
  refine Calls.mono (cOk W [] [a, b] [.pointer (some ⟨B, 0, none⟩)] trivial hl hA trivial) ?_
  rintro e w' ⟨he, h⟩
  refine ⟨?_, h⟩
  rw [he]
  have e : (tbC.fns 10 [] [a, b]).1 = [if VS a b then 1 else 0] := (Tab.fns_app (s := s10) rfl [] [a, b]).trans (clamp_id (show allHas [⟨0, 1⟩] [if VS a b then 1 else 0] from bool_has _))
  rw [e]
  by_cases k : VS a b
  · rw [if_pos k, decide_eq_true k]; rfl
  · rw [if_neg k, decide_eq_false k]; rfl
theorem shCall (w : World) (l : List Int) (v : Value) (hd : Digs l) (hlen : l.length ≤ 1000000) (hl : allL (parLvs s11.params) [l]) (hs : SliceIs w [.i8] l v) :
    Calls Try.prog 11 #[v] w fun e w' => e = .returned (byteV (shownF l)) ∧ Below w.heap.size w w' := by
  have hA : ArgsAre w [] [l] 0 0 s11.params [v] := ⟨v, [], rfl, hs, rfl⟩
  have hp : presQ prC 11 [] [l] := show preSh [] [l] from ⟨hd, by omega⟩
  refine Calls.mono (cShown w [] [l] [v] trivial hl hA hp) ?_
  rintro e w' ⟨he, h⟩
  refine ⟨?_, h⟩
  rw [he.1]
  rfl
set_option maxRecDepth 100000 in
set_option maxHeartbeats 400000 in
theorem walkS (a b : List Int) (v0 v1 : Value) (w : World) (s0 : SliceIs w [.i8] a v0) (s1 : SliceIs w [.i8] b v1) (hl : allL (parLvs s13.params) [a, b]) :
    Calls Try.prog 5 #[.agg #[v0, v1]] w fun e w' => e = .returned (byteV (if VS a b then shownF a ++ [58] ++ shownF b else [])) ∧ Below w.heap.size w w' := by
  obtain ⟨W, hW⟩ : ∃ W, w.alloc (.cells #[v0, v1] 27) = W := ⟨_, rfl⟩
  have hB : Below w.heap.size w W := by rw [← hW]; exact (Below.refl _ _).alloc (Nat.le_refl _) _
  have c0 : W.cell? ⟨w.heap.size, 0, none⟩ = some v0 := by rw [← hW]; exact (box_cells w v0 v1 27).1
  have c1 : W.cell? ⟨w.heap.size, 1, none⟩ = some v1 := by rw [← hW]; exact (box_cells w v0 v1 27).2
  have d0 := s0.below (Nat.le_refl _) hB
  have d1 := s1.below (Nat.le_refl _) hB
  have hv := okCall a b v0 v1 w.heap.size W (by rw [← hW]; simp) c0 c1 d0 d1 hl
  generalize hk : decide (VS a b) = k at hv
  have hl0 : allL (parLvs s11.params) [a] := ⟨hl.1, trivial⟩
  have hl1 : allL (parLvs s11.params) [b] := ⟨hl.2.1, trivial⟩
  clear hl s0 s1
  cases k
  · have hn := of_decide_eq_false hk
    clear hk
    rw [if_neg hn]
    clear hn
    go_enter Try.func5, Try.ntmps5
    go_wp2_with (go_at_call 10; refine hv.mono ?_; rintro e W1 ⟨rfl, b1⟩)
    go_ret
    exact ⟨rfl, hB.trans (b1.mono (by have := hB.size; omega))⟩
  · have hy := of_decide_eq_true hk
    clear hk
    rw [if_pos hy]
    have ha : Digs a := hy.2.2.1
    have hb : Digs b := hy.2.2.2
    have la : a.length ≤ 1000000 := by omega
    have lb : b.length ≤ 1000000 := by omega
    clear hy
    obtain ⟨ta, hta⟩ : ∃ ta : ByteArray, (⟨((shownF a).map u8).toArray⟩ : ByteArray) = ta := ⟨_, rfl⟩
    obtain ⟨tb, htb⟩ : ∃ tb : ByteArray, (⟨((shownF b).map u8).toArray⟩ : ByteArray) = tb := ⟨_, rfl⟩
    have hfin : byteV (shownF a ++ [58] ++ shownF b) = .string (ta ++ ⟨#[58]⟩ ++ tb) := by
      rw [← hta, ← htb]
      unfold byteV
      congr 1
      apply ByteArray.ext
      simp [Array.append_assoc, u8]
    rw [hfin]
    clear hfin
    go_enter Try.func5, Try.ntmps5
    go_wp2_with (go_at_call 10; refine hv.mono ?_; rintro e W1 ⟨rfl, b1⟩)
    obtain ⟨e0, e1, f0, f1⟩ := box_keep (Nat.le_refl _) b1 c0 c1 d0 d1
    have g1 : Below w.heap.size w W1 := hB.trans (b1.mono hB.size)
    clear hW hB c0 c1 d0 d1 hv b1
    have hA : ∀ w' : World, SliceIs w' [.i8] a v0 → Calls Try.prog 11 #[v0] w' fun e w'' => e = .returned (.string ta) ∧ Below w'.heap.size w' w'' := fun w' h => by
      rw [← hta]; exact shCall w' a v0 ha la hl0 h
    have hBB : ∀ w' : World, SliceIs w' [.i8] b v1 → Calls Try.prog 11 #[v1] w' fun e w'' => e = .returned (.string tb) ∧ Below w'.heap.size w' w'' := fun w' h => by
      rw [← htb]; exact shCall w' b v1 hb lb hl1 h
    have zta : ta.size ≤ 1000000 := by rw [← hta, ByteArray.size]; simp [shownF]; omega
    have ztb : tb.size ≤ 1000000 := by rw [← htb, ByteArray.size]; simp [shownF]; omega
    have q1 : ¬ 9223372036854775807 < ta.size + 1 := by omega
    have q2 : ¬ 9223372036854775807 < ta.size + 1 + tb.size := by omega
    go_region_held3 (fun w' => w'.cell? ⟨w.heap.size, 0, none⟩ = some v0 ∧ w'.cell? ⟨w.heap.size, 1, none⟩ = some v1 ∧ SliceIs w' [.i8] a v0 ∧ SliceIs w' [.i8] b v1 ∧ Below w.heap.size w w')
      (first | exact keepD ⟨‹_›, ‹_›, ‹_›, ‹_›, ‹_›⟩ | assumption | exact keepS ‹_› hh)
      (first
        | (go_at_call_of 11 v0; refine (hA _ (by simp [*])).mono ?_; rintro e w' ⟨rfl, hh⟩)
        | (go_at_call_of 11 v1; refine (hBB _ (by simp [*])).mono ?_; rintro e w' ⟨rfl, hh⟩))
    go_wp2
    go_ret
    exact ⟨rfl, (show Bx w.heap.size w.heap.size v0 v1 a b w _ by assumption).2.2.2.2⟩
end Go.Proofs.Ytfmbbioibdmhjaa.Sx
