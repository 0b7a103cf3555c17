/-
  The law of the texts of polynomials, by hand: copies, both texts, what is left as it was.
-/
import Derived.Test.YtelfpnkhdaaeoaaDoorC2
namespace Go.Proofs.YtelfpnkhdaaeoaaDoor.Sx
open Go Go.RowKit Go.Shelf
set_option linter.unusedVariables false
set_option linter.unusedSimpArgs false

theorem cell_lt {w : World} {a : Addr} {v : Value} (h : w.cell? a = some v) : a.block < w.heap.size := by
  rcases Nat.lt_or_ge a.block w.heap.size with h' | h'
  · exact h'
  · simp [World.cell?, Array.getElem?_eq_none h'] at h
theorem SliceIs.below {w w' : World} {n : Nat} {ks : List EK} {l : List Int} {v : Value} (h : SliceIs w ks l v) (hn : w.heap.size ≤ n) (hB : Below n w w') : SliceIs w' ks l v := by
  obtain ⟨a, m, c, rfl, h1, h2, h3, h4, h5⟩ := h
  refine ⟨a, m, c, rfl, h1, h2, h3, fun p hp i x hx => ?_, h5⟩
  have := h4 p hp i x hx
  rw [← this]
  exact hB.cell (p := ⟨p.1, p.2 + i, none⟩) (by have := cell_lt this; show p.1 < n; have : p.1 < w.heap.size := this; omega)
abbrev LH (l : List Int) : Prop := (∀ x ∈ l, I64 x) ∧ (l.length : Int) ≤ 1048576
theorem kind1 (i : Nat) : kindAt [EK.i64] i = .i64 := by unfold kindAt; simp [Nat.mod_one]
theorem copyCall {l : List Int} {v : Value} {w : World} (hl : LH l) (hs : SliceIs w [.i64] l v) :
    Calls Tryd.prog 5 #[v] w fun e w' => ∃ b c, e = .returned (.slice (some ⟨b, 0, none⟩) l.length c) ∧ Below w.heap.size w w' ∧ SliceIs w' [.i64] l (.slice (some ⟨b, 0, none⟩) l.length c) := by
  refine (toInt64S_cp w [] [l] v ⟨⟨hl.1, by have := hl.2; show (l.length : Int) ≤ 1099511627776; omega⟩, trivial⟩ ⟨v, [], rfl, hs, rfl⟩).mono ?_
  rintro e w' ⟨v', vs, bs, rfl, hB, hf, hsh⟩
  have hsh : vs = [v'] := hsh
  subst hsh
  match bs, hf with
  | [b], hf =>
    obtain ⟨⟨_, hk, rest, c, rfl, hb, hlen⟩, _⟩ := hf
    refine ⟨b, c, by simp, hB, ⟨some (b, 0), l.length, c, by simp, by simp, hk, fun h => (by cases h), fun p hp i x hx => ?_, by simp at hlen ⊢; omega⟩⟩
    cases hp
    rw [Lib.cell_of_heap hb]
    have hi : i < l.length := (List.getElem?_eq_some_iff.1 hx).1
    have hn : (numsV [.i64] l).length = l.length := by simp [numsV]
    simp only [Nat.zero_add, List.getElem?_toArray]
    rw [List.getElem?_append_left (by omega)]
    simp only [numsV, List.getElem?_mapIdx, hx, Option.map_some]
  | [], hf => exact hf.elim
  | _ :: _ :: _, hf => exact hf.2.2.elim
theorem vb_call {g : Nat} {l : List Int} {v : Value} {w : World} (s : Sig) (h : CC g s) (hps : s = ⟨[.lst [.i64]], [(false, [.b])], true⟩) (hsig : tbC.sig g = some s) (hf : tbC.fl g = some vpF) (hl : LH l) (hs : SliceIs w [.i64] l v) :
    Calls Tryd.prog g #[v] w fun e w' => e = .returned (.bool (decide (VP l))) ∧ Below w.heap.size w w' := by
  subst hps
  refine Calls.mono (h w [] [l] [v] trivial ⟨⟨hl.1, by have := hl.2; show (l.length : Int) ≤ 9223372036854775807 * 1; omega⟩, trivial⟩ ⟨v, [], rfl, hs, rfl⟩ trivial) ?_
  rintro e w' ⟨he, h⟩
  refine ⟨?_, h⟩
  rw [he]
  have e : (tbC.fns g [] [l]).1 = [if VP l then 1 else 0] := (Tab.fns_app hsig [] [l]).trans ((show clamp _ (tbC.app g [] [l]) = clamp _ [if VP l then 1 else 0] by unfold Tab.app; rw [hf]; rfl).trans (clamp_id (show allHas [⟨0, 1⟩] [if VP l then 1 else 0] from bool_has _)))
  rw [e]
  by_cases k : VP l
  · rw [if_pos k, decide_eq_true k]; rfl
  · rw [if_neg k, decide_eq_false k]; rfl
theorem eqCall {l : List Int} {v u : Value} {w : World} (hl : LH l) (hs : SliceIs w [.i64] l v) (hu : SliceIs w [.i64] l u) :
    Calls Tryd.prog 7 #[v, u] w fun e w' => e = .returned (.bool true) ∧ Below w.heap.size w w' := by
  have hb : (∀ x ∈ l, I64 x) ∧ (l.length : Int) ≤ 9223372036854775807 * 1 := ⟨hl.1, by have := hl.2; omega⟩
  refine Calls.mono (zEq w [] [l, l] [v, u] trivial ⟨hb, hb, trivial⟩ ⟨v, [u], rfl, hs, u, [], rfl, hu, rfl⟩ trivial) ?_
  rintro e w' ⟨he, h⟩
  refine ⟨?_, h⟩
  rw [he]
  have e : (tbC.fns 7 [] [l, l]).1 = [1] := (Tab.fns_app (s := s7) rfl [] [l, l]).trans ((show clamp _ (tbC.app 7 [] [l, l]) = clamp _ [if l = l then 1 else 0] from rfl).trans ((clamp_id (show allHas [⟨0, 1⟩] [if l = l then 1 else 0] from bool_has _)).trans (by rw [if_pos rfl])))
  rw [e]
  rfl
/-- What both texts are. -/
noncomputable abbrev txt (l : List Int) : ByteArray := if decide (VP l) then ⟨(pT l l.length).toArray⟩ else ⟨#[]⟩
theorem vt_in {l : List Int} (h : decide (VP l) = true) : ∀ x ∈ l, In9 x := fun x hx => by
  obtain ⟨j, hj, rfl⟩ := List.mem_iff_getElem.1 hx
  have := (of_decide_eq_true h).2.1 j hj
  rw [List.getD_eq_getElem?_getD, List.getElem?_eq_getElem hj] at this
  have : In6 l[j] := this
  omega
theorem vt_pos {l : List Int} (h : decide (VP l) = true) : 0 < l.length := by
  have := (of_decide_eq_true h).1.1
  omega
theorem own_cells {w : World} {l : List Int} {b c : Nat} (h : SliceIs w [.i64] l (.slice (some ⟨b, 0, none⟩) l.length c)) : ∀ i x, l[i]? = some x → w.cell? ⟨b, 0 + i, none⟩ = some (.int .i64 x) := by
  obtain ⟨a, n, cp, e, _, _, _, h4, _⟩ := h
  intro i x hx
  cases a with
  | none => simp at e
  | some p =>
    simp only [Option.map_some, Value.slice.injEq, Option.some.injEq, Addr.mk.injEq] at e
    have := h4 p rfl i x hx
    rw [kind1] at this
    rw [show p.1 = b from e.1.1.symm, show p.2 = 0 from e.1.2.1.symm] at this
    exact this
set_option maxRecDepth 1000000 in
set_option maxHeartbeats 1000000 in
theorem specCall {l : List Int} {b c : Nat} {w : World} (hl : LH l) (hs : SliceIs w [.i64] l (.slice (some ⟨b, 0, none⟩) l.length c)) :
    Calls Tryd.prog 4 #[.slice (some ⟨b, 0, none⟩) l.length c] w fun e w' => e = .returned (.string (txt l)) ∧ Below w.heap.size w w' := by
  have hv := vb_call s8 zOk rfl rfl rfl hl hs
  have hT : ∀ W : World, Below w.heap.size w W → decide (VP l) = true → Calls Tryd.prog 9 #[.slice (some ⟨b, 0, none⟩) l.length c] W fun e w' => e = .returned (.string ⟨(pT l l.length).toArray⟩) ∧ Below W.heap.size W w' := fun W hB hd =>
    textS l b 0 c W (vt_in hd) (by have := hl.2; omega) (vt_pos hd) (own_cells (hs.below (Nat.le_refl _) hB))
  unfold txt
  generalize decide (VP l) = vb at hv hT
  cases vb
  · go_enter Tryd.func4, Tryd.ntmps4
    go_wp2_with (go_at_call 8; refine hv.mono ?_; rintro e W1 ⟨rfl, b1⟩)
    go_ret
    exact ⟨rfl, b1⟩
  · generalize (⟨(pT l l.length).toArray⟩ : ByteArray) = tl at hT
    rw [if_pos rfl]
    go_enter Tryd.func4, Tryd.ntmps4
    go_wp2_with (go_at_call 8; refine hv.mono ?_)
    first | (rintro e W1 rfl hB1) | (rintro e W1 ⟨rfl, hB1⟩)
    have hT1 := hT W1 hB1 trivial
    go_wp2_with (go_at_call 9; refine hT1.mono ?_)
    first | (rintro e W2 rfl hB2) | (rintro e W2 ⟨rfl, hB2⟩)
    go_wp2
    go_ret
    exact ⟨rfl, hB1.trans (hB2.mono hB1.size)⟩
theorem implCall {l : List Int} {b c : Nat} {w : World} (hl : LH l) (ht : PowIs w) (hg : ∃ g, Tryd.prog.globalNamed "internal/strconv.uint64pow10" = some g ∧ g < w.heap.size) (hs : SliceIs w [.i64] l (.slice (some ⟨b, 0, none⟩) l.length c)) :
    Calls Tryd.prog 6 #[.slice (some ⟨b, 0, none⟩) l.length c] w fun e w' => e = .returned (.string (txt l)) ∧ Below w.heap.size w w' :=
  walkI l b 0 c w (decide (VP l)) vt_in vt_pos (by have := hl.2; omega) ht hg (own_cells hs) (vb_call s10 zVP' rfl rfl rfl hl hs)
set_option maxRecDepth 1000000 in
set_option maxHeartbeats 1000000 in
theorem law_walk {l : List Int} {v : Value} {w : World} (hl : (∀ x ∈ l, I64 x)) (hs : SliceIs w [.i64] l v) (ht : PowIs w) (hg : ∃ g, Tryd.prog.globalNamed "internal/strconv.uint64pow10" = some g ∧ g < w.heap.size) :
    Calls Tryd.prog 3 #[v] w fun e w' => e = .returned (.bool true) ∧ Below w.heap.size w w' := by
  obtain ⟨g, hg1, hg2⟩ := hg
  obtain ⟨ao, n, cp, hve, hn⟩ : ∃ (ao : Option Addr) (n cp : Nat), v = .slice ao n cp ∧ n = l.length := by
    obtain ⟨a, n, cp, rfl, hn, _⟩ := hs
    exact ⟨_, n, cp, rfl, by simpa using hn⟩
  have hlB : ∀ W : World, (Builtin.len_ #[22] 3 #[v]).run Tryd.prog W = .ok (.int .i64 n) W := fun W => by rw [hve]; rfl
  clear hve
  by_cases hbig : 1048576 < n
  · have hb2 : (1048576 : Int) < (n : Int) := by omega
    clear hs hn
    go_enter Tryd.func3, Tryd.ntmps3
    go_wp2
    go_ret
    exact ⟨rfl, Below.refl _ _⟩
  · have hb2 : ¬ (1048576 : Int) < (n : Int) := by omega
    have hL : LH l := ⟨hl, by omega⟩
    clear hbig hn hl
    go_enter Tryd.func3, Tryd.ntmps3
    go_wp2_with (go_at_call 5; refine (copyCall hL hs).mono ?_)
    first | (rintro e W1 b1 c1 rfl hB1 s1) | (rintro e W1 ⟨b1, c1, rfl, hB1, s1⟩)
    have z1 := hB1.size
    have sp := specCall hL s1
    have im : ∀ (b c : Nat) (W : World), Below w.heap.size w W → SliceIs W [.i64] l (.slice (some ⟨b, 0, none⟩) l.length c) → Calls Tryd.prog 6 #[.slice (some ⟨b, 0, none⟩) l.length c] W fun e w' => e = .returned (.string (txt l)) ∧ Below W.heap.size W w' := fun b c W hB hS =>
      implCall hL (var?_below hB hg1 hg2 ht) ⟨g, hg1, by have := hB.size; omega⟩ hS
    generalize txt l = tl at sp im
    go_wp2_with (go_at_call 4; refine sp.mono ?_)
    first | (rintro e W2 rfl hB2) | (rintro e W2 ⟨rfl, hB2⟩)
    have k2 : Below w.heap.size w W2 := hB1.trans (hB2.mono z1)
    have z2 := k2.size
    go_wp2_with (go_at_call 5; refine (copyCall hL (hs.below (Nat.le_refl _) k2)).mono ?_)
    first | (rintro e W3 b3 c3 rfl hB3 s3) | (rintro e W3 ⟨b3, c3, rfl, hB3, s3⟩)
    have k3 : Below w.heap.size w W3 := k2.trans (hB3.mono z2)
    have z3 := k3.size
    have im3 := im b3 c3 W3 k3 s3
    go_wp2_with (go_at_call 6; refine im3.mono ?_)
    first | (rintro e W4 rfl hB4) | (rintro e W4 ⟨rfl, hB4⟩)
    have k4 : Below w.heap.size w W4 := k3.trans (hB4.mono z3)
    have z4 := k4.size
    have s4 := s3.below (Nat.le_refl _) hB4
    go_wp2_with (go_at_call 5; refine (copyCall hL (hs.below (Nat.le_refl _) k4)).mono ?_)
    first | (rintro e W5 b5 c5 rfl hB5 s5) | (rintro e W5 ⟨b5, c5, rfl, hB5, s5⟩)
    have k5 : Below w.heap.size w W5 := k4.trans (hB5.mono z4)
    have z5 := k5.size
    have s45 := s4.below (Nat.le_refl _) hB5
    go_wp2_with (go_at_call 7; refine (eqCall hL s45 s5).mono ?_)
    first | (rintro e W6 rfl hB6) | (rintro e W6 ⟨rfl, hB6⟩)
    go_wp2
    go_ret
    exact ⟨rfl, k5.trans (hB6.mono z5)⟩
end Go.Proofs.YtelfpnkhdaaeoaaDoor.Sx
