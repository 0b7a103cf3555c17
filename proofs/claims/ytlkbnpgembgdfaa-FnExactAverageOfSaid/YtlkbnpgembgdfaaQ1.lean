/-
  The normal stream, by the code.
-/
import Derived.Test.YtlkbnpgembgdfaaP2
import Derived.Test.YtlkbnpgembgdfaaC1
namespace Go.Proofs.Ytlkbnpgembgdfaa.Sx
open Go Go.RowKit Go.Lib
set_option linter.unusedVariables false
set_option linter.unusedSimpArgs false

/-- How much of the head is left: what stands ahead of a place is what stands a part further. -/
def dn (D : List Int) (p : Nat) : Nat → Nat
  | 0 => 0
  | k + 1 => if D.getD k 0 = D.getD (k + p) 0 then dn D p k else k + 1
theorem dn_le (D : List Int) (p k : Nat) : dn D p k ≤ k := by
  induction k with
  | zero => exact Nat.le_refl _
  | succ k ih => unfold dn; split <;> omega
set_option maxRecDepth 1000000 in
set_option maxHeartbeats 8000000 in
theorem normalI (a b : List Int) (la : a.length ≤ 5000) (lb1 : 1 ≤ b.length) (lb : b.length ≤ 5000) (p : Nat) (hp : Per b p) (w : World) (v0 v1 : Value) (h0 : IsL .i8 w a v0) (h1 : IsL .i8 w b v1) (n0 : Nn v0) (n1 : Nn v1) :
    Calls Try.prog 41 #[.agg #[v0, v1]] w fun e w' => ∃ bb : Nat, e = .returned (.agg #[.slice (some ⟨bb, 0, none⟩) (dn (a ++ b) p a.length) (dn (a ++ b) p a.length), .slice (some ⟨bb, dn (a ++ b) p a.length, none⟩) p p]) ∧ Below w.heap.size w w' ∧
      Own2 .i8 w.heap.size w' ((a ++ b).take (dn (a ++ b) p a.length)) (((a ++ b).drop (dn (a ++ b) p a.length)).take p) (.slice (some ⟨bb, 0, none⟩) (dn (a ++ b) p a.length) (dn (a ++ b) p a.length)) (.slice (some ⟨bb, dn (a ++ b) p a.length, none⟩) p p) := by
  obtain ⟨p0, k0, rfl⟩ := h0.pform n0
  obtain ⟨p1, k1, rfl⟩ := h1.pform n1
  clear n0 n1
  obtain ⟨W, V, hW, hV, hB, x, y, zV, zW, _, _⟩ := twoBoxes w (.slice (some p0) a.length k0) (.slice (some p1) b.length k1)
  have i0 := h0.keep hB
  have i1 := h1.keep hB
  have per : Calls Try.prog 68 #[.slice (some p1) b.length k1] V fun e w' => e = .returned (.int .i64 p) ∧ ∃ q, w' = V.drewN q := by
    rcases i1 with ⟨h, _⟩ | ⟨bb, o, c, h, h2, h3⟩
    · cases h
    · cases h
      refine (periodI bb o k1 b V lb1 (by omega) h2 h3).mono ?_
      rintro e w' ⟨p', rfl, hp', q, hq⟩
      rw [hp'.uniq hp]
      exact ⟨rfl, q, hq⟩
  have c0 := x.c0
  have c1 := x.c1
  have X := Lib.hid x
  have Y := Lib.hid y
  have hlB2 : ∀ (s : Option Addr) (n k : Nat) (W : World), (Builtin.len_ #[22] 3 #[.slice s n k]).run Try.prog W = .ok (.int .i64 n) W := fun s n k W => rfl
  clear h0 h1 x y
  go_enter Try.func41, Try.ntmps41
  go_wp2_with (go_at_call 68; refine per.mono ?_)
  rintro e W1 ⟨rfl, q, rfl⟩
  have b1 : Below V.heap.size V (V.drewN q) := ⟨rfl, rfl, rfl, Nat.le_refl _, fun _ _ => rfl⟩
  have x := (show Bk V _ _ _ _ from X.out).keep b1
  have y := (show Bk V _ _ _ _ from Y.out).keep b1
  have i0 := i0.keep b1
  have i1 := i1.keep b1
  have hB1 := hB.trans (b1.mono hB.size)
  have PER := Lib.hid hp
  clear per hp X Y hW hV
  obtain ⟨W1, hW1⟩ : ∃ W1, V.drewN q = W1 := ⟨_, rfl⟩
  rw [hW1] at x y i0 i1 hB1
  have zV1 : V.heap.size = W1.heap.size := by rw [← hW1]; rfl
  rw [hW1]
  clear hW1 b1
  have c0 := x.c0
  have c1 := x.c1
  obtain ⟨W2, hW2, b2, g2⟩ := boxK W1 (.slice (some p0) a.length k0) (.slice (some p1) b.length k1) 22
  have con := concat8 W1.heap.size [a, b] W2 (parts2 (i0.keep b2) (i1.keep b2) g2) (by simp [tot]; omega) (by simp [tot]; omega) (by simp)
  have x := x.keep b2
  have y := y.keep b2
  have hB2 := hB1.trans (b2.mono hB1.size)
  have zz : W.heap.size < W2.heap.size := y.lt
  obtain ⟨n, hn⟩ : ∃ n, tot [a, b] = n := ⟨_, rfl⟩
  have hn2 : n = a.length + b.length := by rw [← hn]; simp [tot]
  rw [hn] at con
  simp only [List.flatten_cons, List.flatten_nil, List.append_nil, List.length_cons, List.length_nil, Nat.zero_add, Nat.reduceAdd] at con
  have CON := Lib.hid con
  have HN := Lib.hid hn2
  have hn16 : n ≤ 10000 := by omega
  have hpb : 1 ≤ p ∧ p ≤ b.length := ⟨PER.out.1, PER.out.2.1⟩
  have hpn : a.length + p ≤ n := by omega
  have ZV1 := Lib.hid zV1
  clear con g2 b2 hn hn2 i0 i1 hB hB1 zV1
  go_wp2_with (go_at_call 38; refine CON.out.mono ?_)
  rintro e W3 ⟨bb, cp, cs, ty, rfl, b3, hbb, h3, hcp, hcp2, hcs, hrow⟩
  have x := x.keep b3
  have y := y.keep b3
  have hB3 := hB2.trans (b3.mono hB2.size)
  have z3 := b3.size
  have c0 := x.c0
  have HROW := Lib.hid hrow
  have H3 := Lib.hid h3
  have HX := Lib.hid x
  have HY := Lib.hid y
  have HB3 := Lib.hid b3
  clear CON hrow h3 b3 c1 hW2 x y
  go_wp2
  go_loopw [5] (fun f wr => ∃ k : Nat, f = .int .i64 k ∧ k ≤ a.length ∧ Hid (dn (a ++ b) p a.length = dn (a ++ b) p k) ∧ ∃ q, wr = W3.drewN q) (fun f _ => (RowKit.intOf f).toNat)
  case atStart => exact ⟨a.length, rfl, Nat.le_refl _, rfl, 0, rfl⟩
  case round =>
    obtain ⟨k, rfl, hk, hdn, q2, rfl⟩ := hrel
    have fin : ∀ (k : Nat), k ≤ a.length → dn (a ++ b) p a.length = k → ∀ W4 q2, Below (W3.drewN q2).heap.size (W3.drewN q2) W4 → ∀ W9, W9.heap[bb]? = W4.heap[bb]? →
        Own2 .i8 w.heap.size W9 ((a ++ b).take (dn (a ++ b) p a.length)) (((a ++ b).drop (dn (a ++ b) p a.length)).take p) (.slice (some ⟨bb, 0, none⟩) k k) (.slice (some ⟨bb, k, none⟩) p p) := by
      intro k hk hd W4 q2 b4 W9 h9
      rw [hd]
      have hD : (a ++ b).length = n := by rw [List.length_append]; exact HN.out.symm
      have e1 : ((a ++ b).take k).length = k := by rw [List.length_take, hD]; omega
      have e2 : (((a ++ b).drop k).take p).length = p := by rw [List.length_take, List.length_drop, hD]; omega
      have hb9 : W9.heap[bb]? = some (.cells cs ty (0, 0)) := by rw [h9, b4.block _ (heap_lt H3.out)]; exact H3.out
      have hr : RowAt .i8 cs 0 ((a ++ b).take k ++ ((a ++ b).drop k).take p) := by
        have : (a ++ b).take k ++ ((a ++ b).drop k).take p ++ ((a ++ b).drop k).drop p = a ++ b := by
          rw [List.append_assoc, List.take_append_drop, List.take_append_drop]
        have h := HROW.out
        rw [← this] at h
        exact h.left
      have := own2_row (n := w.heap.size) (x := (a ++ b).take k) (y := ((a ++ b).drop k).take p) (by have := hB2.size; omega) hb9 (by rw [e1, e2]; omega) hr
      rw [e1, e2] at this
      exact this
    have FIN := Lib.hid fin
    have leave : ∀ (k q2 : Nat), k ≤ a.length → Calls Try.prog 39 #[.slice (some ⟨bb, 0, none⟩) n cp, .int .i64 k, .int .i64 ((k : Int) + p)] (W3.drewN q2) fun r w' => r = .returned (.agg #[.slice (some ⟨bb, 0, none⟩) k k, .slice (some ⟨bb, k, none⟩) p p]) ∧ Below (W3.drewN q2).heap.size (W3.drewN q2) w' := by
      intro k q2 hk
      have := cutS bb n cp k (k + p) (W3.drewN q2) (by omega) (by omega) hcp hcp2
      rw [Int.natCast_add, show k + p - k = p by omega] at this
      exact this
    clear fin
    have LV := Lib.hid leave
    clear leave
    have hbz : bb < W3.heap.size := heap_lt H3.out
    have done : ∀ (k : Nat), k ≤ a.length → dn (a ++ b) p a.length = k → ∀ W4 q2, Below (W3.drewN q2).heap.size (W3.drewN q2) W4 → ∃ W9, (W4.setCell ⟨W.heap.size, 0, none⟩ (.slice (some ⟨bb, 0, none⟩) k k)).setCell ⟨W.heap.size, 1, none⟩ (.slice (some ⟨bb, k, none⟩) p p) = W9 ∧ W9.cell? ⟨W.heap.size, 0, none⟩ = some (.slice (some ⟨bb, 0, none⟩) k k) ∧ W9.cell? ⟨W.heap.size, 1, none⟩ = some (.slice (some ⟨bb, k, none⟩) p p) ∧ Below w.heap.size w W9 ∧
        Own2 .i8 w.heap.size W9 ((a ++ b).take (dn (a ++ b) p a.length)) (((a ++ b).drop (dn (a ++ b) p a.length)).take p) (.slice (some ⟨bb, 0, none⟩) k k) (.slice (some ⟨bb, k, none⟩) p p) := by
      intro k hk hd W4 q2 b4
      have y4 := (show Bk (W3.drewN q2) W.heap.size _ _ _ from HY.out).keep b4
      obtain ⟨W9, hW9, e0, e1, r9, B9⟩ := stored y4 (.slice (some ⟨bb, 0, none⟩) k k) (.slice (some ⟨bb, k, none⟩) p p)
      have hBq : Below w.heap.size w (W3.drewN q2) := hB3.trans ⟨rfl, rfl, rfl, Nat.le_refl _, fun _ _ => rfl⟩
      exact ⟨W9, hW9, e0, e1, (hBq.trans (b4.mono hBq.size)).trans (B9 _ (by omega)), FIN.out k hk hd W4 q2 b4 W9 (r9 _ (by omega))⟩
    have DONE := Lib.hid done
    clear done
    cases k with
    | zero =>
      have HD : Hid (dn (a ++ b) p a.length = 0) := hdn.out
      have CT : Hid (∀ q, Calls Try.prog 39 #[.slice (some ⟨bb, 0, none⟩) n cp, .int .i64 0, .int .i64 p] (W3.drewN q) fun r w' => r = .returned (.agg #[.slice (some ⟨bb, 0, none⟩) 0 0, .slice (some ⟨bb, 0, none⟩) p p]) ∧ Below (W3.drewN q).heap.size (W3.drewN q) w') := fun q => by
        have := LV.out 0 q (Nat.zero_le _)
        rwa [show (((0 : Nat) : Int) + (p : Int)) = p by omega] at this
      go_wp2
      go_quiet (fail)
      go_wp2_with (go_at_call 39; refine (CT.out _).mono ?_)
      first | (rintro e W4 rfl b4) | (rintro e W4 ⟨rfl, b4⟩)
      have y4 := (show Bk (W3.drewN (q2 + nq)) W.heap.size _ _ _ from HY.out).keep b4
      have q0 := y4.c0
      have q1 := y4.c1
      have f0 := y4.f 0
      have f1 := y4.f 1
      go_wp2
      obtain ⟨W9, hW9, e0, e1, B9, O9⟩ := DONE.out 0 (by omega) HD.out W4 _ b4
      rw [hW9]
      refine bodyPost_ret (v := .agg #[.slice (some ⟨bb, 0, none⟩) 0 0, .slice (some ⟨bb, 0, none⟩) p p]) (by simp [results, Try.results41, go_sem, e0, e1]) rfl ?_
      exact ⟨bb, by rw [HD.out], B9, by rw [HD.out] at O9 ⊢; exact O9⟩
    | succ k =>
      have hD : (a ++ b).length = n := by rw [List.length_append]; exact HN.out.symm
      have hx := HROW.out k _ (getD_some (by omega))
      have hy := HROW.out (k + p) _ (getD_some (by omega))
      rw [Nat.zero_add] at hx hy
      have hcx : W3.cell? ⟨bb, k, none⟩ = some (.int .i8 ((a ++ b).getD k 0)) := by rw [Lib.cell_of_heap H3.out]; exact hx
      have hcy : W3.cell? ⟨bb, k + p, none⟩ = some (.int .i8 ((a ++ b).getD (k + p) 0)) := by rw [Lib.cell_of_heap H3.out]; exact hy
      have HSTEP := Lib.hid (show dn (a ++ b) p (k + 1) = if (a ++ b).getD k 0 = (a ++ b).getD (k + p) 0 then dn (a ++ b) p k else k + 1 from rfl)
      generalize (a ++ b).getD k 0 = u at hcx HSTEP
      generalize (a ++ b).getD (k + p) 0 = v at hcy HSTEP
      have hw1 : IntKind.i64.wrap (k : Int) = (k : Int) := by rw [IntKind.wrap_i64]; omega
      have hw2 : IntKind.i64.wrap ((k : Int) + p) = (k : Int) + p := by rw [IntKind.wrap_i64]; omega
      have hw3 : ((k : Int) + p).toNat = k + p := by omega
      have hb0 : (0 : Int) ≤ (k : Int) + p := by omega
      have hb1 : (k : Int) < n := by omega
      have hb2 : (k : Int) + p < n := by omega
      clear hx hy hD
      by_cases huv : u = v
      · subst huv
        go_wp2
        go_quiet (fail)
        clear hw1 hw2 hw3
        go_wp2
        go_roundw
        case rel => exact ⟨k, rfl, by omega, by
          have := hdn.out
          first | rw [HSTEP.out, if_pos rfl] at this | rw [HSTEP.out, if_pos trivial] at this
          exact this, _, rfl⟩
        case measure => simp [RowKit.intOf]
      · have HD : Hid (dn (a ++ b) p a.length = k + 1) := by
          have := hdn.out
          rw [HSTEP.out, if_neg huv] at this
          exact this
        have CT : Hid (∀ q, Calls Try.prog 39 #[.slice (some ⟨bb, 0, none⟩) n cp, .int .i64 ((k : Int) + 1), .int .i64 ((k : Int) + 1 + p)] (W3.drewN q) fun r w' => r = .returned (.agg #[.slice (some ⟨bb, 0, none⟩) (k + 1) (k + 1), .slice (some ⟨bb, k + 1, none⟩) p p]) ∧ Below (W3.drewN q).heap.size (W3.drewN q) w') := fun q => by
          have := LV.out (k + 1) q hk
          rwa [Int.natCast_add] at this
        have hne : (u == v) = false := by rw [beq_eq_false_iff_ne]; exact huv
        go_wp2
        go_quiet (fail)
        clear hw1 hw2 hw3
        go_wp2_with (go_at_call 39; refine (CT.out _).mono ?_)
        first | (rintro e W4 rfl b4) | (rintro e W4 ⟨rfl, b4⟩)
        have y4 := (show Bk (W3.drewN (q2 + nq)) W.heap.size _ _ _ from HY.out).keep b4
        have q0 := y4.c0
        have q1 := y4.c1
        have f0 := y4.f 0
        have f1 := y4.f 1
        go_wp2
        obtain ⟨W9, hW9, e0, e1, B9, O9⟩ := DONE.out (k + 1) (by omega) HD.out W4 _ b4
        rw [hW9]
        refine bodyPost_ret (v := .agg #[.slice (some ⟨bb, 0, none⟩) (k + 1) (k + 1), .slice (some ⟨bb, k + 1, none⟩) p p]) (by simp [results, Try.results41, go_sem, e0, e1]) rfl ?_
        exact ⟨bb, by rw [HD.out], B9, by rw [HD.out] at O9 ⊢; exact O9⟩
end Go.Proofs.Ytlkbnpgembgdfaa.Sx
