/-
  Trees that are made: echoes, opposites and halves; the laws.
-/
import Derived.Test.YtickjfclmoecpaaQ3
namespace Go.Proofs.Ytickjfclmoecpaa.Sx
open Go Go.RowKit
set_option linter.unusedVariables false
set_option linter.unusedSimpArgs false

theorem qAsk : CQ 52 s52 :=
  k52 tbQ noI noM prQ trivial trivial rfl trivial trivial (fun _ _ h _ => h) fun a b c _ _ _ => by
    unfold p52; rfl
theorem qTell : CQ 53 s53 :=
  k53 tbQ noI noM prQ trivial trivial rfl trivial trivial (fun _ _ h _ => h) fun a b _ _ _ => by
    unfold p53; rfl
theorem forkAskT {a b c v0 v1 v2 v3 v4 : Int} (h : [v0, v1, v2, v3, v4] = tbQ.out 52 5 [a, b, c]) (hr : allHas ((resKds s52).map Kd.iv) [1, 0, a, b, c]) : [v0, v1, v2, v3, v4] = [1, 0, a, b, c] :=
  outN (T := tbQ) (F := askF) (s := s52) rfl rfl rfl rfl h hr
theorem forkTellT {d n v0 v1 v2 v3 v4 : Int} (h : [v0, v1, v2, v3, v4] = tbQ.out 53 5 [d, n]) (hr : allHas ((resKds s53).map Kd.iv) [2, d, n, 0, 0]) : [v0, v1, v2, v3, v4] = [2, d, n, 0, 0] :=
  outN (T := tbQ) (F := tellF) (s := s53) rfl rfl rfl rfl h hr
theorem qCopies : CTL Try.prog tbQ.fns (presQ prQ) 51 s51 := by
  refine k51 tbQ noI noM prQ trivial trivial trivial trivial (fun _ _ h _ => h) fun a b c t _ _ _ => ?_
  unfold p51
  have hres : tbQ.fns 51 [a, b, c, t] [] = cpF [a, b, c, t] [] := Tab.fns_ll rfl rfl _ _
  rw [hres]
  exact ⟨rfl, fun _ => ⟨rfl, fun _ => ⟨rfl, fun _ => ⟨by simp, fun _ => rfl⟩⟩⟩⟩
theorem cpT {a b c t v : Int} {o : List Int} (h : ([v], [o]) = tbQ.fns 51 [a, b, c, t] []) : v = 0 ∧ o = tells a b c t := by
  have hres : tbQ.fns 51 [a, b, c, t] [] = cpF [a, b, c, t] [] := Tab.fns_ll rfl rfl _ _
  rw [hres] at h
  simpa [cpF] using h
theorem qEchoS : CTL Try.prog tbQ.fns (presQ prQ) 22 s22 := by
  refine k22 tbQ noI noM prQ trivial trivial trivial trivial (by exact ⟨⟨qCopies, fun _ _ _ => trivial⟩, trivial⟩) (fun _ _ h _ => h) fun _ _ _ _ => ?_
  unfold p22
  have hres : tbQ.fns 22 [] [] = ([0], [echoL]) := Tab.fns_ll (f := cstF echoL) rfl rfl _ _
  rw [hres]
  intro v o _ _ h
  obtain ⟨rfl, rfl⟩ := cpT h
  exact ⟨fun h => absurd h (by decide), fun _ => ⟨⟨by decide, by decide⟩, fun _ => ⟨⟨by decide, by decide⟩, fun _ => rfl⟩⟩⟩
theorem eEchoS {v : Int} {o : List Int} (h : ([v], [o]) = tbQ.fns 22 [] []) : v = 0 ∧ o = echoL := by
  have hres : tbQ.fns 22 [] [] = ([0], [echoL]) := Tab.fns_ll (f := cstF echoL) rfl rfl _ _
  rw [hres] at h
  simpa using h
theorem eEchoI {v : Int} {o : List Int} (h : ([v], [o]) = tbQ.fns 23 [] []) : v = 0 ∧ o = echoL := by
  have hres : tbQ.fns 23 [] [] = ([0], [echoL]) := Tab.fns_ll (f := cstF echoL) rfl rfl _ _
  rw [hres] at h
  simpa using h
theorem qNegS : CTL Try.prog tbQ.fns (presQ prQ) 26 s26 := by
  refine k26 tbQ noI noM prQ trivial trivial trivial trivial (by exact ⟨⟨qCopies, fun _ _ _ => trivial⟩, trivial⟩) (fun _ _ h _ => h) fun _ _ _ _ => ?_
  unfold p26
  have hres : tbQ.fns 26 [] [] = ([0], [negL]) := Tab.fns_ll (f := cstF negL) rfl rfl _ _
  rw [hres]
  intro v o _ _ h
  obtain ⟨rfl, rfl⟩ := cpT h
  exact ⟨fun h => absurd h (by decide), fun _ => ⟨⟨by decide, by decide⟩, fun _ => ⟨⟨by decide, by decide⟩, fun _ => rfl⟩⟩⟩
theorem eNegS {v : Int} {o : List Int} (h : ([v], [o]) = tbQ.fns 26 [] []) : v = 0 ∧ o = negL := by
  have hres : tbQ.fns 26 [] [] = ([0], [negL]) := Tab.fns_ll (f := cstF negL) rfl rfl _ _
  rw [hres] at h
  simpa using h
theorem eNegI {v : Int} {o : List Int} (h : ([v], [o]) = tbQ.fns 27 [] []) : v = 0 ∧ o = negL := by
  have hres : tbQ.fns 27 [] [] = ([0], [negL]) := Tab.fns_ll (f := cstF negL) rfl rfl _ _
  rw [hres] at h
  simpa using h
theorem qHalfS : CTL Try.prog tbQ.fns (presQ prQ) 28 s28 := by
  refine k28 tbQ noI noM prQ trivial trivial trivial trivial (by exact ⟨⟨qCopies, fun _ _ _ => trivial⟩, trivial⟩) (fun _ _ h _ => h) fun _ _ _ _ => ?_
  unfold p28
  have hres : tbQ.fns 28 [] [] = ([0], [halfL]) := Tab.fns_ll (f := cstF halfL) rfl rfl _ _
  rw [hres]
  intro v o _ _ h
  obtain ⟨rfl, rfl⟩ := cpT h
  exact ⟨fun h => absurd h (by decide), fun _ => ⟨⟨by decide, by decide⟩, fun _ => ⟨⟨by decide, by decide⟩, fun _ => rfl⟩⟩⟩
theorem eHalfS {v : Int} {o : List Int} (h : ([v], [o]) = tbQ.fns 28 [] []) : v = 0 ∧ o = halfL := by
  have hres : tbQ.fns 28 [] [] = ([0], [halfL]) := Tab.fns_ll (f := cstF halfL) rfl rfl _ _
  rw [hres] at h
  simpa using h
theorem eHalfI {v : Int} {o : List Int} (h : ([v], [o]) = tbQ.fns 29 [] []) : v = 0 ∧ o = halfL := by
  have hres : tbQ.fns 29 [] [] = ([0], [halfL]) := Tab.fns_ll (f := cstF halfL) rfl rfl _ _
  rw [hres] at h
  simpa using h
theorem qEchoI : CTL Try.prog tbQ.fns (presQ prQ) 23 s23 := by
  refine k23 tbQ noI noM prQ (by exact ⟨rfl, rfl, trivial⟩) (by exact ⟨fun _ _ _ => trivial, fun _ _ _ => trivial, trivial⟩) (by exact ⟨qAsk, qTell, trivial⟩) trivial (fun _ _ h _ => h) fun _ _ _ _ => ?_
  unfold p23
  have hres : tbQ.fns 23 [] [] = ([0], [echoL]) := Tab.fns_ll (f := cstF echoL) rfl rfl _ _
  rw [hres]
  intro v0 v1 v2 v3 v4 h0
  have h0 := forkAskT h0 ⟨⟨by decide, by decide⟩, ⟨by decide, by decide⟩, ⟨by decide, by decide⟩, ⟨by decide, by decide⟩, ⟨by decide, by decide⟩, trivial⟩
  simp only [List.cons.injEq, and_true] at h0
  obtain ⟨rfl, rfl, rfl, rfl, rfl⟩ := h0
  intro v5 v6 v7 v8 v9 h1
  have h1 := forkTellT h1 ⟨⟨by decide, by decide⟩, ⟨by decide, by decide⟩, ⟨by decide, by decide⟩, ⟨by decide, by decide⟩, ⟨by decide, by decide⟩, trivial⟩
  simp only [List.cons.injEq, and_true] at h1
  obtain ⟨rfl, rfl, rfl, rfl, rfl⟩ := h1
  intro v10 v11 v12 v13 v14 h2
  have h2 := forkTellT h2 ⟨⟨by decide, by decide⟩, ⟨by decide, by decide⟩, ⟨by decide, by decide⟩, ⟨by decide, by decide⟩, ⟨by decide, by decide⟩, trivial⟩
  simp only [List.cons.injEq, and_true] at h2
  obtain ⟨rfl, rfl, rfl, rfl, rfl⟩ := h2
  intro v15 v16 v17 v18 v19 h3
  have h3 := forkTellT h3 ⟨⟨by decide, by decide⟩, ⟨by decide, by decide⟩, ⟨by decide, by decide⟩, ⟨by decide, by decide⟩, ⟨by decide, by decide⟩, trivial⟩
  simp only [List.cons.injEq, and_true] at h3
  obtain ⟨rfl, rfl, rfl, rfl, rfl⟩ := h3
  exact ⟨by simp, fun _ => rfl⟩
theorem qNegI : CTL Try.prog tbQ.fns (presQ prQ) 27 s27 := by
  refine k27 tbQ noI noM prQ (by exact ⟨rfl, rfl, trivial⟩) (by exact ⟨fun _ _ _ => trivial, fun _ _ _ => trivial, trivial⟩) (by exact ⟨qAsk, qTell, trivial⟩) trivial (fun _ _ h _ => h) fun _ _ _ _ => ?_
  unfold p27
  have hres : tbQ.fns 27 [] [] = ([0], [negL]) := Tab.fns_ll (f := cstF negL) rfl rfl _ _
  rw [hres]
  intro v0 v1 v2 v3 v4 h0
  have h0 := forkAskT h0 ⟨⟨by decide, by decide⟩, ⟨by decide, by decide⟩, ⟨by decide, by decide⟩, ⟨by decide, by decide⟩, ⟨by decide, by decide⟩, trivial⟩
  simp only [List.cons.injEq, and_true] at h0
  obtain ⟨rfl, rfl, rfl, rfl, rfl⟩ := h0
  intro v5 v6 v7 v8 v9 h1
  have h1 := forkTellT h1 ⟨⟨by decide, by decide⟩, ⟨by decide, by decide⟩, ⟨by decide, by decide⟩, ⟨by decide, by decide⟩, ⟨by decide, by decide⟩, trivial⟩
  simp only [List.cons.injEq, and_true] at h1
  obtain ⟨rfl, rfl, rfl, rfl, rfl⟩ := h1
  intro v10 v11 v12 v13 v14 h2
  have h2 := forkTellT h2 ⟨⟨by decide, by decide⟩, ⟨by decide, by decide⟩, ⟨by decide, by decide⟩, ⟨by decide, by decide⟩, ⟨by decide, by decide⟩, trivial⟩
  simp only [List.cons.injEq, and_true] at h2
  obtain ⟨rfl, rfl, rfl, rfl, rfl⟩ := h2
  intro v15 v16 v17 v18 v19 h3
  have h3 := forkTellT h3 ⟨⟨by decide, by decide⟩, ⟨by decide, by decide⟩, ⟨by decide, by decide⟩, ⟨by decide, by decide⟩, ⟨by decide, by decide⟩, trivial⟩
  simp only [List.cons.injEq, and_true] at h3
  obtain ⟨rfl, rfl, rfl, rfl, rfl⟩ := h3
  exact ⟨by simp, fun _ => rfl⟩
theorem qHalfI : CTL Try.prog tbQ.fns (presQ prQ) 29 s29 := by
  refine k29 tbQ noI noM prQ (by exact ⟨rfl, rfl, trivial⟩) (by exact ⟨fun _ _ _ => trivial, fun _ _ _ => trivial, trivial⟩) (by exact ⟨qTell, qAsk, trivial⟩) trivial (fun _ _ h _ => h) fun _ _ _ _ => ?_
  unfold p29
  have hres : tbQ.fns 29 [] [] = ([0], [halfL]) := Tab.fns_ll (f := cstF halfL) rfl rfl _ _
  rw [hres]
  intro v0 v1 v2 v3 v4 h0
  have h0 := forkTellT h0 ⟨⟨by decide, by decide⟩, ⟨by decide, by decide⟩, ⟨by decide, by decide⟩, ⟨by decide, by decide⟩, ⟨by decide, by decide⟩, trivial⟩
  simp only [List.cons.injEq, and_true] at h0
  obtain ⟨rfl, rfl, rfl, rfl, rfl⟩ := h0
  intro v5 v6 v7 v8 v9 h1
  have h1 := forkAskT h1 ⟨⟨by decide, by decide⟩, ⟨by decide, by decide⟩, ⟨by decide, by decide⟩, ⟨by decide, by decide⟩, ⟨by decide, by decide⟩, trivial⟩
  simp only [List.cons.injEq, and_true] at h1
  obtain ⟨rfl, rfl, rfl, rfl, rfl⟩ := h1
  intro v10 v11 v12 v13 v14 h2
  have h2 := forkTellT h2 ⟨⟨by decide, by decide⟩, ⟨by decide, by decide⟩, ⟨by decide, by decide⟩, ⟨by decide, by decide⟩, ⟨by decide, by decide⟩, trivial⟩
  simp only [List.cons.injEq, and_true] at h2
  obtain ⟨rfl, rfl, rfl, rfl, rfl⟩ := h2
  intro v15 v16 v17 v18 v19 h3
  have h3 := forkTellT h3 ⟨⟨by decide, by decide⟩, ⟨by decide, by decide⟩, ⟨by decide, by decide⟩, ⟨by decide, by decide⟩, ⟨by decide, by decide⟩, trivial⟩
  simp only [List.cons.injEq, and_true] at h3
  obtain ⟨rfl, rfl, rfl, rfl, rfl⟩ := h3
  intro v20 v21 v22 v23 v24 h4
  have h4 := forkTellT h4 ⟨⟨by decide, by decide⟩, ⟨by decide, by decide⟩, ⟨by decide, by decide⟩, ⟨by decide, by decide⟩, ⟨by decide, by decide⟩, trivial⟩
  simp only [List.cons.injEq, and_true] at h4
  obtain ⟨rfl, rfl, rfl, rfl, rfl⟩ := h4
  exact ⟨by simp, fun _ => rfl⟩
theorem fEcho : CQ 6 s6 := by
  refine k6 tbQ noI noM prQ (by exact ⟨rfl, rfl, trivial⟩) (by exact ⟨fun _ _ _ => trivial, fun h => (by cases h), trivial⟩) rfl (by exact ⟨qEqT, qHeldT, trivial⟩) trivial
    (by exact ⟨⟨qEchoS, fun _ _ _ => trivial⟩, ⟨qEchoI, fun _ _ _ => trivial⟩, trivial⟩) (by exact ⟨⟨qMarkT, fun h => (by cases h)⟩, trivial⟩) (fun _ _ h _ => h) fun _ _ _ _ => ?_
  rw [show (fun (ys : List Int) (_ : List (List Int)) => ys = tbQ.app 6 [] []) = fun ys _ => ys = [1] from rfl]
  simp only [p6, decide_eq_true_eq, decide_eq_false_iff_not, Bool.not_eq_true', Bool.not_eq_false']
  intro a l _ _ h0
  obtain ⟨rfl, rfl⟩ := eEchoS h0
  refine ⟨fun h => absurd h (by decide), fun _ b m _ _ h1 => ?_⟩
  obtain ⟨rfl, rfl⟩ := eEchoI h1
  have pm : preMk [1] [echoL] := ⟨⟨by decide, by decide⟩, by decide, by decide⟩
  have pk : preMk [1] [markL 1 echoL] := ⟨⟨by decide, by decide⟩, by rw [mark_len]; decide, by rw [mark_len]; decide⟩
  have hh : heldV 1 (markL 1 echoL) = 1 + (echoL.length : Int) := by
    unfold heldV
    rw [if_pos (held_mark 1 echoL), mark_len]
    decide
  have hpos : ¬ (1 + (echoL.length : Int)) < 0 := by decide
  refine ⟨fun h => absurd h (by decide), fun _ c hc => ⟨fun h => absurd (eqR hc) h, fun _ => ⟨pm, fun _ k o _ _ hk => ?_⟩⟩⟩
  obtain ⟨rfl, rfl⟩ := emT hk
  refine ⟨pk, fun _ q hq => ?_⟩
  have hq := ehT (by rw [mark_len]; decide) hq
  rw [hh] at hq
  subst hq
  refine ⟨fun h => absurd h hpos, fun _ => ⟨fun h => absurd rfl h, fun _ d r _ _ h2 => ?_⟩⟩
  obtain ⟨rfl, rfl⟩ := eEchoI h2
  refine ⟨fun h => absurd h (by decide), fun _ c' hc' => ⟨fun h => absurd (eqR hc') h, fun _ => ⟨pk, fun _ q' hq' => ?_⟩⟩⟩
  have hq' := ehT (by rw [mark_len]; decide) hq'
  rw [hh] at hq'
  subst hq'
  exact ⟨fun h => absurd h hpos, fun _ => ⟨fun h => absurd rfl h, fun _ => trivial⟩⟩
theorem fNeg : CQ 7 s7 := by
  refine k7 tbQ noI noM prQ (by exact ⟨rfl, rfl, trivial⟩) (by exact ⟨fun _ _ _ => trivial, fun h => (by cases h), trivial⟩) rfl (by exact ⟨qEqT, qHeldT, trivial⟩) trivial
    (by exact ⟨⟨qNegS, fun _ _ _ => trivial⟩, ⟨qNegI, fun _ _ _ => trivial⟩, trivial⟩) (by exact ⟨⟨qMarkT, fun h => (by cases h)⟩, trivial⟩) (fun _ _ h _ => h) fun _ _ _ _ => ?_
  rw [show (fun (ys : List Int) (_ : List (List Int)) => ys = tbQ.app 7 [] []) = fun ys _ => ys = [1] from rfl]
  simp only [p7, decide_eq_true_eq, decide_eq_false_iff_not, Bool.not_eq_true', Bool.not_eq_false']
  intro a l _ _ h0
  obtain ⟨rfl, rfl⟩ := eNegS h0
  refine ⟨fun h => absurd h (by decide), fun _ b m _ _ h1 => ?_⟩
  obtain ⟨rfl, rfl⟩ := eNegI h1
  have pm : preMk [1] [negL] := ⟨⟨by decide, by decide⟩, by decide, by decide⟩
  have pk : preMk [1] [markL 1 negL] := ⟨⟨by decide, by decide⟩, by rw [mark_len]; decide, by rw [mark_len]; decide⟩
  have hh : heldV 1 (markL 1 negL) = 1 + (negL.length : Int) := by
    unfold heldV
    rw [if_pos (held_mark 1 negL), mark_len]
    decide
  have hpos : ¬ (1 + (negL.length : Int)) < 0 := by decide
  refine ⟨fun h => absurd h (by decide), fun _ c hc => ⟨fun h => absurd (eqR hc) h, fun _ => ⟨pm, fun _ k o _ _ hk => ?_⟩⟩⟩
  obtain ⟨rfl, rfl⟩ := emT hk
  refine ⟨pk, fun _ q hq => ?_⟩
  have hq := ehT (by rw [mark_len]; decide) hq
  rw [hh] at hq
  subst hq
  refine ⟨fun h => absurd h hpos, fun _ => ⟨fun h => absurd rfl h, fun _ d r _ _ h2 => ?_⟩⟩
  obtain ⟨rfl, rfl⟩ := eNegI h2
  refine ⟨fun h => absurd h (by decide), fun _ c' hc' => ⟨fun h => absurd (eqR hc') h, fun _ => ⟨pk, fun _ q' hq' => ?_⟩⟩⟩
  have hq' := ehT (by rw [mark_len]; decide) hq'
  rw [hh] at hq'
  subst hq'
  exact ⟨fun h => absurd h hpos, fun _ => ⟨fun h => absurd rfl h, fun _ => trivial⟩⟩
theorem fHalf : CQ 8 s8 := by
  refine k8 tbQ noI noM prQ (by exact ⟨rfl, rfl, trivial⟩) (by exact ⟨fun _ _ _ => trivial, fun h => (by cases h), trivial⟩) rfl (by exact ⟨qEqT, qHeldT, trivial⟩) trivial
    (by exact ⟨⟨qHalfS, fun _ _ _ => trivial⟩, ⟨qHalfI, fun _ _ _ => trivial⟩, trivial⟩) (by exact ⟨⟨qMarkT, fun h => (by cases h)⟩, trivial⟩) (fun _ _ h _ => h) fun _ _ _ _ => ?_
  rw [show (fun (ys : List Int) (_ : List (List Int)) => ys = tbQ.app 8 [] []) = fun ys _ => ys = [1] from rfl]
  simp only [p8, decide_eq_true_eq, decide_eq_false_iff_not, Bool.not_eq_true', Bool.not_eq_false']
  intro a l _ _ h0
  obtain ⟨rfl, rfl⟩ := eHalfS h0
  refine ⟨fun h => absurd h (by decide), fun _ b m _ _ h1 => ?_⟩
  obtain ⟨rfl, rfl⟩ := eHalfI h1
  have pm : preMk [1] [halfL] := ⟨⟨by decide, by decide⟩, by decide, by decide⟩
  have pk : preMk [1] [markL 1 halfL] := ⟨⟨by decide, by decide⟩, by rw [mark_len]; decide, by rw [mark_len]; decide⟩
  have hh : heldV 1 (markL 1 halfL) = 1 + (halfL.length : Int) := by
    unfold heldV
    rw [if_pos (held_mark 1 halfL), mark_len]
    decide
  have hpos : ¬ (1 + (halfL.length : Int)) < 0 := by decide
  refine ⟨fun h => absurd h (by decide), fun _ c hc => ⟨fun h => absurd (eqR hc) h, fun _ => ⟨pm, fun _ k o _ _ hk => ?_⟩⟩⟩
  obtain ⟨rfl, rfl⟩ := emT hk
  refine ⟨pk, fun _ q hq => ?_⟩
  have hq := ehT (by rw [mark_len]; decide) hq
  rw [hh] at hq
  subst hq
  refine ⟨fun h => absurd h hpos, fun _ => ⟨fun h => absurd rfl h, fun _ d r _ _ h2 => ?_⟩⟩
  obtain ⟨rfl, rfl⟩ := eHalfI h2
  refine ⟨fun h => absurd h (by decide), fun _ c' hc' => ⟨fun h => absurd (eqR hc') h, fun _ => ⟨pk, fun _ q' hq' => ?_⟩⟩⟩
  have hq' := ehT (by rw [mark_len]; decide) hq'
  rw [hh] at hq'
  subst hq'
  exact ⟨fun h => absurd h hpos, fun _ => ⟨fun h => absurd rfl h, fun _ => trivial⟩⟩
end Go.Proofs.Ytickjfclmoecpaa.Sx
