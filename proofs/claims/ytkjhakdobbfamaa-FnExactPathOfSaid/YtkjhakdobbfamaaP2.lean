/-
  Paths of ratios: both functions, and the law.
-/
import Derived.Test.YtkjhakdobbfamaaP1
namespace Go.Proofs.Ytkjhakdobbfamaa.Sx
open Go Go.RowKit
set_option linter.unusedVariables false
set_option linter.unusedSimpArgs false

theorem vT {p q v : Int} (hv : [v] = tbC.out 65 1 [p, q]) : v = if VR p q then 1 else 0 := by
  have hv := outN (T := tbC) (g := 65) (F := vrF) rfl rfl rfl rfl hv (bool_has _)
  simpa only [vrF, List.cons.injEq, and_true] using hv
theorem ordT {p q r s v : Int} (hv : [v] = tbC.out 67 1 [p, q, r, s]) : v = cmpI (W (p * s)) (W (r * q)) := by
  have hv := outN (T := tbC) (g := 67) (F := ordF) rfl rfl rfl rfl hv (cmp_has _ _)
  simpa only [ordF, List.cons.injEq, and_true] using hv
theorem ordT' {p q r s v : Int} (hv : [v] = tbC.out 64 1 [p, q, r, s]) : v = cmpI (W (p * s)) (W (r * q)) := by
  have hv := outN (T := tbC) (g := 64) (F := ordF) rfl rfl rfl rfl hv (cmp_has _ _)
  simpa only [ordF, List.cons.injEq, and_true] using hv
theorem h2 {x y : Int} (a : I64 x) (b : I64 y) : allHas [i64, i64] [x, y] := ⟨a, b, trivial⟩
theorem h4 {x y z u : Int} (a : I64 x) (b : I64 y) (c : I64 z) (d : I64 u) : allHas [i64, i64, i64, i64] [x, y, z, u] := ⟨a, b, c, d, trivial⟩
theorem cBt : CC 132 s132 :=
  k132 tbC noI noM prC trivial trivial rfl trivial trivial (fun _ _ h _ => h) fun a b c e _ _ _ => by
    unfold p132
    intro x hx y hy
    rw [hx, hy]
    rfl
theorem cMid : CC 68 s68 :=
  k68 tbC noI noM prC ⟨rfl, trivial⟩ ⟨fun _ _ _ => trivial, trivial⟩ rfl ⟨cBt, trivial⟩ trivial (fun _ _ h _ => h) fun a b c e _ _ _ => by
    unfold p68
    intro x y hxy
    exact outN (T := tbC) (g := 132) (F := btF) rfl rfl rfl rfl hxy (h2 (W_has _) (W_has _))
theorem midT {a b c e x y : Int} (h : [x, y] = tbC.out 68 2 [a, b, c, e]) : x = W (a + c) ∧ y = W (b + e) := by
  have h := outN (T := tbC) (g := 68) (F := btF) rfl rfl rfl rfl h (h2 (W_has _) (W_has _))
  simpa only [btF, List.cons.injEq, and_true] using h
theorem cBeh : CC 69 s69 :=
  k69 tbC noI noM prC ⟨rfl, trivial⟩ ⟨fun _ _ _ => trivial, trivial⟩ rfl ⟨cMid, trivial⟩ trivial (fun _ _ h _ => h) fun a b c e s _ _ _ => by
    simp only [p69, decide_eq_true_eq, decide_eq_false_iff_not]
    rw [show tbC.app 69 [a, b, c, e, s] [] = if s = 76 then [a, b, W (a + c), W (b + e)] else [W (a + c), W (b + e), c, e] from rfl]
    refine ⟨fun h x y hxy => ?_, fun h x y hxy => ?_⟩
    · obtain ⟨rfl, rfl⟩ := midT hxy
      rw [if_pos h]
    · obtain ⟨rfl, rfl⟩ := midT hxy
      rw [if_neg h]
theorem be_has {a b c e s : Int} (h : I64 a ∧ I64 b ∧ I64 c ∧ I64 e) : allHas [i64, i64, i64, i64] (beF [a, b, c, e, s]) := by
  simp only [beF]
  split
  · exact h4 h.1 h.2.1 (W_has _) (W_has _)
  · exact h4 (W_has _) (W_has _) h.2.2.1 h.2.2.2
theorem behT {a b c e s x y z u : Int} (hh : I64 a ∧ I64 b ∧ I64 c ∧ I64 e) (h : [x, y, z, u] = tbC.out 69 4 [a, b, c, e, s]) : [x, y, z, u] = if s = 76 then [a, b, W (a + c), W (b + e)] else [W (a + c), W (b + e), c, e] :=
  outN (T := tbC) (g := 69) (F := beF) rfl rfl rfl rfl h (be_has hh)
theorem cWh : CC 66 s66 :=
  k66 tbC noI noM prC trivial trivial rfl trivial trivial (fun _ _ h _ => h) fun _ _ _ _ => by
    unfold p66
    rfl

/-! ### The walk -/
theorem goP_stop {p q a b c e : Int} (h : ordV p q a b c e = 0) : ∀ f, goP p q f a b c e = some []
  | 0 => by simp only [goP, if_pos h]
  | f + 1 => by simp only [goP, if_pos h]
/-- What is left of the walk. -/
def Left (p q a b c e : Int) (o : List Int) : Prop := o.length ≤ 200 ∧ goP p q 200 0 1 1 0 = (goP p q (200 - o.length) a b c e).map (o ++ ·)
theorem left_end {p q a b c e : Int} {o : List Int} (h : Left p q a b c e o) (h0 : ordV p q a b c e = 0) : goP p q 200 0 1 1 0 = some o := by
  rw [h.2, goP_stop h0]; simp
theorem left_none {p q a b c e : Int} {o : List Int} (h : Left p q a b c e o) (h0 : ordV p q a b c e ≠ 0) (hl : o.length = 200) : goP p q 200 0 1 1 0 = none := by
  have e : goP p q 0 a b c e = none := by
    show (if ordV p q a b c e = 0 then some [] else none) = none
    rw [if_neg h0]
  rw [h.2, hl, Nat.sub_self, e]
  rfl
theorem left_step {p q a b c e : Int} {o : List Int} (h : Left p q a b c e o) (h0 : ordV p q a b c e ≠ 0) (hl : o.length ≠ 200) :
    (ordV p q a b c e < 0 → Left p q a b (W (a + c)) (W (b + e)) (o ++ [76])) ∧ (¬ ordV p q a b c e < 0 → Left p q (W (a + c)) (W (b + e)) c e (o ++ [82])) := by
  have h1 := h.1
  have e1 : 200 - o.length = (200 - (o.length + 1)) + 1 := by omega
  have h2 := h.2
  have e2 : ∀ f, goP p q (f + 1) a b c e = if ordV p q a b c e < 0 then (goP p q f a b (W (a + c)) (W (b + e))).map (76 :: ·) else (goP p q f (W (a + c)) (W (b + e)) c e).map (82 :: ·) := fun f => by
    show (if ordV p q a b c e = 0 then some [] else _) = _
    rw [if_neg h0]
  rw [e1, e2] at h2
  refine ⟨fun hn => ⟨by simp; omega, ?_⟩, fun hn => ⟨by simp; omega, ?_⟩⟩
  · rw [if_pos hn] at h2
    rw [h2, Option.map_map, List.length_append, List.length_singleton]
    congr 1
    funext l
    simp
  · rw [if_neg hn] at h2
    rw [h2, Option.map_map, List.length_append, List.length_singleton]
    congr 1
    funext l
    simp
def invP (_ : Nat) (ρ σ : Env) : Prop := match ρ.i, σ.i, σ.l with
  | p :: q :: _, [a, b, c, e], [o] => Left p q a b c e o
  | _, _, _ => False
def muP (_ : Nat) (_ σ : Env) : Nat := match σ.l with
  | [o] => 201 - o.length
  | _ => 0
theorem cmpI_neg {x y : Int} : cmpI x y < 0 ↔ x < y := by unfold cmpI; (repeat' split) <;> omega
theorem cPathS : CTS Try.prog tbC.fns (presQ prC) 18 s18 := by
  refine k18 tbC invP muP prC (by exact ⟨rfl, rfl, trivial⟩) (by exact ⟨fun _ _ _ => trivial, fun _ _ _ => trivial, trivial⟩) (by exact ⟨cRat, cOrd', trivial⟩) trivial (fun _ _ h _ => h) fun p q hx _ _ => ?_
  simp only [p18, decide_eq_true_eq, decide_eq_false_iff_not, Bool.not_eq_true', Bool.not_eq_false', true_and, forall_const]
  have hres : tbC.fns 18 [p, q] [] = pathF [p, q] [] := Tab.fns_ll rfl rfl _ _
  rw [hres]
  simp only [pathF]
  intro v hv
  rw [one01 (vrT hv)]
  refine ⟨fun h => by rw [if_neg h], fun h => ?_⟩
  rw [if_pos h]
  refine ⟨fun h0 => by rw [if_pos h0], fun h0 => ?_⟩
  rw [if_neg h0]
  refine ⟨⟨h4 (by omega) (by omega) (by omega) (by omega), (⟨by simp, by simp⟩ : Left p q 0 1 1 0 [])⟩, fun a b c e o hh _ hI => ?_⟩
  have hI : Left p q a b c e o := hI
  intro m hm k hk w hw
  subst hm hk
  have hw : w = ordV p q a b c e := ordT' hw
  subst hw
  refine ⟨fun hz => ?_, fun hz => ⟨fun hl => ?_, fun hl => ?_⟩⟩
  · rw [left_end hI hz]; rfl
  · rw [left_none hI hz (by omega)]; rfl
  · obtain ⟨s1, s2⟩ := left_step hI hz (by omega)
    have hle := hI.1
    refine ⟨fun hn => ⟨by simp; omega, fun _ => ⟨by simp; omega, fun _ => ⟨h4 hh.1 hh.2.1 (W_has _) (W_has _), s1 hn, ?_⟩⟩⟩, fun hn => ⟨by simp; omega, fun _ => ⟨by simp; omega, fun _ => ⟨h4 (W_has _) (W_has _) hh.2.2.1 hh.2.2.2.1, s2 hn, ?_⟩⟩⟩⟩
    · show 201 - (o ++ [76]).length < 201 - o.length
      simp; omega
    · show 201 - (o ++ [82]).length < 201 - o.length
      simp; omega
theorem side {p q a b c e v s : Int} (hv : v = ordV p q a b c e) (hz : ¬ v = 0) (hs : s = if 0 < v then 82 else 76) : (s = 76 ↔ ordV p q a b c e < 0) ∧ (¬ s = 76 → s = 82) := by
  subst hv
  split at hs <;> omega
theorem cPathI : CTS Try.prog tbC.fns (presQ prC) 20 s20 := by
  refine k20 tbC invP muP prC (by exact ⟨rfl, rfl, rfl, rfl, rfl, trivial⟩) (by exact ⟨fun _ _ _ => trivial, fun _ _ _ => trivial, fun _ _ _ => trivial, fun _ _ _ => trivial, fun _ _ _ => trivial, trivial⟩) (by exact ⟨cValidR, cWh, cMid, cOrd, cBeh, trivial⟩) trivial (fun _ _ h _ => h) fun p q hx _ _ => ?_
  simp only [p20, decide_eq_true_eq, decide_eq_false_iff_not, Bool.not_eq_true', Bool.not_eq_false', true_and, forall_const]
  have hres : tbC.fns 20 [p, q] [] = pathF [p, q] [] := Tab.fns_ll rfl rfl _ _
  rw [hres]
  simp only [pathF]
  intro v hv
  rw [one01 (vT hv)]
  refine ⟨fun h => by rw [if_neg h], fun h => ?_⟩
  rw [if_pos h]
  refine ⟨fun h0 => by rw [if_pos h0], fun h0 => ?_⟩
  rw [if_neg h0]
  intro a0 b0 c0 e0 hwh m k hmk w hw
  have hwh := outN (T := tbC) (g := 66) (F := whF) rfl rfl rfl rfl hwh (h4 (by omega) (by omega) (by omega) (by omega))
  simp only [whF, List.cons.injEq, and_true] at hwh
  obtain ⟨rfl, rfl, rfl, rfl⟩ := hwh
  obtain ⟨rfl, rfl⟩ := midT hmk
  have hw : w = ordV p q 0 1 1 0 := ordT hw
  have L0 : Left p q 0 1 1 0 [] := ⟨by simp, by simp⟩
  refine ⟨fun hz => ?_, fun hz s hs x y z u hxy => ?_⟩
  · rw [left_end L0 (by omega)]; rfl
  have sd := side hw hz hs
  have hxy := behT ⟨by omega, by omega, by omega, by omega⟩ hxy
  have st := left_step L0 (by omega) (by simp)
  have hb : allHas [i64, i64, i64, i64] [x, y, z, u] := by rw [hxy]; exact be_has (s := s) ⟨by omega, by omega, by omega, by omega⟩
  refine ⟨⟨hb, ?_⟩, ?_⟩
  · show Left p q x y z u [s]
    by_cases k : s = 76
    · rw [if_pos k] at hxy
      simp only [List.cons.injEq, and_true] at hxy
      obtain ⟨rfl, rfl, rfl, rfl⟩ := hxy
      have := st.1 (sd.1.1 k)
      rw [k]
      exact this
    · rw [if_neg k] at hxy
      simp only [List.cons.injEq, and_true] at hxy
      obtain ⟨rfl, rfl, rfl, rfl⟩ := hxy
      have := st.2 (fun e => k (sd.1.2 e))
      rw [sd.2 k]
      exact this
  clear hxy hb st sd hs hz hw L0
  intro a b c e o hh _ hI
  have hI : Left p q a b c e o := hI
  have hi : I64 a ∧ I64 b ∧ I64 c ∧ I64 e := ⟨hh.1, hh.2.1, hh.2.2.1, hh.2.2.2.1⟩
  intro m k hmk w hw
  obtain ⟨rfl, rfl⟩ := midT hmk
  have hw : w = ordV p q a b c e := ordT hw
  refine ⟨fun hz => ?_, fun hz => ⟨fun hl => ?_, fun hl s hs => ?_⟩⟩
  · rw [left_end hI (by omega)]; rfl
  · rw [left_none hI (by omega) (by omega)]; rfl
  · have hle := hI.1
    have sd := side hw hz hs
    obtain ⟨s1, s2⟩ := left_step hI (by omega) (by omega)
    refine ⟨by simp; omega, fun _ x y z u hxy => ⟨by simp; omega, fun _ => ?_⟩⟩
    have hxy := behT hi hxy
    have hb : allHas [i64, i64, i64, i64] [x, y, z, u] := by rw [hxy]; exact be_has hi
    refine ⟨hb, ?_, ?_⟩
    · show Left p q x y z u (o ++ [s])
      by_cases k : s = 76
      · rw [if_pos k] at hxy
        simp only [List.cons.injEq, and_true] at hxy
        obtain ⟨rfl, rfl, rfl, rfl⟩ := hxy
        rw [k]
        exact s1 (sd.1.1 k)
      · rw [if_neg k] at hxy
        simp only [List.cons.injEq, and_true] at hxy
        obtain ⟨rfl, rfl, rfl, rfl⟩ := hxy
        rw [sd.2 k]
        exact s2 (fun e => k (sd.1.2 e))
    · show 201 - (o ++ [s]).length < 201 - o.length
      simp; omega
theorem cToR : CC 19 s19 :=
  k19 tbC noI noM prC trivial trivial rfl trivial trivial (fun _ _ h _ => h) fun p q _ _ _ => by
    unfold p19
    rfl
theorem fPath : CC 4 s4 := by
  refine k4 tbC noI noM prC (by exact ⟨rfl, trivial⟩) (by exact ⟨fun _ _ _ => trivial, trivial⟩) rfl (by exact ⟨cToR, trivial⟩) trivial (by exact ⟨⟨cPathS, fun _ _ _ => trivial⟩, ⟨cPathI, fun _ _ _ => trivial⟩, trivial⟩) (fun _ _ h _ => h) fun p q hx _ _ => ?_
  simp only [p4, decide_eq_true_eq, decide_eq_false_iff_not, Bool.not_eq_true', Bool.not_eq_false']
  rw [show tbC.app 4 [p, q] [] = [1] from rfl]
  have hS : tbC.fns 18 [p, q] [] = pathF [p, q] [] := Tab.fns_ll rfl rfl _ _
  have hI : tbC.fns 20 [p, q] [] = pathF [p, q] [] := Tab.fns_ll rfl rfl _ _
  have hxx : allHas [i64, i64] [p, q] := hx
  intro a b hab
  have hab := outN (T := tbC) (g := 19) (F := idF) rfl rfl rfl rfl hab hxx
  simp only [idF, List.cons.injEq, and_true] at hab
  obtain ⟨rfl, rfl⟩ := hab
  intro v l _ _ h1 c d hcd
  have hcd := outN (T := tbC) (g := 19) (F := idF) rfl rfl rfl rfl hcd hxx
  simp only [idF, List.cons.injEq, and_true] at hcd
  obtain ⟨rfl, rfl⟩ := hcd
  intro v' l' _ _ h2
  rw [hS] at h1
  rw [hI, ← h1] at h2
  simp only [Prod.mk.injEq, List.cons.injEq, and_true] at h2
  obtain ⟨rfl, rfl⟩ := h2
  exact ⟨fun _ => ⟨fun h => absurd rfl h, fun _ => rfl⟩, fun h => absurd rfl h⟩
end Go.Proofs.Ytkjhakdobbfamaa.Sx
