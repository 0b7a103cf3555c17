/-
  Valid ratios; where a path goes on.
-/
import Derived.Test.YtlgccppfjclncaaDoorU1
namespace Go.Proofs.YtlgccppfjclncaaDoor.Sx
open Go Go.RowKit
set_option linter.unusedVariables false
set_option linter.unusedSimpArgs false

theorem valid_iff {p q : Int} : mkRF [p, q] = [p, q, 0] ↔ VR p q := by
  constructor
  · intro h
    simp only [mkRF] at h
    split at h
    · split at h
      · simp at h
      · rename_i h18 h0
        simp only [ratF] at h
        split at h
        · rename_i h31
          simp only [List.cons.injEq, and_true] at h
          obtain ⟨a, b, e1, e2, hb, hg, ta, tb, _⟩ := ratio_div (p := p) (q := q) h0
          rw [ta, tb] at h h31
          obtain ⟨rfl, rfl⟩ := h
          exact ⟨⟨by omega, h31.2⟩, h31.1, hg⟩
        · simp at h
    · simp at h
  · rintro ⟨⟨q1, q2⟩, p1, hg⟩
    have hs : sgn p q = 1 := by
      unfold sgn
      rw [if_neg (by omega), hg]; rfl
    simp only [mkRF, ratF, hs, Int.tdiv_one]
    rw [if_pos ⟨⟨by omega, by omega⟩, by omega, by omega⟩, if_neg (by omega), if_pos ⟨p1, q2⟩]
theorem cValid : CC 10 s10 := by
  refine k10 tbC noI noM prC ⟨rfl, trivial⟩ ⟨fun _ _ _ => trivial, trivial⟩ rfl ⟨cMakeR, trivial⟩ trivial (fun _ _ h _ => h) fun p q hx _ _ => ?_
  simp only [p10, decide_eq_true_eq, decide_eq_false_iff_not, Bool.and_eq_true, forall_eq]
  intro v2 v3 v4 hv
  have hv := outN (T := tbC) (g := 19) (s := s19) (F := mkRF) rfl rfl rfl rfl hv mkR_has
  have key := valid_iff (p := p) (q := q)
  rw [← hv] at key
  simp only [List.cons.injEq, and_true] at key
  show (v4 = 0 → [if v2 = p ∧ v3 = q then (1 : Int) else 0] = [if VR p q then (1 : Int) else 0]) ∧ (¬ v4 = 0 → [0] = [if VR p q then (1 : Int) else 0])
  refine ⟨fun h => ?_, fun h => ?_⟩
  · by_cases k : v2 = p ∧ v3 = q
    · rw [if_pos k, if_pos (key.1 ⟨k.1, k.2, h⟩)]
    · rw [if_neg k, if_neg fun e => k ⟨(key.2 e).1, (key.2 e).2.1⟩]
  · rw [if_neg fun e => h (key.2 e).2.2]
theorem validE (p q : Int) (P : Int → Prop) : (∀ v : Int, [v] = tbC.out 10 1 [p, q] → P v) ↔ P (if VR p q then 1 else 0) := by
  have e : tbC.out 10 1 [p, q] = [if VR p q then (1 : Int) else 0] := outN (T := tbC) (g := 10) (s := s10) (F := vaF) rfl rfl rfl rfl rfl (bool_has _)
  rw [e]
  exact ⟨fun h => h _ rfl, fun h v hv => by simp only [List.cons.injEq, and_true] at hv; subst hv; exact h⟩
theorem cWhole : CC 8 s8 :=
  k8 tbC noI noM prC trivial trivial rfl trivial trivial (fun _ _ h _ => h) (by unfold p8; intros; rfl)
theorem cBtw : CC 20 s20 :=
  k20 tbC noI noM prC trivial trivial rfl trivial trivial (fun _ _ h _ => h) fun a b c d _ _ _ => by
    unfold p20
    rintro _ rfl _ rfl
    rfl
theorem w2_has (x y : Int) : allHas [i64, i64] [W x, W y] := ⟨W_has _, W_has _, trivial⟩
theorem btwE (a b c d : Int) (P : Int → Int → Prop) : (∀ v u : Int, [v, u] = tbC.out 20 2 [a, b, c, d] → P v u) ↔ P (W (a + c)) (W (b + d)) := by
  have e : tbC.out 20 2 [a, b, c, d] = [W (a + c), W (b + d)] := outN (T := tbC) (g := 20) (s := s20) (F := btwF) rfl rfl rfl rfl rfl (w2_has _ _)
  rw [e]
  exact ⟨fun h => h _ _ rfl, fun h v u hv => by simp only [List.cons.injEq, and_true] at hv; obtain ⟨rfl, rfl⟩ := hv; exact h⟩
theorem cMid : CC 11 s11 :=
  k11 tbC noI noM prC ⟨rfl, trivial⟩ ⟨fun _ _ _ => trivial, trivial⟩ rfl ⟨cBtw, trivial⟩ trivial (fun _ _ h _ => h) fun a b c d _ _ _ => by
    simp only [p11, btwE]
    rfl
theorem midE (a b c d : Int) (P : Int → Int → Prop) : (∀ v u : Int, [v, u] = tbC.out 11 2 [a, b, c, d] → P v u) ↔ P (W (a + c)) (W (b + d)) := by
  have e : tbC.out 11 2 [a, b, c, d] = [W (a + c), W (b + d)] := outN (T := tbC) (g := 11) (s := s11) (F := btwF) rfl rfl rfl rfl rfl (w2_has _ _)
  rw [e]
  exact ⟨fun h => h _ _ rfl, fun h v u hv => by simp only [List.cons.injEq, and_true] at hv; obtain ⟨rfl, rfl⟩ := hv; exact h⟩
theorem beh_has {a b c d x : Int} (hx : allHas [i64, i64, i64, i64] [a, b, c, d]) : allHas [i64, i64, i64, i64] (behF [a, b, c, d, x]) := by
  obtain ⟨h1, h2, h3, h4, _⟩ := hx
  simp only [behF]
  split
  · exact ⟨h1, h2, W_has _, W_has _, trivial⟩
  · exact ⟨W_has _, W_has _, h3, h4, trivial⟩
theorem cBeh : CC 9 s9 :=
  k9 tbC noI noM prC ⟨rfl, trivial⟩ ⟨fun _ _ _ => trivial, trivial⟩ rfl ⟨cMid, trivial⟩ trivial (fun _ _ h _ => h) fun a b c d x _ _ _ => by
    simp only [p9, midE, decide_eq_true_eq, decide_eq_false_iff_not]
    show (x = 76 → _ = behF [a, b, c, d, x]) ∧ (¬ x = 76 → _ = behF [a, b, c, d, x])
    refine ⟨fun h => ?_, fun h => ?_⟩
    · simp only [behF]; rw [if_pos h]
    · simp only [behF]; rw [if_neg h]
end Go.Proofs.YtlgccppfjclncaaDoor.Sx
