/-
  The laws of ratios and of machines' maps.
-/
import Derived.Test.YtaknnjlkpepgaaaR2
namespace Go.Proofs.Ytaknnjlkpepgaaa.Sx
open Go Go.RowKit
set_option linter.unusedVariables false

theorem cToR : CT Try.prog tbR.fns (pres prR) 18 s18 :=
  k18 tbR noI noM prR trivial trivial rfl trivial fun p q _ _ _ => rfl
theorem cToM : CT Try.prog tbR.fns (pres prR) 26 s26 :=
  k26 tbR noI noM prR trivial trivial rfl trivial fun a b c d _ _ _ _ _ => rfl
theorem cEqR : CT Try.prog tbR.fns (pres prR) 22 s22 :=
  k22 tbR noI noM prR trivial trivial rfl trivial fun p q r s _ _ _ _ _ => by
    unfold p22
    rw [show tbR.fn 22 [p, q, r, s] = [if p = r ∧ q = s then 1 else 0] from rfl]
    refine ⟨fun h => ?_, fun h => ⟨fun h2 => ?_, fun h2 => ?_⟩⟩
    · rw [if_neg (fun k => by simp [k.1] at h)]
    · rw [if_neg (fun k => by simp [k.2] at h2)]
    · rw [if_pos ⟨by simpa using h, by simpa using h2⟩]
theorem cEqM : CT Try.prog tbR.fns (pres prR) 34 s34 :=
  k34 tbR noI noM prR trivial trivial rfl trivial fun a b c d a' b' c' d' _ _ _ _ _ _ _ _ _ => by
    unfold p34
    rw [show tbR.fn 34 [a, b, c, d, a', b', c', d'] = [if a = a' ∧ b = b' ∧ c = c' ∧ d = d' then 1 else 0] from rfl]
    refine ⟨fun h => ?_, fun h => ⟨fun h2 => ?_, fun h2 => ⟨fun h3 => ?_, fun h3 => ⟨fun h4 => ?_, fun h4 => ?_⟩⟩⟩⟩
    · rw [if_neg (fun k => by simp [k.1] at h)]
    · rw [if_neg (fun k => by simp [k.2.1] at h2)]
    · rw [if_neg (fun k => by simp [k.2.2.1] at h3)]
    · rw [if_neg (fun k => by simp [k.2.2.2] at h4)]
    · rw [if_pos ⟨by simpa using h, by simpa using h2, by simpa using h3, by simpa using h4⟩]
theorem cmpR_has (p q r s : Int) : allHas [i64, i64] (cmpRF [p, q, r, s]) := by
  rw [show cmpRF [p, q, r, s] = if VR p q ∧ VR r s then ordF [p, q, r, s] ++ [0] else [0, 1] from rfl]
  split
  · have := cmpI_bd (W (p * s)) (W (r * q))
    exact ⟨(by show I64 (cmpI _ _); omega), (by omega : I64 0), trivial⟩
  · exact ⟨(by omega : I64 0), (by omega : I64 1), trivial⟩
theorem app_has (a b c d p q : Int) : allHas [i64, i64, i64] (appF [a, b, c, d, p, q]) := by
  rw [show appF [a, b, c, d, p, q] = if VM a b c d ∧ VR p q then mkRF [a * p + b * q, c * p + d * q] else [0, 0, 1] from rfl]
  split
  · exact mkR_has
  · exact ⟨(by omega : I64 0), (by omega : I64 0), (by omega : I64 1), trivial⟩
theorem has_app : ∀ {a b : List Iv} {xs ys : List Int}, allHas a xs → allHas b ys → allHas (a ++ b) (xs ++ ys)
  | [], _, [], _, _, h => h
  | [], _, _ :: _, _, h, _ => h.elim
  | _ :: _, _, [], _, h, _ => h.elim
  | _ :: _, _, _ :: _, _, h, k => ⟨h.1, has_app h.2 k⟩
theorem imgW_has (a b c d : Int) : allHas [i64, i64, i64, i64, i64] (imgWF [a, b, c, d]) := by
  rw [show imgWF [a, b, c, d] = if VM a b c d then imgF [a, b, c, d] ++ [0] else [0, 0, 0, 0, 1] from rfl]
  split
  · rename_i h
    exact has_app (img_has h) (b := [i64]) ⟨(by omega : I64 0), trivial⟩
  · exact ⟨(by omega : I64 0), (by omega : I64 0), (by omega : I64 0), (by omega : I64 0), (by omega : I64 1), trivial⟩
theorem last_has (l : List Int) (h : l.length = 4) : allHas [i64, i64, i64, i64, i64] (lastF l) := by
  match l, h with
  | [a, b, c, d], _ =>
    simp only [lastF]
    split
    · split
      · rename_i h
        exact ⟨(by show I64 _; omega), (by show I64 _; omega), (by show I64 _; omega), (by show I64 _; omega), (by omega : I64 0), trivial⟩
      · exact ⟨(by omega : I64 0), (by omega : I64 0), (by omega : I64 0), (by omega : I64 0), (by omega : I64 3), trivial⟩
    · exact ⟨(by omega : I64 0), (by omega : I64 0), (by omega : I64 0), (by omega : I64 0), (by omega : I64 4), trivial⟩
theorem comp_has (a b c d a' b' c' d' : Int) : allHas [i64, i64, i64, i64, i64] (compF [a, b, c, d, a', b', c', d']) := by
  rw [comp_def]
  split
  · refine last_has _ ?_
    simp only [timesF, redF]
    split <;> (simp only [flipF]; split <;> rfl)
  · exact ⟨(by omega : I64 0), (by omega : I64 0), (by omega : I64 0), (by omega : I64 0), (by omega : I64 1), trivial⟩

theorem cLawValidRatio : CT Try.prog tbR.fns (pres prR) 3 s3 :=
  k3 tbR noI noM prR ⟨rfl, rfl, rfl, trivial⟩ ⟨fun _ _ => trivial, fun _ _ => trivial, fun _ _ => trivial, trivial⟩ rfl ⟨cToR, cValidR', cValidR, trivial⟩ fun a b ha hb _ => by
    unfold p3
    rw [show tbR.fn 3 [a, b] = [1] from rfl]
    intro t0 t1 ht
    have ht := outT (T := tbR) (g := 18) rfl rfl (F := idF) rfl ht ⟨ha, hb, trivial⟩
    simp only [idF, List.cons.injEq, and_true] at ht
    obtain ⟨rfl, rfl⟩ := ht
    intro v0 hv
    have hv := outT (T := tbR) (g := 17) rfl rfl (F := vrF) rfl hv (bool_has _)
    intro t0 t1 ht
    have ht := outT (T := tbR) (g := 18) rfl rfl (F := idF) rfl ht ⟨ha, hb, trivial⟩
    simp only [idF, List.cons.injEq, and_true] at ht
    obtain ⟨rfl, rfl⟩ := ht
    intro z0 hz
    have hz := outT (T := tbR) (g := 19) rfl rfl (F := vrF) rfl hz (bool_has _)
    rw [← hv] at hz
    simp only [List.cons.injEq, and_true] at hz
    obtain rfl := hz
    exact ⟨fun h => by simp at h, fun _ => rfl⟩

theorem cLawMakeRatio : CT Try.prog tbR.fns (pres prR) 4 s4 :=
  k4 tbR noI noM prR ⟨rfl, rfl, rfl, trivial⟩ ⟨fun _ _ => trivial, fun _ _ => trivial, fun _ _ => trivial, trivial⟩ rfl ⟨cMakeR', cMakeR, cEqR, trivial⟩ fun a b ha hb _ => by
    unfold p4
    rw [show tbR.fn 4 [a, b] = [1] from rfl]
    intro v0 v1 v2 hv
    have hv := outT (T := tbR) (g := 20) rfl rfl (F := mkRF) rfl hv mkR_has
    intro z0 z1 z2 hz
    have hz := outT (T := tbR) (g := 21) rfl rfl (F := mkRF) rfl hz mkR_has
    rw [← hv] at hz
    simp only [List.cons.injEq, and_true] at hz
    obtain ⟨rfl, rfl, rfl⟩ := hz
    intro q hq
    have hq := outT (T := tbR) (g := 22) rfl rfl (F := eq2F) rfl hq (bool_has _)
    simp only [eq2F, and_self, if_true, List.cons.injEq, and_true] at hq
    subst hq
    refine ⟨fun _ => ?_, fun h => by simp at h⟩
    exact ⟨fun h => by simp at h, fun _ => rfl⟩

theorem cLawCompareRatios : CT Try.prog tbR.fns (pres prR) 5 s5 :=
  k5 tbR noI noM prR ⟨rfl, rfl, rfl, trivial⟩ ⟨fun _ _ => trivial, fun _ _ => trivial, fun _ _ => trivial, trivial⟩ rfl ⟨cToR, cCmpR', cCmpR, trivial⟩ fun a b c d ha hb hc hd _ => by
    unfold p5
    rw [show tbR.fn 5 [a, b, c, d] = [1] from rfl]
    intro t0 t1 ht
    have ht := outT (T := tbR) (g := 18) rfl rfl (F := idF) rfl ht ⟨ha, hb, trivial⟩
    simp only [idF, List.cons.injEq, and_true] at ht
    obtain ⟨rfl, rfl⟩ := ht
    intro t0 t1 ht
    have ht := outT (T := tbR) (g := 18) rfl rfl (F := idF) rfl ht ⟨hc, hd, trivial⟩
    simp only [idF, List.cons.injEq, and_true] at ht
    obtain ⟨rfl, rfl⟩ := ht
    intro v0 v1 hv
    have hv := outT (T := tbR) (g := 23) rfl rfl (F := cmpRF) rfl hv (cmpR_has _ _ _ _)
    intro t0 t1 ht
    have ht := outT (T := tbR) (g := 18) rfl rfl (F := idF) rfl ht ⟨ha, hb, trivial⟩
    simp only [idF, List.cons.injEq, and_true] at ht
    obtain ⟨rfl, rfl⟩ := ht
    intro t0 t1 ht
    have ht := outT (T := tbR) (g := 18) rfl rfl (F := idF) rfl ht ⟨hc, hd, trivial⟩
    simp only [idF, List.cons.injEq, and_true] at ht
    obtain ⟨rfl, rfl⟩ := ht
    intro z0 z1 hz
    have hz := outT (T := tbR) (g := 24) rfl rfl (F := cmpRF) rfl hz (cmpR_has _ _ _ _)
    rw [← hv] at hz
    simp only [List.cons.injEq, and_true] at hz
    obtain ⟨rfl, rfl⟩ := hz
    refine ⟨fun _ => ?_, fun h => by simp at h⟩
    exact ⟨fun h => by simp at h, fun _ => rfl⟩

theorem cLawValidMoebius : CT Try.prog tbR.fns (pres prR) 6 s6 :=
  k6 tbR noI noM prR ⟨rfl, rfl, rfl, trivial⟩ ⟨fun _ _ => trivial, fun _ _ => trivial, fun _ _ => trivial, trivial⟩ rfl ⟨cToM, cVMW', cVM, trivial⟩ fun a b c d ha hb hc hd _ => by
    unfold p6
    rw [show tbR.fn 6 [a, b, c, d] = [1] from rfl]
    intro t0 t1 t2 t3 ht
    have ht := outT (T := tbR) (g := 26) rfl rfl (F := idF) rfl ht ⟨ha, hb, hc, hd, trivial⟩
    simp only [idF, List.cons.injEq, and_true] at ht
    obtain ⟨rfl, rfl, rfl, rfl⟩ := ht
    intro v0 hv
    have hv := outT (T := tbR) (g := 25) rfl rfl (F := vmF) rfl hv (bool_has _)
    intro t0 t1 t2 t3 ht
    have ht := outT (T := tbR) (g := 26) rfl rfl (F := idF) rfl ht ⟨ha, hb, hc, hd, trivial⟩
    simp only [idF, List.cons.injEq, and_true] at ht
    obtain ⟨rfl, rfl, rfl, rfl⟩ := ht
    intro z0 hz
    have hz := outT (T := tbR) (g := 27) rfl rfl (F := vmF) rfl hz (bool_has _)
    rw [← hv] at hz
    simp only [List.cons.injEq, and_true] at hz
    obtain rfl := hz
    exact ⟨fun h => by simp at h, fun _ => rfl⟩

theorem cLawApplyMoebius : CT Try.prog tbR.fns (pres prR) 7 s7 :=
  k7 tbR noI noM prR ⟨rfl, rfl, rfl, rfl, rfl, trivial⟩ ⟨fun _ _ => trivial, fun _ _ => trivial, fun _ _ => trivial, fun _ _ => trivial, fun _ _ => trivial, trivial⟩ rfl ⟨cToM, cToR, cApp', cApp, cEqR, trivial⟩ fun a b c d e f ha hb hc hd he hf _ => by
    unfold p7
    rw [show tbR.fn 7 [a, b, c, d, e, f] = [1] from rfl]
    intro t0 t1 t2 t3 ht
    have ht := outT (T := tbR) (g := 26) rfl rfl (F := idF) rfl ht ⟨ha, hb, hc, hd, trivial⟩
    simp only [idF, List.cons.injEq, and_true] at ht
    obtain ⟨rfl, rfl, rfl, rfl⟩ := ht
    intro t0 t1 ht
    have ht := outT (T := tbR) (g := 18) rfl rfl (F := idF) rfl ht ⟨he, hf, trivial⟩
    simp only [idF, List.cons.injEq, and_true] at ht
    obtain ⟨rfl, rfl⟩ := ht
    intro v0 v1 v2 hv
    have hv := outT (T := tbR) (g := 28) rfl rfl (F := appF) rfl hv (app_has _ _ _ _ _ _)
    intro t0 t1 t2 t3 ht
    have ht := outT (T := tbR) (g := 26) rfl rfl (F := idF) rfl ht ⟨ha, hb, hc, hd, trivial⟩
    simp only [idF, List.cons.injEq, and_true] at ht
    obtain ⟨rfl, rfl, rfl, rfl⟩ := ht
    intro t0 t1 ht
    have ht := outT (T := tbR) (g := 18) rfl rfl (F := idF) rfl ht ⟨he, hf, trivial⟩
    simp only [idF, List.cons.injEq, and_true] at ht
    obtain ⟨rfl, rfl⟩ := ht
    intro z0 z1 z2 hz
    have hz := outT (T := tbR) (g := 29) rfl rfl (F := appF) rfl hz (app_has _ _ _ _ _ _)
    rw [← hv] at hz
    simp only [List.cons.injEq, and_true] at hz
    obtain ⟨rfl, rfl, rfl⟩ := hz
    intro q hq
    have hq := outT (T := tbR) (g := 22) rfl rfl (F := eq2F) rfl hq (bool_has _)
    simp only [eq2F, and_self, if_true, List.cons.injEq, and_true] at hq
    subst hq
    refine ⟨fun _ => ?_, fun h => by simp at h⟩
    exact ⟨fun h => by simp at h, fun _ => rfl⟩

theorem cLawImageOf : CT Try.prog tbR.fns (pres prR) 8 s8 :=
  k8 tbR noI noM prR ⟨rfl, rfl, rfl, rfl, trivial⟩ ⟨fun _ _ => trivial, fun _ _ => trivial, fun _ _ => trivial, fun _ _ => trivial, trivial⟩ rfl ⟨cToM, cImgW', cImg, cEqR, trivial⟩ fun a b c d ha hb hc hd _ => by
    unfold p8
    rw [show tbR.fn 8 [a, b, c, d] = [1] from rfl]
    intro t0 t1 t2 t3 ht
    have ht := outT (T := tbR) (g := 26) rfl rfl (F := idF) rfl ht ⟨ha, hb, hc, hd, trivial⟩
    simp only [idF, List.cons.injEq, and_true] at ht
    obtain ⟨rfl, rfl, rfl, rfl⟩ := ht
    intro v0 v1 v2 v3 v4 hv
    have hv := outT (T := tbR) (g := 30) rfl rfl (F := imgWF) rfl hv (imgW_has _ _ _ _)
    intro t0 t1 t2 t3 ht
    have ht := outT (T := tbR) (g := 26) rfl rfl (F := idF) rfl ht ⟨ha, hb, hc, hd, trivial⟩
    simp only [idF, List.cons.injEq, and_true] at ht
    obtain ⟨rfl, rfl, rfl, rfl⟩ := ht
    intro z0 z1 z2 z3 z4 hz
    have hz := outT (T := tbR) (g := 31) rfl rfl (F := imgWF) rfl hz (imgW_has _ _ _ _)
    rw [← hv] at hz
    simp only [List.cons.injEq, and_true] at hz
    obtain ⟨rfl, rfl, rfl, rfl, rfl⟩ := hz
    intro q hq
    have hq := outT (T := tbR) (g := 22) rfl rfl (F := eq2F) rfl hq (bool_has _)
    simp only [eq2F, and_self, if_true, List.cons.injEq, and_true] at hq
    subst hq
    refine ⟨fun _ => ?_, fun h => by simp at h⟩
    intro q hq
    have hq := outT (T := tbR) (g := 22) rfl rfl (F := eq2F) rfl hq (bool_has _)
    simp only [eq2F, and_self, if_true, List.cons.injEq, and_true] at hq
    subst hq
    refine ⟨fun _ => ?_, fun h => by simp at h⟩
    exact ⟨fun h => by simp at h, fun _ => rfl⟩

theorem cLawComposeMoebius : CT Try.prog tbR.fns (pres prR) 9 s9 :=
  k9 tbR noI noM prR ⟨rfl, rfl, rfl, rfl, trivial⟩ ⟨fun _ _ => trivial, fun _ _ => trivial, fun _ _ => trivial, fun _ _ => trivial, trivial⟩ rfl ⟨cToM, cComp', cComp, cEqM, trivial⟩ fun a b c d e f g h ha hb hc hd he hf hg hh _ => by
    unfold p9
    rw [show tbR.fn 9 [a, b, c, d, e, f, g, h] = [1] from rfl]
    intro t0 t1 t2 t3 ht
    have ht := outT (T := tbR) (g := 26) rfl rfl (F := idF) rfl ht ⟨ha, hb, hc, hd, trivial⟩
    simp only [idF, List.cons.injEq, and_true] at ht
    obtain ⟨rfl, rfl, rfl, rfl⟩ := ht
    intro t0 t1 t2 t3 ht
    have ht := outT (T := tbR) (g := 26) rfl rfl (F := idF) rfl ht ⟨he, hf, hg, hh, trivial⟩
    simp only [idF, List.cons.injEq, and_true] at ht
    obtain ⟨rfl, rfl, rfl, rfl⟩ := ht
    intro v0 v1 v2 v3 v4 hv
    have hv := outT (T := tbR) (g := 32) rfl rfl (F := compF) rfl hv (comp_has _ _ _ _ _ _ _ _)
    intro t0 t1 t2 t3 ht
    have ht := outT (T := tbR) (g := 26) rfl rfl (F := idF) rfl ht ⟨ha, hb, hc, hd, trivial⟩
    simp only [idF, List.cons.injEq, and_true] at ht
    obtain ⟨rfl, rfl, rfl, rfl⟩ := ht
    intro t0 t1 t2 t3 ht
    have ht := outT (T := tbR) (g := 26) rfl rfl (F := idF) rfl ht ⟨he, hf, hg, hh, trivial⟩
    simp only [idF, List.cons.injEq, and_true] at ht
    obtain ⟨rfl, rfl, rfl, rfl⟩ := ht
    intro z0 z1 z2 z3 z4 hz
    have hz := outT (T := tbR) (g := 33) rfl rfl (F := compF) rfl hz (comp_has _ _ _ _ _ _ _ _)
    rw [← hv] at hz
    simp only [List.cons.injEq, and_true] at hz
    obtain ⟨rfl, rfl, rfl, rfl, rfl⟩ := hz
    intro q hq
    have hq := outT (T := tbR) (g := 34) rfl rfl (F := eq4F) rfl hq (bool_has _)
    simp only [eq4F, and_self, if_true, List.cons.injEq, and_true] at hq
    subst hq
    refine ⟨fun _ => ?_, fun h => by simp at h⟩
    exact ⟨fun h => by simp at h, fun _ => rfl⟩
end Go.Proofs.Ytaknnjlkpepgaaa.Sx
