/-
  The ratio at the end of a path: the other side; the law's body.
-/
import Derived.Test.YtlgccppfjclncaaDoorU4
namespace Go.Proofs.YtlgccppfjclncaaDoor.Sx
open Go Go.RowKit
set_option linter.unusedVariables false
set_option linter.unusedSimpArgs false

theorem sb_len : ∀ {l : List Int} {a b c d : Int}, -9223372036854775808 ≤ a + c → a + c ≤ 9223372036854775807 → -9223372036854775808 ≤ b + d → b + d ≤ 9223372036854775807 → 0 ≤ a → 0 ≤ b → 0 ≤ c → 0 ≤ d → allHas [i64, i64, i64] (sbW a b c d l)
  | [], a, b, c, d, h1, h2, h3, h4, _, _, _, _ => ⟨⟨h1, h2⟩, ⟨h3, h4⟩, (by omega : I64 0), trivial⟩
  | x :: r, a, b, c, d, h1, h2, h3, h4, ha, hb, hc, hd => by
    simp only [sbW]
    split
    · split
      · exact sb_len (by omega) (by omega) (by omega) (by omega) (by omega) (by omega) (by omega) (by omega)
      · exact ⟨(by omega : I64 0), (by omega : I64 0), (by omega : I64 3), trivial⟩
    · split
      · exact sb_len (by omega) (by omega) (by omega) (by omega) (by omega) (by omega) (by omega) (by omega)
      · exact ⟨(by omega : I64 0), (by omega : I64 0), (by omega : I64 3), trivial⟩
theorem path_has (l : List Int) : allHas [i64, i64, i64] (pathF [] [l]) := by
  simp only [pathF]
  split
  · exact ⟨(by omega : I64 0), (by omega : I64 0), (by omega : I64 3), trivial⟩
  · split
    · exact sb_len (by omega) (by omega) (by omega) (by omega) (by omega) (by omega) (by omega) (by omega)
    · exact ⟨(by omega : I64 0), (by omega : I64 0), (by omega : I64 5), trivial⟩
theorem cPathS : CC 4 s4 := by
  refine k4 tbC wI wM prC trivial trivial rfl trivial trivial (fun _ _ h _ => h) fun l _ hl _ => ?_
  rw [show tbC.app 4 [] [l] = (if 200 < (l.length : Int) then [0, 0, 3] else if LRs l then sbW 0 1 1 0 l else [0, 0, 5]) from rfl]
  simp only [p4, decide_eq_true_eq, decide_eq_false_iff_not, Bool.not_eq_true', Bool.not_eq_false', forall_eq]
  refine ⟨fun h => by rw [if_pos h], fun h => ⟨⟨⟨(by omega : I64 0), trivial⟩, ⟨by omega, by omega, fun j hj => by omega⟩⟩, fun i hx hw => ?_⟩⟩
  rw [if_neg h]
  have hw : 0 ≤ i ∧ i ≤ l.length ∧ ∀ j : Nat, (j : Int) < i → l.getD j 0 = 76 ∨ l.getD j 0 = 82 := hw
  obtain ⟨i0, i1, hlr⟩ := hw
  have hWi : IntKind.wrap .i64 (i + 1) = i + 1 := W_id (by omega)
  have step : ∀ (_ : i < l.length) (_ : l.getD i.toNat 0 = 76 ∨ l.getD i.toNat 0 = 82),
      allHas [⟨(-9223372036854775808), 9223372036854775807⟩] [IntKind.wrap .i64 (i + 1)] ∧ wI 1 ⟨[], [l]⟩ ⟨[IntKind.wrap .i64 (i + 1)], []⟩ ∧ wM 1 ⟨[], [l]⟩ ⟨[IntKind.wrap .i64 (i + 1)], []⟩ < wM 1 ⟨[], [l]⟩ ⟨[i], []⟩ := by
    intro hi hx
    rw [hWi]
    refine ⟨⟨(by omega : I64 (i + 1)), trivial⟩, ⟨by omega, by omega, fun j hj => ?_⟩, ?_⟩
    · by_cases e : (j : Int) < i
      · exact hlr j e
      · have : j = i.toNat := by omega
        subst this
        exact hx
    · show l.length - (i + 1).toNat < l.length - i.toNat
      omega
  refine ⟨fun hi => ⟨⟨i0, hi⟩, fun _ => ⟨fun n76 => ⟨⟨i0, hi⟩, fun _ => ⟨fun n82 => ?_, fun e82 => step hi (.inr e82)⟩⟩, fun e76 => step hi (.inl e76)⟩⟩, fun hi => ?_⟩
  · rw [if_neg fun k => ?_]
    rcases lr_iff.1 k i.toNat (by omega) with e | e
    · exact n76 e
    · exact n82 e
  · have hall : LRs l := lr_iff.2 fun j hj => hlr j (by omega)
    rw [if_pos hall]
    refine ⟨⟨i7 (by omega) (by omega) (by omega) (by omega) (by omega) (by omega) (by omega), ⟨Way.start l, rfl, rfl⟩⟩, fun i a b c d p q _ hw => ?_⟩
    obtain ⟨hw, rfl, rfl⟩ : Way l i a b c d ∧ p = a + c ∧ q = b + d := hw
    have bd := hw.bd (by omega)
    have hWi : IntKind.wrap .i64 (i + 1) = i + 1 := W_id (by omega)
    refine ⟨fun hi => ⟨⟨hw.i0, hi⟩, fun _ => ?_⟩, fun hi => hw.fin hi⟩
    have hm : ∀ {e f g h r s : Int}, wM 2 ⟨[i], [l]⟩ ⟨[i + 1, e, f, g, h, r, s], []⟩ < wM 2 ⟨[i], [l]⟩ ⟨[i, a, b, c, d, a + c, b + d], []⟩ := by
      intro e f g h r s
      show l.length - (i + 1).toNat < l.length - i.toNat
      omega
    by_cases hx : l.getD i.toNat 0 = 76
    · have st := hw.stepL hi hx
      simp only [if_pos hx]
      rw [show IntKind.wrap .i64 (a + (a + c)) = a + (a + c) from W_id (by omega), show IntKind.wrap .i64 (b + (b + d)) = b + (b + d) from W_id (by omega), hWi]
      refine ⟨fun k => ⟨fun k2 => st.2 (by omega), fun k2 => ⟨i7 (by omega) (by omega) (by omega) (by omega) (by omega) (by omega) (by omega), ⟨st.1 ⟨k, by omega⟩, rfl, rfl⟩, hm⟩⟩, fun k => st.2 (by omega)⟩
    · have st := hw.stepR hi hx
      simp only [if_neg hx]
      rw [show IntKind.wrap .i64 (a + c + c) = a + c + c from W_id (by omega), show IntKind.wrap .i64 (b + d + d) = b + d + d from W_id (by omega), hWi]
      refine ⟨fun k => ⟨fun k2 => st.2 (by omega), fun k2 => ⟨i7 (by omega) (by omega) (by omega) (by omega) (by omega) (by omega) (by omega), ⟨st.1 ⟨k, by omega⟩, rfl, rfl⟩, hm⟩⟩, fun k => st.2 (by omega)⟩
theorem cLaw : CC 3 s3 := by
  refine k3 tbC noI noM prC ⟨rfl, rfl, rfl, trivial⟩ ⟨fun _ _ _ => trivial, fun _ _ _ => trivial, fun _ _ _ => trivial, trivial⟩ rfl ⟨cPathS, cPathI, cEq2, trivial⟩ trivial (fun _ _ h _ => h) fun l _ hl _ => ?_
  rw [show tbC.app 3 [] [l] = [1] from rfl]
  simp only [p3, decide_eq_true_eq, decide_eq_false_iff_not, Bool.not_eq_true', Bool.not_eq_false']
  refine ⟨fun _ => trivial, fun _ a b c h1 d e f h2 g h3 => ?_⟩
  have h1 := outP (T := tbC) (g := 4) (s := s4) (F := pathF) rfl rfl rfl h1 (path_has l)
  have h2 := outP (T := tbC) (g := 5) (s := s5) (F := pathF) rfl rfl rfl h2 (path_has l)
  rw [← h1] at h2
  simp only [List.cons.injEq, and_true] at h2
  obtain ⟨rfl, rfl, rfl⟩ := h2
  have h3 := outN (T := tbC) (g := 6) (s := s6) (F := eq2F) rfl rfl rfl rfl h3 (bool_has _)
  simp only [eq2F, List.cons.injEq, and_true, and_self, if_true] at h3
  subst h3
  exact ⟨fun _ => ⟨fun h => absurd rfl h, fun _ => trivial⟩, fun h => absurd rfl h⟩
end Go.Proofs.YtlgccppfjclncaaDoor.Sx
