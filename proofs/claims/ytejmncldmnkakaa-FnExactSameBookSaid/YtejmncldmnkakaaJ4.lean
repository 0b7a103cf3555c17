/-
  Equal books: both programs.
-/
import Derived.Test.YtejmncldmnkakaaJ3
namespace Go.Proofs.Ytejmncldmnkakaa.Sx
open Go Go.RowKit
set_option linter.unusedVariables false
set_option linter.unusedSimpArgs false

theorem baEq {x y : ByteArray} (h : x.toList = y.toList) : x = y := by
  rw [ByteArray.toList_eq, ByteArray.toList_eq] at h
  cases x; cases y
  simp at h
  simp [h]
theorem lnEq {L M : Ln} (e0 : L.nm.toList = M.nm.toList) (e1 : L.kd = M.kd) (e2 : L.a.toList = M.a.toList) (e3 : L.b.toList = M.b.toList) (e4 : L.p = M.p) (e5 : L.q = M.q) : L = M := by
  have := baEq e0
  have := baEq e2
  have := baEq e3
  cases L; cases M
  simp_all
open Classical in
/-- Whether two books are equal. -/
noncomputable def sameL (ls ms : List Ln) : Bool := decide (ls = ms)
open Classical in
theorem sameL_len {ls ms : List Ln} (h : ls.length ≠ ms.length) : sameL ls ms = false := by
  unfold sameL
  exact decide_eq_false fun e => h (by rw [e])
open Classical in
theorem sameL_at {ls ms : List Ln} {i : Nat} {L M : Ln} (h1 : ls[i]? = some L) (h2 : ms[i]? = some M) (h : L ≠ M) : sameL ls ms = false := by
  unfold sameL
  exact decide_eq_false fun e => h (by rw [e, h2] at h1; exact (Option.some.inj h1).symm)
open Classical in
theorem sameL_all {ls ms : List Ln} {n : Nat} (h1 : ls.length = n) (h2 : ms.length = n) (h : ∀ i, i < n → ls[i]? = ms[i]?) : sameL ls ms = true := by
  unfold sameL
  refine decide_eq_true (List.ext_getElem? fun i => ?_)
  by_cases hi : i < n
  · exact h i hi
  · rw [List.getElem?_eq_none (by omega), List.getElem?_eq_none (by omega)]
set_option maxRecDepth 1000000 in
set_option maxHeartbeats 4000000 in
theorem sameS {w : World} {ls ms : List Ln} {v u : Value} (h : IsLn w ls v) (h' : IsLn w ms u) (hn : ls.length ≤ 1048576) (hm : ms.length ≤ 1048576) :
    Calls Try.prog 5 #[v, u] w fun e w' => e = .returned (.bool (sameL ls ms)) ∧ Below w.heap.size w w' := by
  obtain ⟨s0, k0, rfl⟩ := h.form
  obtain ⟨s1, k1, rfl⟩ := h'.form
  have hlB : ∀ (s : Option Addr) (n k : Nat) (W : World), (Builtin.len_ #[25] 3 #[.slice s n k]).run Try.prog W = .ok (.int .i64 n) W := fun s n k W => rfl
  obtain ⟨n, hnn⟩ : ∃ n, ls.length = n := ⟨_, rfl⟩
  obtain ⟨m, hmm⟩ : ∃ m, ms.length = m := ⟨_, rfl⟩
  rw [hnn] at h hn ⊢
  rw [hmm] at h' hm ⊢
  have H1 := Lib.hid h
  have H2 := Lib.hid h'
  have HN := Lib.hid hnn
  have HM := Lib.hid hmm
  clear h h' hnn hmm
  by_cases hl : n = m
  · subst hl
    obtain ⟨r, hr⟩ : ∃ r, sameL ls ms = r := ⟨_, rfl⟩
    have HR := Lib.hid hr
    rw [hr]
    clear hr
    go_enter Try.func5, Try.ntmps5
    go_wp2
    go_loopw [5] (fun i wr => ∃ j : Nat, j ≤ n ∧ i = .int .i64 j ∧ Below w.heap.size w wr ∧ Hid (∀ i, i < j → ls[i]? = ms[i]?)) (fun i _ => n - (RowKit.intOf i).toNat)
    case atStart => exact ⟨0, by omega, rfl, Below.refl _ _, fun i h => absurd h (Nat.not_lt_zero _)⟩
    case round =>
      obtain ⟨j, hj, rfl, hb, hE⟩ := hrel
      by_cases hlt : j < n
      · obtain ⟨L, hL⟩ : ∃ L, ls[j]? = some L := ⟨_, List.getElem?_eq_getElem (by have := HN.out; omega)⟩
        obtain ⟨M, hM⟩ : ∃ M, ms[j]? = some M := ⟨_, List.getElem?_eq_getElem (by have := HM.out; omega)⟩
        obtain ⟨g, o, rfl, A⟩ := (H1.out.keep hb).at6 hL
        obtain ⟨g', o', rfl, B⟩ := (H2.out.keep hb).at6 hM
        have a0 := A.c0
        have a1 := A.c1
        have a2 := A.c2
        have a3 := A.c3
        have a4 := A.c4
        have a5 := A.c5
        have b0 := B.c0
        have b1 := B.c1
        have b2 := B.c2
        have b3 := B.c3
        have b4 := B.c4
        have b5 := B.c5
        have gj : (j : Int) < n := by omega
        clear A B
        by_cases he : L = M
        · subst he
          have HE : Hid (∀ i, i < j + 1 → ls[i]? = ms[i]?) := fun i hi => by
            by_cases e : i = j
            · subst e; rw [hL, hM]
            · exact hE.out i (by omega)
          clear hL hM
          go_wp2
          go_region
          all_goals
            go_wp2
            go_roundw
            case rel => exact ⟨j + 1, by omega, by simp, hb.drew, HE⟩
            case measure => simp [RowKit.intOf]; omega
        · have HF := Lib.hid (sameL_at hL hM he)
          clear hL hM
          by_cases e0 : L.nm.toList = M.nm.toList
          · by_cases e1 : L.kd = M.kd
            · by_cases e2 : L.a.toList = M.a.toList
              · by_cases e3 : L.b.toList = M.b.toList
                · by_cases e4 : L.p = M.p
                  · by_cases e5 : L.q = M.q
                    · exact absurd (lnEq e0 e1 e2 e3 e4 e5) he
                    · go_wp2
                      go_region
                      all_goals
                        go_wp2
                        go_ret
                        exact ⟨by rw [← HR.out, HF.out]; rfl, hb.drew⟩
                  · go_wp2
                    go_region
                    all_goals
                      go_wp2
                      go_ret
                      exact ⟨by rw [← HR.out, HF.out]; rfl, hb.drew⟩
                · go_wp2
                  go_region
                  all_goals
                    go_wp2
                    go_ret
                    exact ⟨by rw [← HR.out, HF.out]; rfl, hb.drew⟩
              · go_wp2
                go_region
                all_goals
                  go_wp2
                  go_ret
                  exact ⟨by rw [← HR.out, HF.out]; rfl, hb.drew⟩
            · go_wp2
              go_region
              all_goals
                go_wp2
                go_ret
                exact ⟨by rw [← HR.out, HF.out]; rfl, hb.drew⟩
          · go_wp2
            go_region
            all_goals
              go_wp2
              go_ret
              exact ⟨by rw [← HR.out, HF.out]; rfl, hb.drew⟩
      · obtain rfl : j = n := by omega
        have HF := Lib.hid (sameL_all HN.out HM.out hE.out)
        go_wp2
        go_ret
        exact ⟨by rw [← HR.out, HF.out]; rfl, hb⟩
  · have HF := Lib.hid (sameL_len (ls := ls) (ms := ms) (by rw [HN.out, HM.out]; exact hl))
    have hb : ((n : Int) == (m : Int)) = false := by rw [beq_eq_false_iff_ne]; omega
    go_enter Try.func5, Try.ntmps5
    go_wp2
    go_ret
    exact ⟨by rw [HF.out]; rfl, Below.refl _ _⟩
end Go.Proofs.Ytejmncldmnkakaa.Sx
