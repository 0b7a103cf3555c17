/-
  The symbolic executor: whole regions.
-/
import Derived.Test.YtickjfclmoecpaaSxN
namespace Go.Proofs.Ytickjfclmoecpaa.Sx
open Go Go.RowKit

section
variable {C : Cfg} {X : Ctx} {w : World} {a : Act} {Pr : Pres} {Φ : Fns} {Q : Exit → Act → World → Prop} {K : Ex → Bds → St → Env → Prop}

theorem items_at : ∀ (l : List Oper) (i n : Nat), ∀ it ∈ items C l i n, i ≤ it.ix ∧ l[it.ix - i]? = some it.o
  | [], _, _, it, h => by cases h
  | o :: r, i, n, it, h => by
    rcases List.mem_cons.1 h with rfl | h
    · exact ⟨Nat.le_refl _, by simp⟩
    · obtain ⟨h1, h2⟩ := items_at r (i + 1) _ it h
      refine ⟨by omega, ?_⟩
      have e : it.ix - i = (it.ix - (i + 1)) + 1 := by omega
      rw [e, List.getElem?_cons_succ]
      exact h2

theorem items_mem : ∀ (l : List Oper) (i n j : Nat), i ≤ j → j < i + l.length → ∃ it ∈ items C l i n, it.ix = j
  | [], _, _, _, h, k => by simp at k; omega
  | o :: r, i, n, j, h, k => by
    by_cases e : j = i
    · exact ⟨⟨i, o, n⟩, List.mem_cons_self, e.symm⟩
    · obtain ⟨it, h1, h2⟩ := items_mem r (i + 1) (n + newsOf C o.op) j (by omega) (by simp at k; omega)
      exact ⟨it, List.mem_cons_of_mem _ h1, h2⟩

theorem items_ix : ∀ (l : List Oper) (i n : Nat), (items C l i n).Pairwise fun x y => x.ix < y.ix
  | [], _, _ => List.Pairwise.nil
  | o :: r, i, n => List.Pairwise.cons (fun y hy => by
      have := (items_at r (i + 1) _ y hy).1
      show i < y.ix
      omega) (items_ix r (i + 1) _)

theorem items_nw : ∀ (l : List Oper) (i n : Nat), ∀ it ∈ items C l i n, n ≤ it.nw ∧ it.nw + newsOf C it.o.op ≤ n + countNew C l
  | [], _, _, it, h => by cases h
  | o :: r, i, n, it, h => by
    rcases List.mem_cons.1 h with rfl | h
    · simp only [countNew]; omega
    · have := items_nw r (i + 1) _ it h
      simp only [countNew]; omega

theorem items_ne : ∀ (l : List Oper) (i n : Nat), (items C l i n).Pairwise fun x y => x.nw + newsOf C x.o.op ≤ y.nw
  | [], _, _ => List.Pairwise.nil
  | o :: r, i, n => List.Pairwise.cons (fun y hy => (items_nw r (i + 1) _ y hy).1) (items_ne r (i + 1) _)

theorem items_length : ∀ (l : List Oper) (i n : Nat), (items C l i n).length = l.length
  | [], _, _ => rfl
  | o :: r, i, n => by simp [items, items_length r]

theorem okEdges_lt {ops : Array Oper} (h : okEdges ops = true) : ∀ j p, p ∈ predsOf ops j → p < j := fun j p hp => by
  by_cases hj : j < ops.size
  · simp only [okEdges, List.all_eq_true, List.mem_range] at h
    have := h j hj p hp
    rwa [Nat.blt_eq] at this
  · have : ops[j]? = none := by simp; omega
    simp only [predsOf, this] at hp
    cases hp

theorem okOrder_pw {ops : Array Oper} : ∀ {l : List Fp}, okOrder ops l = true → l.Pairwise fun x y => x.apart y = true ∨ chainB ops x.ix 4 y.ix = true
  | [], _ => List.Pairwise.nil
  | f :: r, h => by
    simp only [okOrder, Bool.and_eq_true, List.all_eq_true, Bool.or_eq_true] at h
    exact List.Pairwise.cons (fun y hy => h.1 y hy) (okOrder_pw h.2)

theorem Sat.drew {d : Dn} {S : St} (h : Sat X d S a w) : Sat X d S a { w with drawn := w.drawn + 1 } :=
  ⟨h.df, h.tm, ⟨h.hp.bl.step rfl rfl rfl (Nat.le_refl _) fun _ _ => rfl, fun i r hr => h.hp.reg i r hr, h.hp.sep, h.hp.ids, h.hp.pin⟩⟩

theorem regionT_sound {id : Nat} {ops : Array Oper} {draw : Bool} {fin : Bds → St → T} (hm : C.P.follows .mixedOrders = true)
    (hC : CTs C Φ Pr) (hΦ : ∀ g s, sigOf C.sigs g = some s → ∀ xs ls, allHas ((resKds s).map Kd.iv) (norm (resKds s).length (Φ g xs ls).1))
    (hT : Then X Pr Φ fin K Q) {R : Bds} {S : St} {d : Dn} (hd : d.Φ = Φ) (hR : RV d.Φ R d.ρ) (h : Sat X d S a w)
    (ht : (regionT C R ops draw S fin).holds d.Φ Pr d.ρ K) : (Code.region id ops draw).wp C.P Q a w := by
  have hfree : Free (S.heap ++ List.replicate (countNew C ops.toList) none) S.heap.length (countNew C ops.toList) :=
    ⟨by simp, fun k h1 _ => by rw [getH_append_none]; exact getH_ge _ _ h1⟩
  cases draw with
  | false =>
    simp only [regionT, cond_false] at ht
    exact wp_region_list (seqT_sound hC hΦ hT _ _ _ _ d a w hd hR (h.grow _) hfree ht)
  | true =>
    subst hd
    simp only [regionT, cond_true] at ht
    obtain ⟨Sf, fs, os, cs, R', h1, h2, h3, h4⟩ := runT_sound _ _ _ _ _ _ _ _ hR (fun _ hc => by cases hc) ht
    simp only [List.append_nil, List.reverse_reverse, List.nil_append] at h4
    cases hc : okEdges ops && okOrder ops fs <;> simp only [hc, cond_false, cond_true] at h4
    · exact h4.elim
    simp only [Bool.and_eq_true] at hc
    obtain ⟨h5, h6⟩ := need_holds h4
    refine wp_region_any hm ?_
    refine any_sound (Φ := d.Φ) (ρ := d.ρ) (Sf := Sf) hC hR (okEdges_lt hc.1) ?_ _ (items C ops.toList 0 S.heap.length) _ _ fs d a _ (by rw [items_length]; simp) rfl rfl ?_ (by simp) ?_ (items_ix _ _ _) ?_ (h1.runs h5) (okOrder_pw hc.2) ?_ (items_ne _ _ _) (h.grow _).drew
    · intro d' a' w' e1 e2 hs
      obtain ⟨R2, S2, d2, e3, e4, e5, _, e6⟩ := callsT_sound (X := X) (Φ := d.Φ) hΦ _ _ _ _ d' e1 h3 (by rw [e1, e2]; exact h2) hs (by rw [e1, e2]; exact h6)
      obtain ⟨R3, S3, d3, e7, e8, e9, _, e10⟩ := bindT_sound _ _ _ _ _ e4 e5 e6
      exact hT R3 S3 d3 a' w' (e7.trans (e3.trans e1)) e8 e9 e10
    · intro it hit
      have := (items_at _ _ _ it hit).2
      simpa using this
    · intro j
      constructor
      · intro hj
        have hj' : j < ops.size := by
          apply Decidable.byContradiction
          intro hn
          rw [Array.getD_eq_getD_getElem?, Array.getElem?_eq_none (by simp; omega)] at hj
          cases hj
        exact items_mem _ _ _ j (Nat.zero_le _) (by simpa using hj')
      · rintro ⟨it, hit, rfl⟩
        have hb := (items_at _ _ _ it hit).2
        have hlt : it.ix < ops.size := by
          have := List.getElem?_eq_some_iff.1 hb
          obtain ⟨hh, _⟩ := this
          simpa using hh
        rw [Array.getD_eq_getD_getElem?, Array.getElem?_replicate, if_pos hlt]
        rfl
    · intro j hj
      rw [Array.getD_eq_getD_getElem?, Array.getElem?_replicate] at hj
      split at hj <;> cases hj
    · intro it hit k k1 k2
      obtain ⟨q1, q2⟩ := items_nw _ _ _ it hit
      exact ⟨hfree.2 _ (by omega) (by omega), by
        have := hfree.1
        show k < (S.heap ++ List.replicate (countNew C ops.toList) none).length
        omega⟩

end
end Go.Proofs.Ytickjfclmoecpaa.Sx
