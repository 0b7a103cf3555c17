/-
  The symbolic executor: whole regions.
-/
import Derived.Test.YtelfpnkhdaaeoaaDoorSxN
namespace Go.Proofs.YtelfpnkhdaaeoaaDoor.Sx
open Go Go.RowKit

section
variable {C : Cfg} {X : Ctx} {w : World} {a : Act} {Pr : Pres} {Φ : Fns} {Q : Exit → Act → World → Prop} {K : Ex → Bds → St → Env → Prop}

theorem items_at : ∀ (l : List Oper) (i n : Nat), ∀ it ∈ items C l i n, i ≤ it.ix ∧ l[it.ix - i]? = some it.o
  | [], _, _, it, h => by cases h
  | o :: r, i, n, it, h => by
    rcases List.mem_cons.1 h with rfl | h
    · exact ⟨Nat.le_refl _, by simp⟩
    · obtain ⟨h1, h2⟩ := items_at r (i + 1) _ it h
      refine ⟨by omega, ?_⟩
      have e : it.ix - i = (it.ix - (i + 1)) + 1 := by omega
      rw [e, List.getElem?_cons_succ]
      exact h2

theorem items_mem : ∀ (l : List Oper) (i n j : Nat), i ≤ j → j < i + l.length → ∃ it ∈ items C l i n, it.ix = j
  | [], _, _, _, h, k => by simp at k; omega
  | o :: r, i, n, j, h, k => by
    by_cases e : j = i
    · exact ⟨⟨i, o, n⟩, List.mem_cons_self, e.symm⟩
    · obtain ⟨it, h1, h2⟩ := items_mem r (i + 1) (n + newsOf C o.op) j (by omega) (by simp at k; omega)
      exact ⟨it, List.mem_cons_of_mem _ h1, h2⟩

theorem items_ix : ∀ (l : List Oper) (i n : Nat), (items C l i n).Pairwise fun x y => x.ix < y.ix
  | [], _, _ => List.Pairwise.nil
  | o :: r, i, n => List.Pairwise.cons (fun y hy => by
      have := (items_at r (i + 1) _ y hy).1
      show i < y.ix
      omega) (items_ix r (i + 1) _)

theorem items_nw : ∀ (l : List Oper) (i n : Nat), ∀ it ∈ items C l i n, n ≤ it.nw ∧ it.nw + newsOf C it.o.op ≤ n + countNew C l
  | [], _, _, it, h => by cases h
  | o :: r, i, n, it, h => by
    rcases List.mem_cons.1 h with rfl | h
    · simp only [countNew]; omega
    · have := items_nw r (i + 1) _ it h
      simp only [countNew]; omega

theorem items_ne : ∀ (l : List Oper) (i n : Nat), (items C l i n).Pairwise fun x y => x.nw + newsOf C x.o.op ≤ y.nw
  | [], _, _ => List.Pairwise.nil
  | o :: r, i, n => List.Pairwise.cons (fun y hy => (items_nw r (i + 1) _ y hy).1) (items_ne r (i + 1) _)

theorem items_length : ∀ (l : List Oper) (i n : Nat), (items C l i n).length = l.length
  | [], _, _ => rfl
  | o :: r, i, n => by simp [items, items_length r]

theorem okEdges_lt {ops : Array Oper} (h : okEdges ops = true) : ∀ j p, p ∈ predsOf ops j → p < j := fun j p hp => by
  by_cases hj : j < ops.size
  · simp only [okEdges, List.all_eq_true, List.mem_range] at h
    have := h j hj p hp
    rwa [Nat.blt_eq] at this
  · have : ops[j]? = none := by simp; omega
    simp only [predsOf, this] at hp
    cases hp

theorem okOrder_pw {ops : Array Oper} : ∀ {l : List Fp}, okOrder ops l = true → l.Pairwise fun x y => x.apart y = true ∨ chainB ops x.ix 4 y.ix = true
  | [], _ => List.Pairwise.nil
  | f :: r, h => by
    simp only [okOrder, Bool.and_eq_true, List.all_eq_true, Bool.or_eq_true] at h
    exact List.Pairwise.cons (fun y hy => h.1 y hy) (okOrder_pw h.2)

theorem Sat.drew {d : Dn} {S : St} (h : Sat X d S a w) : Sat X d S a { w with drawn := w.drawn + 1 } :=
  ⟨h.df, h.tm, ⟨h.hp.bl.step rfl rfl rfl (Nat.le_refl _) fun _ _ => rfl, fun i r hr => h.hp.reg i r hr, h.hp.sep, h.hp.ids, h.hp.pin⟩⟩

/-- The first number that is not 0. -/
theorem first_nz : ∀ {a b r s : List Int} {x y : Int}, (∀ n ∈ a, n = 0) → (∀ n ∈ b, n = 0) → x ≠ 0 → y ≠ 0 → a ++ x :: r = b ++ y :: s → x = y
  | [], [], _, _, _, _, _, _, _, _, h => (List.cons.inj h).1
  | [], z :: b, _, _, x, _, _, hb, hx, _, h => (hx ((List.cons.inj h).1.trans (hb z List.mem_cons_self))).elim
  | z :: a, [], _, _, _, y, ha, _, _, hy, h => (hy ((List.cons.inj h).1.symm.trans (ha z List.mem_cons_self))).elim
  | z :: a, z' :: b, _, _, _, _, ha, hb, hx, hy, h => first_nz (fun n hn => ha n (List.mem_cons_of_mem _ hn)) (fun n hn => hb n (List.mem_cons_of_mem _ hn)) hx hy (List.cons.inj h).2
theorem regionT_sound {id : Nat} {ops : Array Oper} {draw : Bool} {fin : Bds → St → T} (hm : C.P.follows .mixedOrders = true)
    (hC : CTs C Φ Pr) (hΦ : ∀ g s, sigOf C.sigs g = some s → ∀ xs ls, allHas ((resKds s).map Kd.iv) (norm (resKds s).length (Φ g xs ls).1))
    (hT : Then X Pr Φ fin K Q) (hX : Pans X Φ K Q) {R : Bds} {S : St} {d : Dn} (hd : d.Φ = Φ) (hR : RV d.Φ R d.ρ) (h : Sat X d S a w)
    (ht : (regionT C R ops draw S fin).holds d.Φ Pr d.ρ K) : (Code.region id ops draw).wp C.P Q a w := by
  have hfree : Free (S.heap ++ List.replicate (countNew C ops.toList) none) S.heap.length (countNew C ops.toList) :=
    ⟨by simp, fun k h1 _ => by rw [getH_append_none]; exact getH_ge _ _ h1⟩
  cases draw with
  | false =>
    simp only [regionT, cond_false] at ht
    exact wp_region_list (seqT_sound hC hΦ hT hX _ _ _ _ d a w hd hR (h.grow _) hfree ht)
  | true =>
    subst hd
    simp only [regionT, cond_true] at ht
    obtain ⟨Sf, fs, os, cs, R', h1, h2, h3, h4⟩ := runT_sound _ _ _ _ _ _ _ _ hR (fun _ hc => by cases hc) ht
    simp only [List.append_nil, List.reverse_reverse, List.nil_append] at h4
    cases hc : okEdges ops && (okOrder ops fs && okPans C ops) <;> simp only [hc, cond_false, cond_true] at h4
    · exact h4.elim
    simp only [Bool.and_eq_true] at hc
    obtain ⟨hc1, hc2, hc3⟩ := hc
    have hc := (⟨hc1, hc2⟩ : okEdges ops = true ∧ okOrder ops fs = true)
    obtain ⟨h5, h6⟩ := need_holds h4
    obtain ⟨oss, hos, hruns⟩ := h1.runs h5.ask
    -- what the codes lead to, in a state behind all operations, or in any world
    have tree : ∀ d' a' w', d'.Φ = d.Φ → d'.ρ = d.ρ → Sat X d' Sf a' w' → (∀ e, O.pan e ∈ os → e.den d.Φ d.ρ = 0) → Q .normal a' w' := fun d' a' w' e1 e2 hs hz => by
      obtain ⟨R2, S2, ps2, d2, e3, e4, e5, _, ep, e6⟩ := callsT_sound (X := X) (Φ := d.Φ) hΦ _ _ _ _ _ d' e1 h3 (by rw [e1, e2]; exact h2) hs (by rw [e1, e2]; exact h6)
      have hz2 : ∀ e ∈ ps2, e.den d2.Φ d2.ρ = 0 := fun e he => by
        have : e.den d2.Φ d2.ρ ∈ (panEs os).map (E.den d'.Φ d'.ρ) := by rw [← ep]; exact List.mem_map.2 ⟨e, he, rfl⟩
        obtain ⟨e', he', hee⟩ := List.mem_map.1 this
        rw [← hee, e1, e2]
        exact hz e' (mem_panEs.1 he')
      rcases panT_holds _ _ _ e4 e6 with ⟨_, R3, k1, k2⟩ | ⟨p1, e, p2, R3, k1, _, k3, _⟩
      · obtain ⟨R4, S4, d4, e7, e8, e9, _, e10⟩ := bindT_sound _ _ _ _ _ k1 e5 k2
        exact hT R4 S4 d4 a' w' (e7.trans (e3.trans e1)) e8 e9 e10
      · exact (k3 (hz2 e (by rw [k1]; simp))).elim
    refine wp_region_any hm ?_
    refine any_sound (Φ := d.Φ) (ρ := d.ρ) (Sf := Sf) hC hR (okEdges_lt hc.1) ?_ _ (items C ops.toList 0 S.heap.length) _ _ fs oss d a _ (by rw [items_length]; simp) rfl rfl ?_ (by simp) ?_ (items_ix _ _ _) ?_ ?_ ?_ hruns (okOrder_pw hc.2) ?_ (items_ne _ _ _) (h.grow _).drew
    · intro i j x y hij hx hy px py
      unfold okPans at hc3
      rw [List.all_eq_true] at hc3
      have := hc3 j (List.mem_range.2 (Array.getElem?_eq_some_iff.1 hy).1)
      rw [List.all_eq_true] at this
      have := this i (List.mem_range.2 hij)
      rw [hx, hy] at this
      simpa [px, py] using this
    · intro it hit
      have := (items_at _ _ _ it hit).2
      simpa using this
    · intro j
      constructor
      · intro hj
        have hj' : j < ops.size := by
          apply Decidable.byContradiction
          intro hn
          rw [Array.getD_eq_getD_getElem?, Array.getElem?_eq_none (by simp; omega)] at hj
          cases hj
        exact items_mem _ _ _ j (Nat.zero_le _) (by simpa using hj')
      · rintro ⟨it, hit, rfl⟩
        have hb := (items_at _ _ _ it hit).2
        have hlt : it.ix < ops.size := by
          have := List.getElem?_eq_some_iff.1 hb
          obtain ⟨hh, _⟩ := this
          simpa using hh
        rw [Array.getD_eq_getD_getElem?, Array.getElem?_replicate, if_pos hlt]
        rfl
    · intro j hj
      rw [Array.getD_eq_getD_getElem?, Array.getElem?_replicate] at hj
      split at hj <;> cases hj
    · intro hz d' a' w' e1 e2 hs
      exact tree d' a' w' e1 e2 hs fun e he => by
        rw [← hos] at he
        obtain ⟨o, ho, heo⟩ := List.mem_flatten.1 he
        exact hz o ho e heo
    · intro os1 o os2 hsp hz e he huq hne a' w' hdf hbl
      -- the first code that is not 0
      have hcode : ∃ (d2 : Dn) (R2 : Bds) (S2 : St) (e2 : E), d2.Φ = d.Φ ∧ RV d2.Φ R2 d2.ρ ∧ K (.pan C.pty e2) R2 S2 d2.ρ ∧ e2.den d2.Φ d2.ρ = e.den d.Φ d.ρ := by
        obtain ⟨R2, S2, ps2, d2, e3, e4, ep, e6⟩ := callsT_env (Φ := d.Φ) hΦ _ _ _ _ _ d rfl h3 h2 h6
        have hps : (panEs os).map (E.den d.Φ d.ρ) = (os1.flatMap panEs).map (E.den d.Φ d.ρ) ++ ((panEs o).map (E.den d.Φ d.ρ) ++ (os2.flatMap panEs).map (E.den d.Φ d.ρ)) := by
          have hfl : ∀ q : List (List O), panEs q.flatten = q.flatMap panEs := fun q => by
            induction q with
            | nil => rfl
            | cons y q ih => rw [List.flatten_cons, panEs_append, ih, List.flatMap_cons]
          rw [← hos, hsp, hfl, List.flatMap_append, List.flatMap_cons, List.map_append, List.map_append]
        rcases panT_holds _ _ _ e4 e6 with ⟨hall, _⟩ | ⟨p1, x, p2, R3, k1, k2, k3, k4, k5⟩
        · exfalso
          have hmem : e.den d.Φ d.ρ ∈ (panEs os).map (E.den d.Φ d.ρ) := List.mem_map.2 ⟨e, mem_panEs.2 (by rw [← hos, hsp]; exact List.mem_flatten.2 ⟨o, by simp, he⟩), rfl⟩
          rw [← ep] at hmem
          obtain ⟨y, hy, hye⟩ := List.mem_map.1 hmem
          exact hne (hye ▸ hall y hy)
        · refine ⟨d2, R3, S2, x, e3, k4, k5, ?_⟩
          rw [k1, List.map_append, List.map_cons] at ep
          -- the first number that is not 0, on both sides
          have z1 : ∀ n ∈ p1.map (E.den d2.Φ d2.ρ), n = 0 := fun n hn => by
            obtain ⟨y, hy, rfl⟩ := List.mem_map.1 hn
            exact k2 y hy
          have z2 : ∀ n ∈ (os1.flatMap panEs).map (E.den d.Φ d.ρ), n = 0 := fun n hn => by
            obtain ⟨y, hy, rfl⟩ := List.mem_map.1 hn
            obtain ⟨o', ho', hy'⟩ := List.mem_flatMap.1 hy
            exact hz o' ho' y (mem_panEs.1 hy')
          obtain ⟨rest, hrest⟩ : ∃ rest, panEs o = e :: rest := by
            cases hp : panEs o with
            | nil => have := mem_panEs.2 he; rw [hp] at this; cases this
            | cons y rest =>
              have : y = e := huq y (mem_panEs.1 (by rw [hp]; exact List.mem_cons_self))
              exact ⟨rest, by rw [this]⟩
          rw [hps, hrest, List.map_cons, List.cons_append] at ep
          exact first_nz z1 z2 k3 hne ep
      obtain ⟨d2, R2, S2, e2, k1, k2, k3, k4⟩ := hcode
      have := hX C.pty e2 R2 S2 d2 a' w' k1 k2 hdf hbl k3
      rw [k4] at this
      exact this
    · intro it hit k k1 k2
      obtain ⟨q1, q2⟩ := items_nw _ _ _ it hit
      exact ⟨hfree.2 _ (by omega) (by omega), by
        have := hfree.1
        show k < (S.heap ++ List.replicate (countNew C ops.toList) none).length
        omega⟩

end
end Go.Proofs.YtelfpnkhdaaeoaaDoor.Sx
