/-
  The normal stream, by the model.
-/
import Derived.Test.YtlkbnpgembgdfaaQ1
import Derived.Test.YtlkbnpgembgdfaaN3
import Derived.Laws.AppendOwn
import Derived.Deep.RegionLaw
namespace Go.Proofs.Ytlkbnpgembgdfaa.Sx
open Go Go.RowKit Go.Lib
set_option linter.unusedVariables false
set_option linter.unusedSimpArgs false

theorem OwnL.cut {K : IntKind} {n m : Nat} {w : World} {l : List Int} {s : Option Addr} {c : Nat} (h : OwnL K n w l (.slice s l.length c)) (hm : m ≤ l.length) : OwnL K n w (l.take m) (.slice s m c) := by
  have e : (l.take m).length = m := by rw [List.length_take]; omega
  rcases h with ⟨h, rfl⟩ | ⟨b, o, c', cs, ty, h, h2, h3, h4, h5, h6⟩
  · cases h
    obtain rfl : m = 0 := by simpa using hm
    exact .inl ⟨rfl, rfl⟩
  · cases h
    refine .inr ⟨b, o, c, cs, ty, by rw [e], h2, h3, by rw [e]; omega, by rw [e]; omega, fun i x hx => h6 i x ?_⟩
    rw [List.getElem?_take] at hx
    split at hx
    · exact hx
    · cases hx
theorem OwnL.lit0 {K : IntKind} {w : World} {l : List Int} {B : Nat} {e : TypeId} {v : Value} {m : Nat} (h : w.ownsRow B e 1 v m (l.map (Value.int K))) : OwnL K B w l v := OwnL.of_row h (by have := h.1; simp at this; omega) rfl
/-- What is appended. -/
theorem news_of {K : IntKind} {w : World} {l : List Int} {p : Addr} {c : Nat} (h : IsL K w l (.slice (some p) l.length c)) : (∀ (j : Nat) (u : Value), (l.map (Value.int K))[j]? = some u → w.cell? (p.add j) = some u) ∧ ∀ u ∈ l.map (Value.int K), u.oneCell' = true := by
  rcases h with ⟨h, _⟩ | ⟨b, o, c', h, _, h3⟩
  · cases h
  · cases h
    refine ⟨fun j u hj => ?_, fun u hu => ?_⟩
    · rw [List.getElem?_map] at hj
      obtain ⟨y, hy, rfl⟩ := Option.map_eq_some_iff.1 hj
      have e : ((⟨b, o, none⟩ : Addr).add j) = ⟨b, o + j, none⟩ := by unfold Addr.add; split <;> simp_all
      rw [e]; exact h3 j y hy
    · obtain ⟨y, _, rfl⟩ := List.mem_map.1 hu
      rfl
theorem IsL.cut {K : IntKind} {w : World} {l : List Int} {s : Addr} {c m : Nat} (h : IsL K w l (.slice (some s) l.length c)) (hm : m ≤ l.length) : IsL K w (l.take m) (.slice (some s) m c) := by
  have e : (l.take m).length = m := by rw [List.length_take]; omega
  rcases h with ⟨h, _⟩ | ⟨b, o, c', h, h2, h3⟩
  · cases h
  · cases h
    refine .inr ⟨b, o, c, by rw [e], by rw [e]; omega, fun i x hx => h3 i x ?_⟩
    rw [List.getElem?_take] at hx
    split at hx
    · exact hx
    · cases hx
theorem OwnL.under {K : IntKind} {n m : Nat} {w w' : World} {l : List Int} {v : Value} (h : OwnL K n w l v) (hl : ∀ k, v.ownBlock = some k → k < m) (hB : Below m w w') : OwnL K n w' l v := by
  rcases h with h | ⟨b, o, c, cs, ty, h1, h2, h3, h4⟩
  · exact .inl h
  · exact .inr ⟨b, o, c, cs, ty, h1, h2, by rw [hB.block b (hl b (by rw [h1]; rfl))]; exact h3, h4⟩
/-- append of a list that is read to an own row, as a step of a region that draws: the length told. -/
theorem step_own_m {P : Program} {ops : Array Oper} {o : Oper} {a : Act} {w : World} {K : Act → World → Prop} {Q : Exit → Act → World → Prop} {E : Prop} (hgd : o.guard = none) (s x : Operand) (t : TypeId)
    (ho : o.op = .call { callee := .builtin .append, args := #[s, x], argTypes := #[t, t] })
    (base : Nat) (e : TypeId) (i : TypeInfo) (z : Value) (bytes : Nat) (ht : P.underlying t = some (.slice e)) (hi : P.info? e = some i) (hz : i.zero = some z)
    (hsize : i.size = 1) (hby : i.bytes = bytes) (hzs : z.cells.size = 1)
    (v : Value) (n : Nat) (xs : List Value) (hs : a.eval s = v) (hown : w.ownsRow base e 1 v n xs)
    (k : IntKind) (l : List Int) (m : Nat) (hm : l.length = m) (p : Addr) (c : Nat) (hx : a.eval x = .slice (some p) m c) (hl : IsL k w l (.slice (some p) m c))
    (h63 : n + m ≤ maxLen) (hbytes : (n + m) * bytes ≤ 140737488355328) (hbase : base ≤ w.heap.size)
    (h : ∀ v' w', w'.ownsRow base e 1 v' (n + m) (xs ++ l.map (Value.int k)) → w.grownBy w' v.ownBlock → K (a.put o.dst v') w') :
    if Region.wanted o (yielded ops a.tmps) = true then Oper.wp P o a w K Q else E := by
  subst hm
  exact step_own hgd s x t ho base e i z bytes ht hi hz hsize hby hzs v n xs hs hown k l p c hx hl h63 hbytes hbase h
theorem rot {D : List Int} {k p : Nat} {v : Int} (hk : k < D.length) (hv : D.getD k 0 = v) (hp : 1 ≤ p) : v :: ((D.drop (k + 1)).take p).take (p - 1) = (D.drop k).take p := by
  rw [List.drop_eq_getElem_cons hk, List.take_take, Nat.min_eq_left (by omega)]
  obtain ⟨p', rfl⟩ : ∃ p', p = p' + 1 := ⟨p - 1, by omega⟩
  rw [List.take_succ_cons, Nat.add_sub_cancel]
  rw [List.getD_eq_getElem?_getD, List.getElem?_eq_getElem hk] at hv
  rw [show D[k] = v from hv]
theorem apart_lt {J : IntKind} {m : Nat} {w' : World} {l' : List Int} {v u : Value} (h : ∀ k, v.ownBlock = some k → k < m) (h' : OwnL J m w' l' u) : Apart v u := by
  intro b o len c b' o' len' c' e1 e2 e3
  have h1 := h b (by rw [e1]; rfl)
  have h2 := (h'.lt b' (by rw [e2]; rfl)).1
  omega
set_option maxRecDepth 1000000 in
set_option maxHeartbeats 8000000 in
theorem normalS (a b : List Int) (la : a.length ≤ 5000) (lb1 : 1 ≤ b.length) (lb : b.length ≤ 5000) (p : Nat) (hp : Per b p) (w : World) (v0 v1 : Value) (h0 : IsL .i8 w a v0) (h1 : IsL .i8 w b v1) (n0 : Nn v0) (n1 : Nn v1) :
    Calls Try.prog 40 #[v0, v1] w fun e w' => ∃ s0 c0 s1 c1, e = .returned (.agg #[.slice s0 (dn (a ++ b) p a.length) c0, .slice s1 p c1]) ∧ Below w.heap.size w w' ∧
      Own2 .i8 w.heap.size w' ((a ++ b).take (dn (a ++ b) p a.length)) (((a ++ b).drop (dn (a ++ b) p a.length)).take p) (.slice s0 (dn (a ++ b) p a.length) c0) (.slice s1 p c1) := by
  obtain ⟨p0, k0, rfl⟩ := h0.pform n0
  obtain ⟨p1, k1, rfl⟩ := h1.pform n1
  clear n0 n1
  obtain ⟨V, hV, hB, y⟩ := boxK w (.slice none 0 0) (.slice none 0 0) 26
  have i0 := h0.keep hB
  have i1 := h1.keep hB
  obtain ⟨V1, hV1, hB1, y1⟩ : ∃ V1, V.alloc (.cells #[] 53) = V1 ∧ Below V.heap.size V V1 ∧ V1.ownsRow V.heap.size 53 1 (.slice (some ⟨V.heap.size, 0, none⟩) 0 0) 0 [] := ⟨_, rfl, (Below.refl _ _).alloc (Nat.le_refl _) _, own_lit0 (Nat.le_refl _)⟩
  have i0 := i0.keep hB1
  have I1 := Lib.hid i1
  obtain ⟨i00, hi, hz0, hz1, hz2⟩ := info_parts info8
  have hne := news_of i0
  obtain ⟨A', hA'⟩ : ∃ A', a.map (Value.int .i8) = A' := ⟨_, rfl⟩
  have hla : A'.length = a.length * 1 := by rw [← hA']; simp
  rw [hA'] at hne
  have N1 := Lib.hid hne.1
  have N2 := Lib.hid hne.2
  have HLA := Lib.hid hla
  have HAE := Lib.hid hA'
  have m1 : 0 + a.length ≤ maxLen := by unfold maxLen; omega
  have zz := hB1.size
  have Y := Lib.hid y
  clear hne hla hA' h0 h1 y
  go_enter Try.func40, Try.ntmps40
  go_wp2_with (at_builtin; refine wpList_append_own _ rfl _ _ 22 rfl V.heap.size 53 i00 (.int .i8 0) 1 1 Try.underlying22 hi hz0 hz1 hz2 rfl (by decide) _ _ _ rfl y1 p0 a.length k0 A' rfl HLA.out N1.out N2.out m1 (by omega) zz ?_)
  intro v2 W2 ho2 hg2 _
  have b2 : Below V.heap.size V W2 := hB1.grown hg2 zz (fun k hk => by cases hk; exact Nat.le_refl _)
  obtain ⟨sh, ch, rfl⟩ := own_form ho2
  have oh : OwnL .i8 V.heap.size W2 a (.slice sh a.length ch) := by
    have := ho2
    rw [← HAE.out] at this
    exact OwnL.lit0 this
  have i1 := (show IsL .i8 V b _ from I1.out).keep b2
  have hk1 : b.length ≤ k1 := by
    rcases i1 with ⟨h, _⟩ | ⟨_, _, _, h, h2, _⟩
    · cases h
    · cases h; exact h2
  obtain ⟨V3, hV3, hB3, y3⟩ : ∃ V3, W2.alloc (.cells #[] 53) = V3 ∧ Below W2.heap.size W2 V3 ∧ V3.ownsRow W2.heap.size 53 1 (.slice (some ⟨W2.heap.size, 0, none⟩) 0 0) 0 [] := ⟨_, rfl, (Below.refl _ _).alloc (Nat.le_refl _) _, own_lit0 (Nat.le_refl _)⟩
  have i1 := i1.keep hB3
  have per : Calls Try.prog 67 #[.slice (some p1) b.length k1] V3 fun e w' => e = .returned (.int .i64 p) ∧ ∃ q, w' = V3.drewN q := by
    rcases i1 with ⟨h, _⟩ | ⟨bb, o, c, h, h2, h3⟩
    · cases h
    · cases h
      refine (periodS bb o k1 b V3 lb1 (by omega) h3).mono ?_
      rintro e w' ⟨p', rfl, hp', q, hq⟩
      rw [hp'.uniq hp]
      exact ⟨rfl, q, hq⟩
  have hpb : 1 ≤ p ∧ p ≤ b.length := ⟨hp.1, hp.2.1⟩
  have hne := news_of (show IsL .i8 V3 (b.take p) (.slice (some p1) (b.take p).length k1) by rw [List.length_take, Nat.min_eq_left hpb.2]; exact i1.cut hpb.2)
  obtain ⟨B', hB'⟩ : ∃ B', (b.take p).map (Value.int .i8) = B' := ⟨_, rfl⟩
  have hlb : B'.length = p * 1 := by rw [← hB', List.length_map, List.length_take]; omega
  rw [hB'] at hne
  have M1 := Lib.hid hne.1
  have M2 := Lib.hid hne.2
  have HLB := Lib.hid hlb
  have HBE := Lib.hid hB'
  have m2 : 0 + p ≤ maxLen := by unfold maxLen; omega
  have zz3 := hB3.size
  have PER := Lib.hid per
  have hpk : (p : Int) ≤ k1 := by omega
  have b3 := b2.trans (hB3.mono b2.size)
  have zVW := b2.size
  have oh := oh.keep hB3
  have hsW : ∀ k, (Value.slice sh a.length ch).ownBlock = some k → k < W2.heap.size := fun k hk => (ho2.lt k hk).2
  have HSW := Lib.hid hsW
  clear hne hlb hB' per hg2 ho2 hsW i1 i0 y1 hV1 hV hB3 b2 N1 N2 HLA hB1 zz
  go_wp2_with (first
    | (go_at_call 67; refine PER.out.mono ?_; rintro e W3 ⟨rfl, q, rfl⟩)
    | (at_builtin; refine wpList_append_own _ rfl _ _ 22 rfl W2.heap.size 53 i00 (.int .i8 0) 1 1 Try.underlying22 hi hz0 hz1 hz2 rfl (by decide) _ _ _ rfl (show (V3.drewN q).ownsRow _ _ _ _ _ _ from y3) p1 p k1 B' rfl HLB.out M1.out M2.out m2 (by omega) zz3 ?_))
  intro v4 W4 ho4 hg4 _
  obtain ⟨sl, cl, rfl⟩ := own_form ho4
  have ol : OwnL .i8 W2.heap.size W4 (b.take p) (.slice sl p cl) := by
    have := ho4
    rw [← HBE.out] at this
    exact OwnL.lit0 this
  have bW : Below W2.heap.size V3 W4 := (show Below W2.heap.size V3 (V3.drewN q) from ⟨rfl, rfl, rfl, Nat.le_refl _, fun _ _ => rfl⟩).grown hg4 zz3 (fun k hk => by cases hk; exact Nat.le_refl _)
  have oh := oh.under HSW.out bW
  have pA := apart_lt HSW.out ol
  have bV : Below V.heap.size V W4 := b3.trans (bW.mono zVW)
  have y4 := (show Bk V _ _ _ _ from Y.out).keep bV
  have hBw := hB.trans (bV.mono hB.size)
  have own0 : Own2 .i8 V.heap.size W4 ((a ++ b).take a.length) (((a ++ b).drop a.length).take p) (.slice sh a.length ch) (.slice sl p cl) := by
    rw [List.take_left, List.drop_left]
    exact ⟨oh, ol.mono zVW, pA⟩
  have zwV : w.heap.size < V.heap.size := (show Bk V _ _ _ _ from Y.out).lt
  have zV4 := bV.size
  have O0 := Lib.hid own0
  have Y4 := Lib.hid y4
  have HBW := Lib.hid hBw
  clear own0 y4 hBw bV pA oh bW ol hg4 ho4 PER HSW y3 M1 M2 HLB zz3 b3 hV3 i1 m2 hpk
  go_wp2
  go_loopw [5, 6] (fun hv lv wr => ∃ (k : Nat) (sh : Option Addr) (ch : Nat) (sl : Option Addr) (cl : Nat), hv = .slice sh k ch ∧ lv = .slice sl p cl ∧ k ≤ a.length ∧ Hid (dn (a ++ b) p a.length = dn (a ++ b) p k) ∧
      Own2 .i8 V.heap.size wr ((a ++ b).take k) (((a ++ b).drop k).take p) (.slice sh k ch) (.slice sl p cl) ∧ Below w.heap.size w wr ∧ Bk wr w.heap.size (.slice none 0 0) (.slice none 0 0) 26 ∧ V.heap.size ≤ wr.heap.size)
    (fun hv _ _ => match hv with | .slice _ n _ => n | _ => 0)
  case atStart => exact ⟨a.length, sh, ch, sl, cl, rfl, rfl, Nat.le_refl _, rfl, O0.out, HBW.out, Y4.out, zV4⟩
  case round =>
    obtain ⟨k, sh, ch, sl, cl, rfl, rfl, hk, hdn, hO, hBw, hY, hVw⟩ := hrel
    cases k with
    | zero =>
      have q0 := hY.c0
      have q1 := hY.c1
      have f0 := hY.f 0
      have f1 := hY.f 1
      have HD : Hid (dn (a ++ b) p a.length = 0) := hdn.out
      have HO := Lib.hid hO
      have HYY := Lib.hid hY
      clear hO hdn hY
      go_wp2
      go_quiet (fail)
      go_wp2
      obtain ⟨W9, hW9, e0, e1, r9, B9⟩ := stored (show Bk (wr.drewN nq) w.heap.size _ _ _ from HYY.out) (.slice sh 0 ch) (.slice sl p cl)
      rw [hW9]
      refine bodyPost_ret (v := .agg #[.slice sh 0 ch, .slice sl p cl]) (by simp [results, Try.results40, go_sem, e0, e1]) rfl ?_
      have hB9 : Below w.heap.size w W9 := (hBw.trans (show Below w.heap.size wr (wr.drewN nq) from ⟨rfl, rfl, rfl, Nat.le_refl _, fun _ _ => rfl⟩)).trans (B9 _ (Nat.le_refl _))
      refine ⟨sh, ch, sl, cl, by rw [HD.out], hB9, ?_⟩
      rw [HD.out]
      have o := HO.out
      exact ⟨(OwnL.rest (w := wr) o.o0 zwV r9).mono (by omega), (OwnL.rest (w := wr) o.o1 zwV r9).mono (by omega), o.apart⟩
    | succ k =>
      have hDl : (a ++ b).length = a.length + b.length := List.length_append
      have hL := Lib.hid hDl
      have O := Lib.hid hO
      have e1 : ((a ++ b).take (k + 1)).length = k + 1 := by rw [List.length_take, hDl]; omega
      have e2 : (((a ++ b).drop (k + 1)).take p).length = p := by rw [List.length_take, List.length_drop, hDl]; omega
      have hexh : ∃ hb ho, sh = some ⟨hb, ho, none⟩ ∧ k + 1 ≤ ch ∧ wr.cell? ⟨hb, ho + k, none⟩ = some (.int .i8 ((a ++ b).getD k 0)) := by
        rcases hO.o0 with ⟨e, _⟩ | ⟨hb, ho, c, cs, ty, e, h2, h3, h4, h5, h6⟩
        · cases e
        · obtain ⟨rfl, _, rfl⟩ := Value.slice.inj e
          refine ⟨hb, ho, rfl, by omega, ?_⟩
          rw [Lib.cell_of_heap h3]
          refine h6 k _ ?_
          rw [List.getElem?_take, if_pos (by omega)]
          exact getD_some (by rw [hDl]; omega)
      have hexl : ∃ lb lo, sl = some ⟨lb, lo, none⟩ ∧ p ≤ cl ∧ wr.cell? ⟨lb, lo + (p - 1), none⟩ = some (.int .i8 ((a ++ b).getD (k + p) 0)) := by
        rcases hO.o1 with ⟨e, _⟩ | ⟨lb, lo, c, cs, ty, e, h2, h3, h4, h5, h6⟩
        · obtain ⟨_, e, _⟩ := Value.slice.inj e
          omega
        · obtain ⟨rfl, _, rfl⟩ := Value.slice.inj e
          refine ⟨lb, lo, rfl, by omega, ?_⟩
          rw [Lib.cell_of_heap h3]
          refine h6 (p - 1) _ ?_
          rw [List.getElem?_take, if_pos (by omega), List.getElem?_drop, show k + 1 + (p - 1) = k + p by omega]
          exact getD_some (by rw [hDl]; omega)
      obtain ⟨hb, ho, rfl, hkch, hc1⟩ := hexh
      obtain ⟨lb, lo, rfl, hpcl, hc2⟩ := hexl
      have HSTEP := Lib.hid (show dn (a ++ b) p (k + 1) = if (a ++ b).getD k 0 = (a ++ b).getD (k + p) 0 then dn (a ++ b) p k else k + 1 from rfl)
      obtain ⟨u, hu⟩ : ∃ u, (a ++ b).getD k 0 = u := ⟨_, rfl⟩
      obtain ⟨v, hv⟩ : ∃ v, (a ++ b).getD (k + p) 0 = v := ⟨_, rfl⟩
      rw [hu] at hc1 HSTEP
      rw [hv] at hc2 HSTEP
      have HU := Lib.hid hu
      have hw1 : IntKind.i64.wrap (k : Int) = (k : Int) := by rw [IntKind.wrap_i64]; omega
      have hp0 : (0 : Int) ≤ (p : Int) - 1 := by omega
      have hp5 : (1 : Int) ≤ (p : Int) := by omega
      have hp6 : (p : Int) - 1 ≤ cl := by omega
      have hp7 : (p : Int) ≤ cl + 1 := by omega
      have hp1 : (p : Int) - 1 < p := by omega
      have hp2 : IntKind.i64.wrap ((p : Int) - 1) = (p : Int) - 1 := by rw [IntKind.wrap_i64]; omega
      have hp3 : ((p : Int) - 1).toNat = p - 1 := by omega
      have hp4 : (p : Int) - 1 ≤ cl := by omega
      have hk4 : (k : Int) ≤ ch := by omega
      have HY := Lib.hid hY
      have HE2 := Lib.hid e2
      have HE1 := Lib.hid e1
      clear hO hDl e1 e2 hu hv
      by_cases huv : u = v
      · subst huv
        have hY' := HY
        clear hY
        go_wp2
        go_quiet (fail)
        clear hw1
        go_wp2
        obtain ⟨wq, hwq⟩ : ∃ wq, wr.drewN nq = wq := ⟨_, rfl⟩
        have bq : Below wr.heap.size wr wq := by rw [← hwq]; exact ⟨rfl, rfl, rfl, Nat.le_refl _, fun _ _ => rfl⟩
        have Oq := Lib.hid (O.out.same (w' := wq) (by rw [← hwq]; rfl))
        have Yq := Lib.hid ((show Bk wr _ _ _ _ from HY.out).same (w' := wq) (by rw [← hwq]; rfl))
        have hc2 : wq.cell? ⟨lb, lo + (p - 1), none⟩ = some (.int .i8 u) := by rw [← hwq]; exact hc2
        have hBq := hBw.trans (bq.mono hBw.size)
        have hVq : V.heap.size ≤ wq.heap.size := by rw [← hwq]; exact hVw
        have Ix := Lib.hid ((show IsL .i8 wq (((a ++ b).drop (k + 1)).take p) (.slice (some ⟨lb, lo, none⟩) (((a ++ b).drop (k + 1)).take p).length cl) by rw [HE2.out]; exact Oq.out.o1.is).cut (m := p - 1) (by rw [HE2.out]; omega))
        have hlx := Lib.hid (show ((((a ++ b).drop (k + 1)).take p).take (p - 1)).length = p - 1 by rw [List.length_take, HE2.out]; omega)
        have ROT := Lib.hid (rot (D := a ++ b) (k := k) (p := p) (v := u) (by rw [hL.out]; omega) HU.out hpb.1)
        obtain ⟨L0, hL0⟩ : ∃ L0, (((a ++ b).drop (k + 1)).take p).take (p - 1) = L0 := ⟨_, rfl⟩
        rw [hL0] at Ix hlx ROT
        have m3 : 1 + (p - 1) ≤ maxLen := by unfold maxLen; omega
        have HC2 := Lib.hid hc2
        have hlq : lb < wq.heap.size := cell_lt hc2
        rw [hwq]
        clear hwq bq hBw hVw hL0 hc1 O HY hY'
        go_region_held3 (fun w' => w'.cell? ⟨lb, lo + (p - 1), none⟩ = some (.int .i8 u))
          (first | go_keep | exact (hb2.cell (p := ⟨lb, lo + (p - 1), none⟩) hlq).trans HC2.out)
          ((refine step_own_m (by rfl) _ _ _ (by rfl) wq.heap.size 53 i00 (.int .i8 0) 1 Try.underlying22 hi hz0 hz1 hz2 rfl (.slice (some ⟨_, 0, none⟩) 1 1) 1 _ (by rfl) (by exact (own_lit1 (Nat.le_refl _)).drew) .i8 L0 (p - 1) hlx.out ⟨lb, lo, none⟩ cl (by rfl) (by exact Ix.out.keep (bel1 _ _)) m3 (by omega) (by simp) ?_;
            intro v' w2 hownA hgA;
            obtain ⟨sA, cA, rfl⟩ := own_form hownA;
            have hb2 : Below wq.heap.size wq w2 := (bel1 _ _).grown hgA (by simp) (fun k hk => by cases hk; simp)))
        have hB2 : Below w.heap.size w w2 := hBq.trans (hb2.mono hBq.size)
        have ohk : OwnL .i8 V.heap.size w2 ((a ++ b).take k) (.slice (some ⟨hb, ho, none⟩) k ch) := by
          have h := (show OwnL .i8 V.heap.size wq ((a ++ b).take (k + 1)) (.slice (some ⟨hb, ho, none⟩) ((a ++ b).take (k + 1)).length ch) by rw [HE1.out]; exact Oq.out.o0).keep hb2
          have := h.cut (m := k) (by rw [HE1.out]; omega)
          rwa [List.take_take, Nat.min_eq_left (by omega)] at this
        have olk : OwnL .i8 wq.heap.size w2 (((a ++ b).drop k).take p) (.slice sA (1 + (p - 1)) cA) := by
          have h := hownA
          rw [← ROT.out]
          exact OwnL.lit0 (by rw [List.map_cons]; exact h)
        rw [show 1 + (p - 1) = p by omega] at olk
        have hlt : ∀ q, (Value.slice (some ⟨hb, ho, none⟩) k ch).ownBlock = some q → q < wq.heap.size := fun q hq => (Oq.out.o0.lt q hq).2
        have pAk := apart_lt hlt olk
        have yk := (show Bk wq _ _ _ _ from Yq.out).keep hb2
        have zk := hb2.size
        have hd' : Hid (dn (a ++ b) p a.length = dn (a ++ b) p k) := by
          have := hdn.out
          first | rw [HSTEP.out, if_pos rfl] at this | rw [HSTEP.out, if_pos trivial] at this
          exact this
        have OK := Lib.hid (show Own2 .i8 V.heap.size w2 ((a ++ b).take k) (((a ++ b).drop k).take p) (.slice (some ⟨hb, ho, none⟩) k ch) (.slice sA p cA) from ⟨ohk, olk.mono hVq, pAk⟩)
        have YK := Lib.hid yk
        clear ohk olk pAk yk hownA hgA hc2
        go_wp2
        go_roundw
        case rel => exact ⟨k, _, ch, sA, cA, rfl, by first | rfl | (congr 1; omega), by omega, hd', OK.out, hB2, YK.out, by omega⟩
        case measure => simp
      · have HD : Hid (dn (a ++ b) p a.length = k + 1) := by
          have := hdn.out
          rw [HSTEP.out, if_neg huv] at this
          exact this
        have q0 := hY.c0
        have q1 := hY.c1
        have f0 := hY.f 0
        have f1 := hY.f 1
        have hne : (u == v) = false := by rw [beq_eq_false_iff_ne]; exact huv
        clear hY hdn
        go_wp2
        go_quiet (fail)
        clear hw1 hp2 hp3
        go_wp2
        obtain ⟨W9, hW9, e0, e1, r9, B9⟩ := stored (show Bk (wr.drewN nq) w.heap.size _ _ _ from HY.out) (.slice (some ⟨hb, ho, none⟩) (k + 1) ch) (.slice (some ⟨lb, lo, none⟩) p cl)
        rw [hW9]
        refine bodyPost_ret (v := .agg #[.slice (some ⟨hb, ho, none⟩) (k + 1) ch, .slice (some ⟨lb, lo, none⟩) p cl]) (by simp [results, Try.results40, go_sem, e0, e1]) rfl ?_
        have hB9 : Below w.heap.size w W9 := (hBw.trans (show Below w.heap.size wr (wr.drewN nq) from ⟨rfl, rfl, rfl, Nat.le_refl _, fun _ _ => rfl⟩)).trans (B9 _ (Nat.le_refl _))
        refine ⟨_, ch, _, cl, by rw [HD.out], hB9, ?_⟩
        rw [HD.out]
        have o := O.out
        exact ⟨(OwnL.rest (w := wr) o.o0 zwV r9).mono (by omega), (OwnL.rest (w := wr) o.o1 zwV r9).mono (by omega), o.apart⟩
end Go.Proofs.Ytlkbnpgembgdfaa.Sx
