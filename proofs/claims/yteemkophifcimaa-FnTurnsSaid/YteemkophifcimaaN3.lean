/-
  The model of the stream of half the value.
-/
import Derived.Test.YteemkophifcimaaN2
import Derived.Deep.RegionHeld3
import Derived.Deep.AppendLies
namespace Go.Proofs.Yteemkophifcimaa.Sx
open Go Go.RowKit
set_option linter.unusedVariables false
set_option linter.unusedSimpArgs false

/-- append of a list that is read to an own row, as a step of a region that draws. -/
theorem step_own {P : Program} {ops : Array Oper} {o : Oper} {a : Act} {w : World} {K : Act → World → Prop} {Q : Exit → Act → World → Prop} {E : Prop} (hgd : o.guard = none) (s x : Operand) (t : TypeId)
    (ho : o.op = .call { callee := .builtin .append, args := #[s, x], argTypes := #[t, t] })
    (base : Nat) (e : TypeId) (i : TypeInfo) (z : Value) (bytes : Nat) (ht : P.underlying t = some (.slice e)) (hi : P.info? e = some i) (hz : i.zero = some z)
    (hsize : i.size = 1) (hby : i.bytes = bytes) (hzs : z.cells.size = 1)
    (v : Value) (n : Nat) (xs : List Value) (hs : a.eval s = v) (hown : w.ownsRow base e 1 v n xs)
    (k : IntKind) (l : List Int) (p : Addr) (c : Nat) (hx : a.eval x = .slice (some p) l.length c) (hl : IsL k w l (.slice (some p) l.length c))
    (h63 : n + l.length ≤ maxLen) (hbytes : (n + l.length) * bytes ≤ 140737488355328) (hbase : base ≤ w.heap.size)
    (h : ∀ v' w', w'.ownsRow base e 1 v' (n + l.length) (xs ++ l.map (Value.int k)) → w.grownBy w' v.ownBlock → K (a.put o.dst v') w') :
    if Region.wanted o (yielded ops a.tmps) = true then Oper.wp P o a w K Q else E := by
  have hw : Region.wanted o (yielded ops a.tmps) = true := by simp [Region.wanted, hgd]
  rw [if_pos hw]
  rcases hl with ⟨hl, _⟩ | ⟨b', o', c', hl, _, h3⟩
  · cases hl
  · cases hl
    refine wp_append_own w s x t ho base e i z 1 bytes ht hi hz hsize hby hzs (by decide) v n xs hs hown ⟨b', o', none⟩ l.length c (l.map (Value.int k)) hx (by simp) (fun j u hj => ?_) (fun u hu => ?_) h63 hbytes hbase (fun v' w' h1 h2 _ => h v' w' h1 h2)
    · rw [List.getElem?_map] at hj
      obtain ⟨y, hy, rfl⟩ := Option.map_eq_some_iff.1 hj
      have e : ((⟨b', o', none⟩ : Addr).add j) = ⟨b', o' + j, none⟩ := by unfold Addr.add; split <;> simp_all
      rw [e]; exact h3 j y hy
    · obtain ⟨y, _, rfl⟩ := List.mem_map.1 hu
      rfl
theorem step_lies {P : Program} {ops : Array Oper} {o : Oper} {a : Act} {w : World} {K : Act → World → Prop} {Q : Exit → Act → World → Prop} {E : Prop} (hgd : o.guard = none) (s x : Operand) (t : TypeId)
    (ho : o.op = .call { callee := .builtin .append, args := #[s, x], argTypes := #[t, t] })
    (base : Nat) (e : TypeId) (i : TypeInfo) (z : Value) (bytes : Nat) (ht : P.underlying t = some (.slice e)) (hi : P.info? e = some i) (hz : i.zero = some z)
    (hsize : i.size = 1) (hby : i.bytes = bytes) (hzs : z.cells.size = 1)
    (v : Value) (n : Nat) (xs : List Value) (hs : a.eval s = v) (hown : w.ownsRow base e 1 v n xs)
    (k : IntKind) (l : List Int) (p : Addr) (c : Nat) (hx : a.eval x = .slice (some p) l.length c) (hl : IsL k w l (.slice (some p) l.length c)) (hm : 0 < l.length)
    (h63 : n + l.length ≤ maxLen) (hbytes : (n + l.length) * bytes ≤ 140737488355328) (hbase : base ≤ w.heap.size)
    (h : ∀ g cap w', w'.ownsRow base e 1 (.slice (some ⟨g, 0, none⟩) (n + l.length) cap) (n + l.length) (xs ++ l.map (Value.int k)) → w.grownBy w' v.ownBlock → (v.ownBlock = some g ∨ g = w.heap.size) → K (a.put o.dst (.slice (some ⟨g, 0, none⟩) (n + l.length) cap)) w') :
    if Region.wanted o (yielded ops a.tmps) = true then Oper.wp P o a w K Q else E := by
  have hw : Region.wanted o (yielded ops a.tmps) = true := by simp [Region.wanted, hgd]
  rw [if_pos hw]
  rcases hl with ⟨hl, _⟩ | ⟨b', o', c', hl, _, h3⟩
  · cases hl
  · cases hl
    refine wp_append_lies w s x t ho base e i z 1 bytes ht hi hz hsize hby hzs (by decide) v n xs hs hown ⟨b', o', none⟩ l.length c (l.map (Value.int k)) hx (by simp) (fun j u hj => ?_) (fun u hu => ?_) hm h63 hbytes hbase w.heap.size rfl (fun g cap w' h1 h2 h3 _ => h g cap w' h1 h2 h3)
    · rw [List.getElem?_map] at hj
      obtain ⟨y, hy, rfl⟩ := Option.map_eq_some_iff.1 hj
      have e : ((⟨b', o', none⟩ : Addr).add j) = ⟨b', o' + j, none⟩ := by unfold Addr.add; split <;> simp_all
      rw [e]; exact h3 j y hy
    · obtain ⟨y, _, rfl⟩ := List.mem_map.1 hu
      rfl
theorem own_new_ne {w : World} {B : Nat} {e : TypeId} {v : Value} {n q : Nat} {xs : List Value} (h : w.ownsRow B e 1 v n xs) (hq : w.heap.size ≤ q) : v.ownBlock ≠ some q := fun e => by
  have := (h.lt q e).2
  omega
theorem own_lit1 {w : World} {B : Nat} {x : Value} {t : TypeId} (hB : B ≤ w.heap.size) : (w.alloc (.cells #[x] t)).ownsRow B t 1 (.slice (some ⟨w.heap.size, 0, none⟩) 1 1) 1 [x] :=
  ⟨rfl, .inr ⟨w.heap.size, 1, #[x], rfl, hB, by show (w.heap.push _)[w.heap.size]? = _; simp, Nat.le_refl _, by decide, rfl, rfl⟩⟩
theorem own_lit0 {w : World} {B : Nat} {t : TypeId} (hB : B ≤ w.heap.size) : (w.alloc (.cells #[] t)).ownsRow B t 1 (.slice (some ⟨w.heap.size, 0, none⟩) 0 0) 0 [] :=
  World.ownsRow_made w #[] 0 hB (by decide) rfl
theorem own_lit1_at {w : World} {B n : Nat} {x : Value} {t : TypeId} (hn : w.heap.size = n) (hB : B ≤ w.heap.size) : (w.alloc (.cells #[x] t)).ownsRow B t 1 (.slice (some ⟨n, 0, none⟩) 1 1) 1 [x] := by
  subst hn; exact own_lit1 hB
theorem own_lit0_at {w : World} {B n : Nat} {t : TypeId} (hn : w.heap.size = n) (hB : B ≤ w.heap.size) : (w.alloc (.cells #[] t)).ownsRow B t 1 (.slice (some ⟨n, 0, none⟩) 0 0) 0 [] := by
  subst hn; exact own_lit0 hB
theorem set2_cell (w : World) {b c : Nat} (o : Nat) (x y : Value) (h : c ≠ b) : ((w.setCell ⟨b, 0, none⟩ x).setCell ⟨b, 1, none⟩ y).cell? ⟨c, o, none⟩ = w.cell? ⟨c, o, none⟩ := by
  refine World.cell?_of_block (w := w) ?_
  rw [Below.heap_setCell _ _ _ _ h, Below.heap_setCell _ _ _ _ h]
theorem own_empty_ne {w : World} {B : Nat} {e : TypeId} {v : Value} {n q : Nat} {xs : List Value} (h : w.ownsRow B e 1 v n xs) (hn : 1 ≤ n) (h' : w.ownsRow B e 1 (.slice (some ⟨q, 0, none⟩) 0 0) 0 []) : v.ownBlock ≠ some q := by
  intro e0
  obtain ⟨_, ⟨rfl, _⟩ | ⟨g, cap, cur, rfl, _, h3, h4, _, h6, _⟩⟩ := h
  · cases e0
  · cases e0
    obtain ⟨_, ⟨h7, _⟩ | ⟨g', cap', cur', h7, _, h8, _, _, h9, _⟩⟩ := h'
    · cases h7
    · cases h7
      rw [h3] at h8
      cases h8
      omega
theorem bel1 (w : World) (o : Obj) : Below w.heap.size w (w.alloc o).drew := ((Below.refl _ _).alloc (Nat.le_refl _) _).drew
theorem bel2 (w : World) (o o' : Obj) : Below w.heap.size w ((w.alloc o).alloc o').drew := (((Below.refl _ _).alloc (Nat.le_refl _) _).alloc (by simp) _).drew
theorem own_form {w : World} {B : Nat} {e : TypeId} {v : Value} {n : Nat} {xs : List Value} (h : w.ownsRow B e 1 v n xs) : ∃ s c, v = .slice s n c := by
  obtain ⟨_, ⟨rfl, rfl⟩ | ⟨g, cap, cur, rfl, _⟩⟩ := h
  · exact ⟨_, _, rfl⟩
  · exact ⟨_, _, rfl⟩
theorem own_base {w : World} {B : Nat} {e : TypeId} {v : Value} {n : Nat} {xs : List Value} (h : w.ownsRow B e 1 v n xs) : ∀ k, v.ownBlock = some k → B ≤ k := fun k hk => (h.lt k hk).1
theorem own_apart {w : World} {B : Nat} {e : TypeId} {v u : Value} {n m : Nat} {xs ys : List Value} (h : w.ownsRow B e 1 v n xs) (h' : w.ownsRow B e 1 u m ys) (hne : v.ownBlock = none ∨ v.ownBlock ≠ u.ownBlock) : Apart v u := by
  intro b o len c b' o' len' c' e1 e2 e3
  subst e1 e2 e3
  rcases hne with hne | hne
  · cases hne
  · exact absurd rfl hne
/-- The model's answer: a zero in front. -/
def halfL (a : List Int) : List Int := 0 :: a
set_option maxRecDepth 1000000 in
set_option maxHeartbeats 8000000 in
theorem halfS_yes (a b : List Int) (hv : vsB a b = true) (h16 : a.length ≠ 16) : Does 16 a b (halfL a) b 0 := by
  intro w v0 v1 h0 h1 n0 n1
  have hvv := (vsB_iff a b).1 hv
  obtain ⟨p0, k0, rfl⟩ := h0.pform n0
  obtain ⟨p1, k1, rfl⟩ := h1.pform n1
  clear n0 n1
  obtain ⟨W, V, hW, hV, hB, x, y, zV, zW, _, _⟩ := twoBoxes w (.slice (some p0) a.length k0) (.slice (some p1) b.length k1)
  have i0 := h0.keep hB
  have i1 := h1.keep hB
  have ok := okS x i0 i1 (by omega) (by omega)
  rw [hv] at ok
  have c0 := x.c0
  have c1 := x.c1
  have q0 := y.c0
  have q1 := y.c1
  have f0 := y.f 0
  have f1 := y.f 1
  have X := Lib.hid x
  have Y := Lib.hid y
  have hlB2 : ∀ (s : Option Addr) (n k : Nat) (W : World), (Builtin.len_ #[22] 3 #[.slice s n k]).run Try.prog W = .ok (.int .i64 n) W := fun s n k W => rfl
  have h16' : ((a.length : Int) == 16) = false := by rw [beq_eq_false_iff_ne]; omega
  have la : a.length ≤ 16 := hvv.1
  have lb : b.length ≤ 14 := hvv.2.2.1
  have lb0 : 0 < b.length := hvv.2.1
  obtain ⟨i00, hi, hz0, hz1, hz2⟩ := info_parts info8
  obtain ⟨B, hBe⟩ : ∃ B, V.heap.size = B := ⟨_, rfl⟩
  have HBE := Lib.hid hBe
  clear hv hvv h0 h1 x y h16 hBe
  go_enter Try.func16, Try.ntmps16
  go_wp2_with (go_at_call 39; refine ok.mono ?_)
  first | (rintro e W1 rfl hs) | (rintro e W1 ⟨rfl, hs⟩)
  obtain rfl := hs.out
  clear hs ok
  go_wp2
  have hBB : B ≤ W1.heap.size := Nat.le_of_eq HBE.out.symm
  have hx0 : w.heap.size < W1.heap.size := by omega
  have hx2 : w.heap.size ≠ W.heap.size := by omega
  have la2 : 1 + a.length ≤ maxLen := by unfold maxLen; omega
  have lb2 : 0 + b.length ≤ maxLen := by unfold maxLen; omega
  have HC0 := Lib.hid c0
  have HC1 := Lib.hid c1
  go_region_held3 (fun w' => w'.cell? ⟨w.heap.size, 0, none⟩ = some (.slice (some p0) a.length k0) ∧ w'.cell? ⟨w.heap.size, 1, none⟩ = some (.slice (some p1) b.length k1))
    (first
      | go_keep
      | exact ⟨(set2_cell _ 0 _ _ hx2).trans ((hb3.cell (p := ⟨w.heap.size, 0, none⟩) hx0).trans HC0.out), (set2_cell _ 1 _ _ hx2).trans ((hb3.cell (p := ⟨w.heap.size, 1, none⟩) hx0).trans HC1.out)⟩
      | exact ⟨(hb3.cell (p := ⟨w.heap.size, 0, none⟩) hx0).trans HC0.out, (hb3.cell (p := ⟨w.heap.size, 1, none⟩) hx0).trans HC1.out⟩
      | exact ⟨(hb2.cell (p := ⟨w.heap.size, 0, none⟩) hx0).trans HC0.out, (hb2.cell (p := ⟨w.heap.size, 1, none⟩) hx0).trans HC1.out⟩)
    (first
      | ((refine step_own (by rfl) _ _ _ (by rfl) B 58 i00 (.int .i8 0) 1 Try.underlying22 hi hz0 hz1 hz2 rfl (.slice (some ⟨_, 0, none⟩) 1 1) 1 _ (by rfl) (by first | exact (own_lit1 hBB).drew | exact ((own_lit1 hBB).alloc _).drew | exact (own_lit1_at (by simp) (by simp; omega)).drew) .i8 a p0 k0 (by rfl) (by first | exact i0.keep (bel1 _ _) | exact i0.keep (bel2 _ _ _)) la2 (by omega) (by simp; omega) ?_);
         intro v' w2 hownA hgA;
         obtain ⟨sA, cA, rfl⟩ := own_form hownA;
         have hb2 : Below W1.heap.size W1 w2 := (by first | exact (bel1 _ _).grown hgA (by simp) (fun k hk => by cases hk; simp) | exact (bel2 _ _ _).grown hgA (by simp; omega) (fun k hk => by cases hk; simp)))
      | ((refine step_lies (by rfl) _ _ _ (by rfl) B 58 i00 (.int .i8 0) 1 Try.underlying22 hi hz0 hz1 hz2 rfl (.slice (some ⟨_, 0, none⟩) 0 0) 0 _ (by rfl) (by first | exact own_lit0 (Nat.le_trans hBB hb2.size) | exact (own_lit0_at (by simp) (by simp; omega)).drew.kept hgA (by simp [Value.ownBlock]) | exact ((own_lit0 hBB).alloc _).drew.kept hgA (by simp [Value.ownBlock])) .i8 b p1 k1 (by rfl) (by first | exact i1.keep hb2 | exact i1.keep (hb2.alloc hb2.size _)) lb0 lb2 (by omega) (by first | exact Nat.le_trans hBB hb2.size | exact Nat.le_trans hBB (Nat.le_trans hb2.size (by simp))) ?_);
         intro gB cB w3 hownB hgB hgat;
         have hb3 : Below W1.heap.size W1 w3 := (by first | exact hb2.grown hgB hb2.size (fun k hk => by cases hk; simp) | exact (hb2.alloc hb2.size _).grown hgB (Nat.le_trans hb2.size (by simp)) (fun k hk => by cases hk; exact hb2.size));
         have y3 := Y.out.keep hb3; have r0 := y3.c0; have r1 := y3.c1; have g0 := y3.f 0; have g1 := y3.f 1))
  all_goals
    go_wp2
    have hoA : w3.ownsRow B 58 1 (.slice sA (1 + a.length) cA) (1 + a.length) ([Value.int .i8 0] ++ a.map (Value.int .i8)) := by
      first
        | exact (hownA.alloc _).kept hgB (.inr (own_new_ne hownA (Nat.le_refl _)))
        | exact hownA.kept hgB (.inr (own_empty_ne hownA (by omega) ((own_lit0_at (by simp) (by simp; omega)).drew.kept hgA (by simp [Value.ownBlock]))))
        | exact hownA.kept hgB (.inr (own_empty_ne hownA (by omega) (((own_lit0 hBB).alloc _).drew.kept hgA (by simp [Value.ownBlock]))))
    have hne : (Value.slice sA (1 + a.length) cA).ownBlock ≠ some gB := by
      rcases hgat with h | rfl
      · rw [← h]
        first
          | exact own_new_ne hownA (Nat.le_refl _)
          | exact own_empty_ne hownA (by omega) ((own_lit0_at (by simp) (by simp; omega)).drew.kept hgA (by simp [Value.ownBlock]))
          | exact own_empty_ne hownA (by omega) (((own_lit0 hBB).alloc _).drew.kept hgA (by simp [Value.ownBlock]))
      · first
          | exact own_new_ne hownA (Nat.le_refl _)
          | exact own_new_ne hownA (by simp)
    have oA : OwnL .i8 B w3 (halfL a) (.slice sA (1 + a.length) cA) := OwnL.of_row hoA (by simp [halfL]; omega) (by simp [halfL])
    have oB : OwnL .i8 B w3 b (.slice (some ⟨gB, 0, none⟩) b.length cB) := by
      have := hownB
      rw [Nat.zero_add] at this
      exact OwnL.of_row this rfl (by simp)
    have pAB : Apart (.slice sA (1 + a.length) cA) (.slice (some ⟨gB, 0, none⟩) b.length cB) := by
      intro b1 o1 l1 c1 b2 o2 l2 c2 e1 e2 e3
      cases e2
      subst e3
      exact absurd (by rw [e1]; rfl) hne
    obtain ⟨W9, hW9, e0, e1, r9, B9⟩ := stored y3 (.slice sA (1 + a.length) cA) (.slice (some ⟨gB, 0, none⟩) b.length cB)
    rw [hW9]
    refine bodyPost_ret (v := .tuple #[.agg #[.slice sA (1 + a.length) cA, .slice (some ⟨gB, 0, none⟩) b.length cB], .int .i64 0]) (by simp [results, Try.results16, go_sem, e0, e1]) rfl ?_
    have el : 1 + a.length = (halfL a).length := by simp [halfL]; omega
    rw [el] at oA pAB ⊢
    have hWB : W.heap.size < B := by rw [← HBE.out]; exact zV
    have hwB : w.heap.size ≤ B := by omega
    exact ⟨⟨_, _, _, _, rfl, (oA.rest hWB r9).mono hwB, (oB.rest hWB r9).mono hwB, pAB⟩, (hB.trans (hb3.mono hB.size)).trans (B9 _ (by omega))⟩
end Go.Proofs.Yteemkophifcimaa.Sx
