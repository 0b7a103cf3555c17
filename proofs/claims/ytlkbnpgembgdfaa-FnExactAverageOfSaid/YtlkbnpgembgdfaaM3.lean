/-
  The stream of a ratio's digits, by the code: its loop.
-/
import Derived.Test.YtlkbnpgembgdfaaM2
import Derived.Test.YtlkbnpgembgdfaaC1
namespace Go.Proofs.Ytlkbnpgembgdfaa.Sx
open Go Go.RowKit
set_option linter.unusedVariables false
set_option linter.unusedSimpArgs false

/-- What is left behind each digit. -/
def orb (q p : Int) : Nat → Int
  | 0 => p
  | j + 1 => rnx q (orb q p j)
theorem rnx_in {q p : Int} (hq : 1 ≤ q) (h : -q ≤ p ∧ p ≤ q) : -q ≤ rnx q p ∧ rnx q p ≤ q := by
  unfold rnx rdg
  split
  · omega
  · split <;> omega
theorem orb_in {q p : Int} (hq : 1 ≤ q) (h : -q ≤ p ∧ p ≤ q) : ∀ j, -q ≤ orb q p j ∧ orb q p j ≤ q
  | 0 => h
  | j + 1 => rnx_in hq (orb_in hq h j)
def odL (q p : Int) (k : Nat) : List Int := (List.range k).map fun j => rdg q (orb q p j)
theorem odL_len (q p : Int) (k : Nat) : (odL q p k).length = k := by simp [odL]
theorem odL_succ (q p : Int) (k : Nat) : odL q p (k + 1) = odL q p k ++ [rdg q (orb q p k)] := by unfold odL; rw [List.range_succ, List.map_append]; rfl
def rkey (q x : Int) : Value := .agg #[.int .i64 x, .int .i64 q]
theorem rkey_ne {q x y : Int} (h : x ≠ y) : rkey q x ≠ rkey q y := by
  unfold rkey
  intro e
  simp at e
  exact h e
/-- What the map gives behind k digits. -/
noncomputable def fmk (q p : Int) : Nat → Value → Option Int
  | 0 => fun _ => none
  | k + 1 => updF (fmk q p k) (rkey q (orb q p k)) k
theorem fmk_none {q p x : Int} : ∀ {k : Nat}, (∀ i, i < k → orb q p i ≠ x) → fmk q p k (rkey q x) = none
  | 0, _ => rfl
  | k + 1, h => by
    unfold fmk
    rw [updF_other _ _ (rkey_ne fun e => h k (by omega) e.symm)]
    exact fmk_none fun i hi => h i (by omega)
theorem fmk_some {q p x : Int} {i : Nat} (he : orb q p i = x) : ∀ {k : Nat}, i < k → (∀ j, j < k → j ≠ i → orb q p j ≠ x) → fmk q p k (rkey q x) = some (i : Int)
  | 0, h, _ => by omega
  | k + 1, h, hd => by
    unfold fmk
    by_cases e : k = i
    · subst e
      rw [he, updF_same]
    · rw [updF_other _ _ (rkey_ne fun e' => hd k (by omega) e e'.symm)]
      exact fmk_some he (by omega) fun j hj => hd j (by omega)
/-- All that is left is another each time. -/
def Dist (q p : Int) (k : Nat) : Prop := ∀ i j, i < j → j < k → orb q p i ≠ orb q p j
theorem Dist.succ {q p : Int} {k : Nat} (h : Dist q p k) (hn : ∀ i, i < k → orb q p i ≠ orb q p k) : Dist q p (k + 1) := fun i j h1 h2 => by
  by_cases e : j = k
  · subst e; exact hn i h1
  · exact h i j h1 (by omega)
/-- What is found. -/
def SRel (q p : Int) (A B : List Int) (ok : Bool) : Prop := (ok = true ∧ ∃ i k, i < k ∧ k ≤ 30 ∧ orb q p i = orb q p k ∧ Dist q p k ∧ A = (odL q p k).take i ∧ B = (odL q p k).drop i) ∨ (ok = false ∧ Dist q p 31 ∧ A = [] ∧ B = [])
theorem SRel.uniq {q p : Int} {A B A' B' : List Int} {ok ok' : Bool} (h : SRel q p A B ok) (h' : SRel q p A' B' ok') : A = A' ∧ B = B' ∧ ok = ok' := by
  rcases h with ⟨rfl, i, k, h1, h2, h3, h4, rfl, rfl⟩ | ⟨rfl, h4, rfl, rfl⟩ <;> rcases h' with ⟨rfl, i', k', g1, g2, g3, g4, rfl, rfl⟩ | ⟨rfl, g4, rfl, rfl⟩
  · have hk : k = k' := by
      rcases Nat.lt_trichotomy k k' with g | g | g
      · exact absurd h3 (g4 i k h1 g)
      · exact g
      · exact absurd g3 (h4 i' k' g1 g)
    subst hk
    have hi : i = i' := by
      rcases Nat.lt_trichotomy i i' with g | g | g
      · exact absurd (h3.trans g3.symm) (h4 i i' g g1)
      · exact g
      · exact absurd (g3.trans h3.symm) (h4 i' i g h1)
    subst hi
    exact ⟨rfl, rfl, rfl⟩
  · exact absurd h3 (g4 i k h1 (by omega))
  · exact absurd g3 (h4 i' k' g1 (by omega))
  · exact ⟨rfl, rfl, rfl⟩
def SFrom (q p : Int) (w : World) (e : Ending) (w' : World) : Prop := ∃ A B ok v0 v1, SRel q p A B ok ∧ e = .returned (.tuple #[.agg #[v0, v1], .bool ok]) ∧ Below w.heap.size w w' ∧ Own2 .i8 w.heap.size w' A B v0 v1
/-- What a round finds. -/
structure St (q p : Int) (w : World) (k : Nat) (W : World) : Prop where
  mk ::
  st : Bk W w.heap.size (.int .i64 (orb q p k)) (.int .i64 q) 41
  rs : Bk W (w.heap.size + 1) (.slice none 0 0) (.slice none 0 0) 26
  mp : Gives Try.prog 41 3 .i64 W (w.heap.size + 2) k (fmk q p k)
  bl : Below w.heap.size w W
  sz : w.heap.size + 3 ≤ W.heap.size
theorem row_under {w w' : World} {B k n : Nat} {e : TypeId} {v : Value} {xs : List Value} (h : w.ownsRow B e k v n xs) (hb : Below w.heap.size w w') : w'.ownsRow B e k v n xs := by
  obtain ⟨h1, h2 | ⟨g, cap, cur, h2, h3, h4, h5⟩⟩ := h
  · exact ⟨h1, .inl h2⟩
  · exact ⟨h1, .inr ⟨g, cap, cur, h2, h3, (hb.block g (heap_lt h4)).trans h4, h5⟩⟩
theorem row_cut {W : World} {q p : Int} {k i n base cv : Nat} {sv : Option Addr} (h : W.ownsRow base 53 1 (.slice sv k cv) k ((odL q p k).map (Value.int .i8))) (h1 : i < k) (hn : n ≤ base) :
    ∃ g, sv = some ⟨g, 0, none⟩ ∧ k ≤ cv ∧ cv ≤ maxLen ∧ Own2 .i8 n W ((odL q p k).take i) ((odL q p k).drop i) (.slice (some ⟨g, 0, none⟩) i i) (.slice (some ⟨g, i, none⟩) (k - i) (k - i)) := by
  rcases h with ⟨_, ⟨_, h0⟩ | ⟨g, cap, cur, hv, hg1, hg2, hg3, hg4, hg5, hg6⟩⟩
  · omega
  · obtain ⟨rfl, rfl⟩ : sv = some ⟨g, 0, none⟩ ∧ cv = cap := by simp at hv; exact hv
    have hrow : RowAt .i8 cur 0 ((odL q p k).take i ++ (odL q p k).drop i) := by
      rw [List.take_append_drop]
      intro j x hx
      have hj : j < (odL q p k).length := (List.getElem?_eq_some_iff.1 hx).1
      rw [odL_len] at hj
      have h8 : (cur.toList.take (k * 1))[j]? = some (.int .i8 x) := by rw [hg6, List.getElem?_map, hx]; rfl
      rw [List.getElem?_take, if_pos (by omega)] at h8
      rw [Nat.zero_add]
      simpa using h8
    have lA : ((odL q p k).take i).length = i := by rw [List.length_take, odL_len]; omega
    have lB : ((odL q p k).drop i).length = k - i := by rw [List.length_drop, odL_len]
    have own := own2_row (n := n) (x := (odL q p k).take i) (y := (odL q p k).drop i) (by omega) hg2 (by rw [lA, lB]; omega) hrow
    rw [lA, lB] at own
    exact ⟨g, rfl, hg3, hg4, own⟩
theorem storedK {w : World} {b : Nat} {x y : Value} {t : TypeId} (h : Bk w b x y t) (u v : Value) : ∃ W, (w.setCell ⟨b, 0, none⟩ u).setCell ⟨b, 1, none⟩ v = W ∧ Bk W b u v t ∧ w.grownBy W (some b) := by
  obtain ⟨⟨W8, hW8, g8, r8, z8, B8⟩, _⟩ := setc (show w.heap[b]? = _ from h) u
  obtain ⟨_, ⟨W9, hW9, g9, r9, z9, B9⟩⟩ := setc g8 v
  exact ⟨W9, by rw [hW8, hW9], g9, (B8 0 (Nat.zero_le _)).os ▸ (B9 0 (Nat.zero_le _)).os, (B9 0 (Nat.zero_le _)).tape.trans (B8 0 (Nat.zero_le _)).tape, (B9 0 (Nat.zero_le _)).output.trans (B8 0 (Nat.zero_le _)).output, Nat.le_trans (B8 0 (Nat.zero_le _)).size (B9 0 (Nat.zero_le _)).size, fun k _ hk => (r9 k fun e => hk (by rw [e])).trans (r8 k fun e => hk (by rw [e]))⟩
theorem wfi {x : Int} (h : -9223372036854775808 ≤ x ∧ x ≤ 9223372036854775807) : (Lit.int .i64 x).wf = true := by
  unfold Lit.wf
  simp [IntKind.min, IntKind.max, IntKind.bits, IntKind.signed]
  omega
theorem row_form {w : World} {B k n : Nat} {e : TypeId} {v : Value} {xs : List Value} (h : w.ownsRow B e k v n xs) : ∃ s c, v = .slice s n c := by
  rcases h with ⟨_, ⟨rfl, rfl⟩ | ⟨g, cap, cur, rfl, _⟩⟩
  · exact ⟨_, _, rfl⟩
  · exact ⟨_, _, rfl⟩
set_option maxRecDepth 1000000 in
set_option maxHeartbeats 8000000 in
theorem streamFromR (q p : Int) (w : World) (hq : 1 ≤ q) (hq1 : q ≤ 2147483648) (hp : -q ≤ p ∧ p ≤ q) :
    Calls Try.prog 49 #[.agg #[.int .i64 p, .int .i64 q], .int .i64 30, .func (.func 50) #[] #[]] w (SFrom q p w) := by
  obtain ⟨i00, hi, hz0, hz1, hz2⟩ := info_parts info8
  obtain ⟨W, hW, hB, x⟩ := boxK w (.int .i64 p) (.int .i64 q) 41
  obtain ⟨V, hV, hB2, y⟩ := boxK W (.slice none 0 0) (.slice none 0 0) 26
  obtain ⟨U, hU⟩ : ∃ U, V.alloc (.map #[] 0) = U := ⟨_, rfl⟩
  have hB3 : Below V.heap.size V U := by rw [← hU]; exact (Below.refl _ _).alloc (Nat.le_refl _) _
  have x := (x.keep hB2).keep hB3
  have y := y.keep hB3
  have m0 : Gives Try.prog 41 3 .i64 U V.heap.size 0 (fmk q p 0) := by rw [← hU]; exact Gives.made V
  have z1 : W.heap.size = w.heap.size + 1 := by rw [← hW]; simp
  have z2 : V.heap.size = w.heap.size + 2 := by rw [← hV]; simp; omega
  have z3 : U.heap.size = w.heap.size + 3 := by rw [← hU]; simp; omega
  have bU : Below w.heap.size w U := (hB.trans (hB2.mono hB.size)).trans (hB3.mono (by omega))
  have hlB : ∀ (s : Option Addr) (n k : Nat) (W : World), (Builtin.len_ #[22] 3 #[.slice s n k]).run Try.prog W = .ok (.int .i64 n) W := fun s n k W => rfl
  have hmm : ∀ W : World, (Instr.makeMap 102 none).run Try.prog W = .ok (.map (some W.heap.size)) (W.alloc (.map #[] 0)) := fun W => by
    simp [Instr.makeMap, go_sem, Try.underlying102]
  go_enter Try.func49, Try.ntmps49
  go_wp2
  go_loopw [9] (fun v wr => ∃ k : Nat, k ≤ 31 ∧ wr.ownsRow (w.heap.size + 3) 53 1 v k ((odL q p k).map (Value.int .i8)) ∧ St q p w k wr ∧ Hid (Dist q p k)) (fun v _ => match v with | .slice _ n _ => 31 - n | _ => 0)
  case atStart => exact ⟨0, by omega, World.ownsRow_nil _ _ _ _, ⟨x, by rw [← z1]; exact y, by rw [← z2]; exact m0, bU, by omega⟩, fun i j h1 h2 => by omega⟩
  case round =>
    obtain ⟨k, hk, hown, hst, hD⟩ := hrel
    obtain ⟨sv, cv, rfl⟩ := row_form hown
    have c0 := hst.st.c0
    have c1 := hst.st.c1
    have q0 := hst.rs.c0
    have q1 := hst.rs.c1
    have f0 := hst.rs.f 0
    have f1 := hst.rs.f 1
    have HST := Lib.hid hst
    have HOW := Lib.hid hown
    clear hB hB2 hB3 x y m0 hmm z1 z2 z3 bU hW hV hU hst
    by_cases hlt : k ≤ 30
    · have hd1 : decide ((k : Int) ≤ 30) = true := decide_eq_true (by omega)
      have ob := orb_in hq hp k
      obtain ⟨kl, hkl⟩ := ratio_mk (p := orb q p k) (q := q) (wfi (by omega)) (wfi (by omega))
      have lk := HST.out.mp.look ratio_key Try.underlying102 Try.underlying3 (Try.zeroValue3 _) hkl
      by_cases hf : ∃ i, i < k ∧ orb q p i = orb q p k
      · obtain ⟨i, h1, h2⟩ := hf
        have hs : fmk q p k (rkey q (orb q p k)) = some (i : Int) := fmk_some h2 h1 fun j hj hne e => by
          rcases Nat.lt_trichotomy j i with g | g | g
          · exact hD.out j i g h1 (e.trans h2.symm)
          · exact hne g
          · exact hD.out i j g hj (h2.trans e.symm)
        unfold rkey at hs
        rw [hs] at lk
        obtain ⟨g, rfl, hg3, hg4, own⟩ := row_cut HOW.out h1 (Nat.le_refl (w.heap.size + 3))
        have OWN := Lib.hid own
        have ct := cutS g k cv i k wr h1 hg3 hg3 (by unfold maxLen at hg4; omega)
        have REL := Lib.hid (show SRel q p ((odL q p k).take i) ((odL q p k).drop i) true from .inl ⟨rfl, i, k, h1, by omega, h2, hD.out, rfl, rfl⟩)
        have zs := HST.out.rs.lt
        clear own hs h2
        go_wp2_with (go_at_call 39; refine ct.mono ?_)
        first | (rintro e W3 rfl b3) | (rintro e W3 ⟨rfl, b3⟩)
        have y3 := HST.out.rs.keep b3
        have bl3 := HST.out.bl.trans (b3.mono HST.out.bl.size)
        have q0 := y3.c0
        have q1 := y3.c1
        have f0 := y3.f 0
        have f1 := y3.f 1
        have own := OWN.out.keep b3
        obtain ⟨W9, hW9, e0, e1, r9, B9⟩ := stored y3 (.slice (some ⟨g, 0, none⟩) i i) (.slice (some ⟨g, i, none⟩) (k - i) (k - i))
        have hgS : w.heap.size + 3 ≤ g := (HOW.out.lt g rfl).1
        clear ct lk b3
        go_wp2
        refine bodyPost_ret (v := .tuple #[.agg #[.slice (some ⟨g, 0, none⟩) i i, .slice (some ⟨g, i, none⟩) (k - i) (k - i)], .bool true]) (by simp [results, Try.results49, go_sem, e0, e1]) rfl ?_
        exact ⟨_, _, true, _, _, REL.out, rfl, bl3.trans (B9 _ (by omega)), (own.o0.rest (by omega) r9).mono (by omega), (own.o1.rest (by omega) r9).mono (by omega), own.apart⟩
      · have hn : fmk q p k (rkey q (orb q p k)) = none := fmk_none fun i hi e => hf ⟨i, hi, e⟩
        unfold rkey at hn
        rw [hn] at lk
        obtain ⟨W2, hrun, hmp, hg2⟩ := HST.out.mp.put ratio_key Try.underlying102 Try.underlying3 (by unfold maxLen; omega) hkl (c := k) (wfi (by omega))
        have x2 : Bk W2 w.heap.size _ _ _ := (hg2.block _ HST.out.st.lt (fun e => by have := Option.some.inj e; omega)).trans HST.out.st
        have y2 : Bk W2 (w.heap.size + 1) _ _ _ := (hg2.block _ HST.out.rs.lt (fun e => by have := Option.some.inj e; omega)).trans HST.out.rs
        have ow2 := HOW.out.kept hg2 (.inr fun e => by have := (HOW.out.lt _ e).1; omega)
        have bl2 : Below w.heap.size w W2 := HST.out.bl.grown hg2 HST.out.bl.size fun j e => by have := Option.some.inj e; omega
        have sz2 : w.heap.size + 3 ≤ W2.heap.size := Nat.le_trans HST.out.sz hg2.size
        have a0 := x2.c0
        have a1 := x2.c1
        have sp := splitI (orb q p k) q W2 (by omega) (by omega) hq hq1
        have KEY := Lib.hid (odL_succ q p k)
        have KST := Lib.hid (show orb q p (k + 1) = rnx q (orb q p k) from rfl)
        have DS := Lib.hid (hD.out.succ fun i hi e => hf ⟨i, hi, e⟩)
        obtain ⟨yd, hyd⟩ : ∃ yd, rdg q (orb q p k) = yd := ⟨_, rfl⟩
        obtain ⟨yx, hyx⟩ : ∃ yx, rnx q (orb q p k) = yx := ⟨_, rfl⟩
        unfold SplitP at sp
        rw [hyd] at KEY sp
        rw [hyx] at KST sp
        obtain ⟨xs, hxs⟩ : ∃ xs, (odL q p k).map (Value.int .i8) = xs := ⟨_, rfl⟩
        rw [hxs] at ow2
        have HXS := Lib.hid hxs
        have HMP := Lib.hid hmp
        clear hyd hyx hxs hmp hn hg2 hf
        go_wp2_with (go_at_call 50; refine sp.mono ?_)
        first | (rintro e W3 rfl b3) | (rintro e W3 ⟨rfl, b3⟩)
        obtain ⟨V3, hV3, e3, x3⟩ := boxK W3 (.int .i64 yx) (.int .i64 q) 41
        have b4 := b3.trans (e3.mono b3.size)
        have ow3 := row_under ow2 b4
        have x4 := x2.keep b4
        have y4 := y2.keep b4
        have mp4 : Gives Try.prog 41 3 .i64 V3 (w.heap.size + 2) (k + 1) (fmk q p (k + 1)) := HMP.out.kept (row := none) ⟨b4.os, b4.tape, b4.output, b4.size, fun j hj _ => b4.block j hj⟩ (by simp)
        have bl4 := bl2.trans (b4.mono bl2.size)
        have sz4 : w.heap.size + 3 ≤ V3.heap.size := Nat.le_trans sz2 b4.size
        have zx3 := b3.size
        have MP4 := Lib.hid mp4
        have LT := Lib.hid (fun j h => (ow2.lt j h).2)
        clear sp ow2 x2 y2 bl2 b3 e3 b4 mp4 a0 a1 c0 c1 q0 q1 f0 f1 lk hrun
        go_wp2_with (at_builtin; refine wpList_append_own _ rfl _ _ 22 rfl (w.heap.size + 3) 53 i00 (.int .i8 0) 1 1 Try.underlying22 hi hz0 hz1 hz2 rfl (by decide) _ _ _ rfl (ow3.alloc _) ⟨V3.heap.size, 0, none⟩ 1 1 [.int .i8 yd] rfl rfl ?c1 ?c2 ?c3 ?c4 ?c5 ?_)
        case c1 => exact new1 _ _ _
        case c2 => simp [Value.oneCell']
        case c3 => unfold maxLen; omega
        case c4 => omega
        case c5 => simp; omega
        intro v' w5 hown' hgrow _
        have bl5 : Below w.heap.size w w5 := (bl4.alloc (by omega) _).grown hgrow (by simp; omega) fun j hj => by have := (ow3.lt j hj).1; omega
        have hgrow : (V3.alloc (.cells #[.int .i8 yd] 53)).grownBy w5 (Value.slice sv k cv).ownBlock := hgrow
        have low : ∀ j, j < w.heap.size + 3 → some j ≠ (Value.slice sv k cv).ownBlock := fun j hj e => by have := (ow3.lt j e.symm).1; omega
        have old : ∀ j, j < w.heap.size + 3 → w5.heap[j]? = V3.heap[j]? := fun j hj => (hgrow.block j (by simp; omega) (low j hj)).trans (Below.heap_alloc _ _ j (by omega))
        have hgr : V3.grownBy w5 (Value.slice sv k cv).ownBlock := ⟨hgrow.os, hgrow.tape, hgrow.output, by have := hgrow.size; simp at this; omega, fun j hj hne => (hgrow.block j (by simp; omega) hne).trans (Below.heap_alloc _ _ j hj)⟩
        have x5 : Bk w5 w.heap.size _ _ _ := (old _ (by omega)).trans x4
        have y5 : Bk w5 (w.heap.size + 1) _ _ _ := (old _ (by omega)).trans y4
        have x6 : Bk w5 W3.heap.size _ _ _ := (hgr.block _ x3.lt (fun e => by have := LT.out _ e.symm; omega)).trans x3
        have mp5 := MP4.out.kept hgr (low _ (by omega))
        have sz5 := hgr.size
        obtain ⟨W9, hW9, x9, g9⟩ := storedK x5 (.int .i64 yx) (.int .i64 q)
        have sz9 := g9.size
        have S9 := Lib.hid (show St q p w (k + 1) W9 from ⟨by rw [KST.out]; exact x9, (g9.block _ y5.lt (fun e => by have := Option.some.inj e; omega)).trans y5, mp5.kept g9 (fun e => by have := Option.some.inj e; omega), bl5.grown g9 bl5.size fun j e => by have := Option.some.inj e; omega, by omega⟩)
        have O9 := Lib.hid (show W9.ownsRow (w.heap.size + 3) 53 1 v' (k + 1) ((odL q p (k + 1)).map (Value.int .i8)) by
          rw [KEY.out, List.map_append, HXS.out]
          exact World.ownsRow.kept hown' g9 (.inr fun e => by have := (hown'.lt _ e).1; omega))
        have a0 := x5.c0
        have a1 := x5.c1
        have f0 := x5.f 0
        have f1 := x5.f 1
        have d0 := x6.c0
        have d1 := x6.c1
        obtain ⟨sv', cv', rfl⟩ := row_form hown'
        clear hgr hgrow old low x5 y5 x6 mp5 x9 g9 hown' ow3 bl4 bl5
        go_wp2
        go_roundw
        case rel => exact ⟨k + 1, by omega, O9.out, S9.out, DS.out⟩
        case measure => show 31 - (k + 1) < 31 - k; omega
    · obtain rfl : k = 31 := by omega
      have hd1 : decide (((31 : Nat) : Int) ≤ 30) = false := by decide
      go_wp2
      obtain ⟨W9, hW9, e0, e1, r9, B9⟩ := stored HST.out.rs (.slice none 0 0) (.slice none 0 0)
      rw [hW9]
      refine bodyPost_ret (v := .tuple #[.agg #[.slice none 0 0, .slice none 0 0], .bool false]) (by simp [results, Try.results49, go_sem, e0, e1]) rfl ?_
      exact ⟨[], [], false, _, _, .inr ⟨rfl, hD.out, rfl, rfl⟩, rfl, HST.out.bl.trans (B9 _ (by omega)), OwnL.nil, OwnL.nil, fun _ _ _ _ _ _ _ _ h => by cases h⟩
end Go.Proofs.Ytlkbnpgembgdfaa.Sx
