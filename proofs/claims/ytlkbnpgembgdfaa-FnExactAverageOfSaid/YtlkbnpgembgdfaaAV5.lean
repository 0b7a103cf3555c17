/-
  Averages: the loop that finds the stream, by the code.
-/
import Derived.Test.YtlkbnpgembgdfaaAV4
namespace Go.Proofs.Ytlkbnpgembgdfaa.Sx
open Go Go.RowKit
set_option linter.unusedVariables false
set_option linter.unusedSimpArgs false

def AFrom (a b c d : List Int) (w : World) (e : Ending) (w' : World) : Prop := ∃ A B v0 v1, ARel a b c d A B ∧ e = .returned (.tuple #[.agg #[v0, v1], .bool true]) ∧ Below w.heap.size w w' ∧ Own2 .i8 w.heap.size w' A B v0 v1 ∧ Nn v0 ∧ Nn v1
/-- What a round finds. -/
structure StA (a b c d : List Int) (w : World) (k : Nat) (W : World) : Prop where
  mk ::
  st : W.heap[w.heap.size]? = some (.cells #[.int .i64 (cA a b c d k), .int .i64 (plc a b (k + 1)), .int .i64 (plc c d (k + 1))] 84 (0, 0))
  rs : Bk W (w.heap.size + 1) (.slice none 0 0) (.slice none 0 0) 26
  mp : Gives Try.prog 84 3 .i64 W (w.heap.size + 2) k (fmA a b c d k)
  bl : Below w.heap.size w W
  sz : w.heap.size + 3 ≤ W.heap.size
theorem row_cutL {W : World} {l : List Int} {k i n base cv : Nat} {sv : Option Addr} (hl : l.length = k) (h : W.ownsRow base 53 1 (.slice sv k cv) k (l.map (Value.int .i8))) (h1 : i < k) (hn : n ≤ base) :
    ∃ g, sv = some ⟨g, 0, none⟩ ∧ k ≤ cv ∧ cv ≤ maxLen ∧ Own2 .i8 n W (l.take i) (l.drop i) (.slice (some ⟨g, 0, none⟩) i i) (.slice (some ⟨g, i, none⟩) (k - i) (k - i)) := by
  rcases h with ⟨_, ⟨_, h0⟩ | ⟨g, cap, cur, hv, hg1, hg2, hg3, hg4, hg5, hg6⟩⟩
  · omega
  · obtain ⟨rfl, rfl⟩ : sv = some ⟨g, 0, none⟩ ∧ cv = cap := by simp at hv; exact hv
    have hrow : RowAt .i8 cur 0 (l.take i ++ l.drop i) := by
      rw [List.take_append_drop]
      intro j x hx
      have hj : j < l.length := (List.getElem?_eq_some_iff.1 hx).1
      rw [hl] at hj
      have h8 : (cur.toList.take (k * 1))[j]? = some (.int .i8 x) := by rw [hg6, List.getElem?_map, hx]; rfl
      rw [List.getElem?_take, if_pos (by omega)] at h8
      rw [Nat.zero_add]
      simpa using h8
    have lA : (l.take i).length = i := by rw [List.length_take, hl]; omega
    have lB : (l.drop i).length = k - i := by rw [List.length_drop, hl]
    have own := own2_row (n := n) (x := l.take i) (y := l.drop i) (by omega) hg2 (by rw [lA, lB]; omega) hrow
    rw [lA, lB] at own
    exact ⟨g, rfl, hg3, hg4, own⟩
set_option maxRecDepth 1000000 in
set_option maxHeartbeats 8000000 in
theorem streamFromA {w : World} {Bs Bt Fs Fb : Nat} {t1 t2 : TypeId} {a b c d : List Int} {v0 v1 u0 u1 : Value} (h : Two w Bs Bt a b c d v0 v1 u0 u1) (hc : Clo w Bs Bt Fs Fb t1 t2) (hD : Dgs a b c d) (la : a.length ≤ 16) (lb : 1 ≤ b.length ∧ b.length ≤ 14) (lc : c.length ≤ 16) (ld : 1 ≤ d.length ∧ d.length ≤ 14) :
    Calls Try.prog 60 #[.agg #[.int .i64 (cA a b c d 0), .int .i64 (plc a b 1), .int .i64 (plc c d 1)], .int .i64 4500, .func (.func 61) #[] #[.pointer (some ⟨Fs, 0, none⟩), .pointer (some ⟨Fb, 0, none⟩)]] w (AFrom a b c d w) := by
  obtain ⟨i00, hi, hz0, hz1, hz2⟩ := info_parts info8
  obtain ⟨W, hW, hB, x⟩ := boxN w #[.int .i64 (cA a b c d 0), .int .i64 (plc a b 1), .int .i64 (plc c d 1)] 84
  obtain ⟨V, hV, hB2, y⟩ := boxK W (.slice none 0 0) (.slice none 0 0) 26
  obtain ⟨U, hU⟩ : ∃ U, V.alloc (.map #[] 0) = U := ⟨_, rfl⟩
  have hB3 : Below V.heap.size V U := by rw [← hU]; exact (Below.refl _ _).alloc (Nat.le_refl _) _
  have x := at_keep (at_keep x hB2) hB3
  have y := y.keep hB3
  have m0 : Gives Try.prog 84 3 .i64 U V.heap.size 0 (fmA a b c d 0) := by rw [← hU]; exact Gives.made V
  have z1 : W.heap.size = w.heap.size + 1 := by rw [← hW]; simp
  have z2 : V.heap.size = w.heap.size + 2 := by rw [← hV]; simp; omega
  have z3 : U.heap.size = w.heap.size + 3 := by rw [← hU]; simp; omega
  have bU : Below w.heap.size w U := (hB.trans (hB2.mono hB.size)).trans (hB3.mono (by omega))
  have hlB : ∀ (s : Option Addr) (n k : Nat) (W : World), (Builtin.len_ #[22] 3 #[.slice s n k]).run Try.prog W = .ok (.int .i64 n) W := fun s n k W => rfl
  have hmm : ∀ W : World, (Instr.makeMap 106 none).run Try.prog W = .ok (.map (some W.heap.size)) (W.alloc (.map #[] 0)) := fun W => by
    simp [Instr.makeMap, go_sem, Try.underlying106]
  have NX := Lib.hid fun (k : Nat) (W : World) (hb : Below w.heap.size w W) => (show Calls Try.prog 61 #[.agg #[.int .i64 (cA a b c d k), .int .i64 (plc a b (k + 1)), .int .i64 (plc c d (k + 1))], .pointer (some ⟨Fs, 0, none⟩), .pointer (some ⟨Fb, 0, none⟩)] W (Nx (dA a b c d k) (cA a b c d (k + 1)) (plc a b (k + 1 + 1)) (plc c d (k + 1 + 1)) W) by
    rw [plc_succ lb.1 (a := a) (k + 1), plc_succ ld.1 (a := c) (k + 1)]
    exact nextI (h.keep hb) (hc.keep hb) la lb.2 lc ld.2 (cA a b c d k) (cA_in hD k) (plc a b (k + 1)) (plc c d (k + 1)) (plc_lt lb.1 _) (plc_lt ld.1 _) (hD (k + 1)).1 (hD (k + 1)).2)
  have DL := Lib.hid (fun n (hn : DistA a b c d n) => hn.le hD la lb lc ld)
  have CI := Lib.hid (cA_in hD)
  have P1 := Lib.hid (fun j => plc_lt lb.1 (a := a) j)
  have P2 := Lib.hid (fun j => plc_lt ld.1 (a := c) j)
  have S0 := Lib.hid (show StA a b c d w 0 U from ⟨x, by rw [← z1]; exact y, by rw [← z2]; exact m0, bU, by omega⟩)
  clear h hc hD x y m0
  go_enter Try.func60, Try.ntmps60
  go_wp2
  go_loopw [9] (fun v wr => ∃ k : Nat, k ≤ 4501 ∧ wr.ownsRow (w.heap.size + 3) 53 1 v k ((dAL a b c d k).map (Value.int .i8)) ∧ StA a b c d w k wr ∧ Hid (DistA a b c d k)) (fun v _ => match v with | .slice _ n _ => 4501 - n | _ => 0)
  case atStart => exact ⟨0, by omega, World.ownsRow_nil _ _ _ _, S0.out, fun i j h1 h2 => by omega⟩
  case round =>
    obtain ⟨k, hk, hown, hst, hDk⟩ := hrel
    obtain ⟨sv, cv, rfl⟩ := row_form hown
    have lt1 := DL.out k hDk.out
    have x := hst.st
    have c0 : wr.cell? ⟨w.heap.size, 0, none⟩ = some (.int .i64 (cA a b c d k)) := by rw [Lib.cell_of_heap x]; rfl
    have c1 : wr.cell? ⟨w.heap.size, 1, none⟩ = some (.int .i64 (plc a b (k + 1))) := by rw [Lib.cell_of_heap x]; rfl
    have c2 : wr.cell? ⟨w.heap.size, 2, none⟩ = some (.int .i64 (plc c d (k + 1))) := by rw [Lib.cell_of_heap x]; rfl
    have q0 := hst.rs.c0
    have q1 := hst.rs.c1
    have f0 := hst.rs.f 0
    have f1 := hst.rs.f 1
    have HST := Lib.hid hst
    have HOW := Lib.hid hown
    clear hB hB2 hB3 hmm z1 z2 z3 bU hW hV hU hst x S0
    have hd1 : decide ((k : Int) ≤ 4500) = true := decide_eq_true (by omega)
    have ob := CI.out k
    have o1 := P1.out (k + 1)
    have o2 := P2.out (k + 1)
    obtain ⟨kl, hkl⟩ := averaging_mk (c := cA a b c d k) (p := plc a b (k + 1)) (q := plc c d (k + 1)) (wfi (by omega)) (wfi (by omega)) (wfi (by omega))
    have lk := HST.out.mp.look averaging_key Try.underlying106 Try.underlying3 (Try.zeroValue3 _) hkl
    by_cases hf : ∃ i, i < k ∧ kvA a b c d i = kvA a b c d k
    · obtain ⟨i, h1, h2⟩ := hf
      have hs : fmA a b c d k (kvA a b c d k) = some (i : Int) := fmA_some h2 h1 fun j hj hne e => by
        rcases Nat.lt_trichotomy j i with g | g | g
        · exact hDk.out j i g h1 (e.trans h2.symm)
        · exact hne g
        · exact hDk.out i j g hj (h2.trans e.symm)
      have REL := Lib.hid (show ARel a b c d ((dAL a b c d k).take i) ((dAL a b c d k).drop i) from ⟨i, k, h1, by omega, h2, hDk.out, rfl, rfl⟩)
      unfold kvA at hs
      rw [hs] at lk
      obtain ⟨g, rfl, hg3, hg4, own⟩ := row_cutL (dAL_len a b c d k) HOW.out h1 (Nat.le_refl (w.heap.size + 3))
      have OWN := Lib.hid own
      have ct := cutS g k cv i k wr h1 hg3 hg3 (by unfold maxLen at hg4; omega)
      have zs := HST.out.rs.lt
      clear own hs h2
      go_wp2_with (go_at_call 39; refine ct.mono ?_)
      first | (rintro e W3 rfl b3) | (rintro e W3 ⟨rfl, b3⟩)
      have y3 := HST.out.rs.keep b3
      have bl3 := HST.out.bl.trans (b3.mono HST.out.bl.size)
      have q0 := y3.c0
      have q1 := y3.c1
      have f0 := y3.f 0
      have f1 := y3.f 1
      have own := OWN.out.keep b3
      obtain ⟨W9, hW9, e0, e1, r9, B9⟩ := stored y3 (.slice (some ⟨g, 0, none⟩) i i) (.slice (some ⟨g, i, none⟩) (k - i) (k - i))
      have hgS : w.heap.size + 3 ≤ g := (HOW.out.lt g rfl).1
      clear ct lk b3
      go_wp2
      refine bodyPost_ret (v := .tuple #[.agg #[.slice (some ⟨g, 0, none⟩) i i, .slice (some ⟨g, i, none⟩) (k - i) (k - i)], .bool true]) (by simp [results, Try.results60, go_sem, e0, e1]) rfl ?_
      exact ⟨_, _, _, _, REL.out, rfl, bl3.trans (B9 _ (by omega)), ⟨(own.o0.rest (by omega) r9).mono (by omega), (own.o1.rest (by omega) r9).mono (by omega), own.apart⟩, ⟨_, _, _, rfl⟩, ⟨_, _, _, rfl⟩⟩
    · have hn : fmA a b c d k (kvA a b c d k) = none := fmA_none fun i hi e => hf ⟨i, hi, e⟩
      have DS := Lib.hid (hDk.out.succ fun i hi e => hf ⟨i, hi, e⟩)
      have PUT := HST.out.mp.put averaging_key Try.underlying106 Try.underlying3 (by unfold maxLen; omega) hkl (c := k) (wfi (by omega))
      unfold kvA at hn
      rw [hn] at lk
      obtain ⟨W2, hrun, hmp, hg2⟩ := PUT
      have x2 : W2.heap[w.heap.size]? = _ := (hg2.block _ (by have := HST.out.sz; omega) (fun e => by have := Option.some.inj e; omega)).trans HST.out.st
      have y2 : Bk W2 (w.heap.size + 1) _ _ _ := (hg2.block _ HST.out.rs.lt (fun e => by have := Option.some.inj e; omega)).trans HST.out.rs
      have ow2 := HOW.out.kept hg2 (.inr fun e => by have := (HOW.out.lt _ e).1; omega)
      have bl2 : Below w.heap.size w W2 := HST.out.bl.grown hg2 HST.out.bl.size fun j e => by have := Option.some.inj e; omega
      have sz2 : w.heap.size + 3 ≤ W2.heap.size := Nat.le_trans HST.out.sz hg2.size
      have a0 : W2.cell? ⟨w.heap.size, 0, none⟩ = some (.int .i64 (cA a b c d k)) := by rw [Lib.cell_of_heap x2]; rfl
      have a1 : W2.cell? ⟨w.heap.size, 1, none⟩ = some (.int .i64 (plc a b (k + 1))) := by rw [Lib.cell_of_heap x2]; rfl
      have a2 : W2.cell? ⟨w.heap.size, 2, none⟩ = some (.int .i64 (plc c d (k + 1))) := by rw [Lib.cell_of_heap x2]; rfl
      have sp := NX.out k W2 bl2
      have KEY := Lib.hid (dAL_succ a b c d k)
      obtain ⟨yd, hyd⟩ : ∃ yd, dA a b c d k = yd := ⟨_, rfl⟩
      rw [hyd] at KEY sp
      unfold Nx at sp
      obtain ⟨n0, hn0⟩ : ∃ n0, cA a b c d (k + 1) = n0 := ⟨_, rfl⟩
      obtain ⟨n1, hn1⟩ : ∃ n1, plc a b (k + 1 + 1) = n1 := ⟨_, rfl⟩
      obtain ⟨n2, hn2⟩ : ∃ n2, plc c d (k + 1 + 1) = n2 := ⟨_, rfl⟩
      rw [hn0, hn1, hn2] at sp
      have HN0 := Lib.hid hn0
      have HN1 := Lib.hid hn1
      have HN2 := Lib.hid hn2
      obtain ⟨xs, hxs⟩ : ∃ xs, (dAL a b c d k).map (Value.int .i8) = xs := ⟨_, rfl⟩
      rw [hxs] at ow2
      have HXS := Lib.hid hxs
      have HMP := Lib.hid (show Gives Try.prog 84 3 .i64 W2 (w.heap.size + 2) (k + 1) (fmA a b c d (k + 1)) from hmp)
      have X2 := Lib.hid x2
      clear hyd hxs hmp hn hg2 hf hn0 hn1 hn2 x2
      go_wp2_with (go_at_call 61; refine sp.mono ?_)
      first | (rintro e W3 rfl b3) | (rintro e W3 ⟨rfl, b3⟩)
      obtain ⟨V3, hV3, e3, x3⟩ := boxN W3 #[.int .i64 n0, .int .i64 n1, .int .i64 n2] 84
      have b4 := b3.trans (e3.mono b3.size)
      have ow3 := row_under ow2 b4
      have x4 := at_keep X2.out b4
      have y4 := y2.keep b4
      have mp4 : Gives Try.prog 84 3 .i64 V3 (w.heap.size + 2) (k + 1) (fmA a b c d (k + 1)) := HMP.out.kept (row := none) ⟨b4.os, b4.tape, b4.output, b4.size, fun j hj _ => b4.block j hj⟩ (by simp)
      have bl4 := bl2.trans (b4.mono bl2.size)
      have sz4 : w.heap.size + 3 ≤ V3.heap.size := Nat.le_trans sz2 b4.size
      have zx3 := b3.size
      have zV3 : W3.heap.size < V3.heap.size := by rw [← hV3]; simp
      have MP4 := Lib.hid mp4
      have LT := Lib.hid (fun j h => (ow2.lt j h).2)
      clear sp ow2 y2 bl2 b3 e3 b4 mp4 a0 a1 a2 c0 c1 c2 q0 q1 f0 f1 lk hrun
      go_wp2_with (at_builtin; refine wpList_append_own _ rfl _ _ 22 rfl (w.heap.size + 3) 53 i00 (.int .i8 0) 1 1 Try.underlying22 hi hz0 hz1 hz2 rfl (by decide) _ _ _ rfl (ow3.alloc _) ⟨V3.heap.size, 0, none⟩ 1 1 [.int .i8 yd] rfl rfl ?c1 ?c2 ?c3 ?c4 ?c5 ?_)
      try (case c1 => exact new1 _ _ _)
      case c2 => simp [Value.oneCell']
      case c3 => unfold maxLen; omega
      case c4 => omega
      case c5 => first | omega | (simp; omega)
      intro v' w5 hown' hgrow _
      have bl5 : Below w.heap.size w w5 := (bl4.alloc (by omega) _).grown hgrow (by simp; omega) fun j hj => by have := (ow3.lt j hj).1; omega
      have hgrow : (V3.alloc (.cells #[.int .i8 yd] 53)).grownBy w5 (Value.slice sv k cv).ownBlock := hgrow
      have low : ∀ j, j < w.heap.size + 3 → some j ≠ (Value.slice sv k cv).ownBlock := fun j hj e => by have := (ow3.lt j e.symm).1; omega
      have old : ∀ j, j < w.heap.size + 3 → w5.heap[j]? = V3.heap[j]? := fun j hj => (hgrow.block j (by simp; omega) (low j hj)).trans (Below.heap_alloc _ _ j (by omega))
      have hgr : V3.grownBy w5 (Value.slice sv k cv).ownBlock := ⟨hgrow.os, hgrow.tape, hgrow.output, by have := hgrow.size; simp at this; omega, fun j hj hne => (hgrow.block j (by simp; omega) hne).trans (Below.heap_alloc _ _ j hj)⟩
      have x5 := (old w.heap.size (by omega)).trans x4
      have y5 : Bk w5 (w.heap.size + 1) _ _ _ := (old _ (by omega)).trans y4
      have x6 := (hgr.block W3.heap.size zV3 (fun e => by have := LT.out _ e.symm; omega)).trans x3
      have mp5 := MP4.out.kept hgr (low _ (by omega))
      have sz5 := hgr.size
      obtain ⟨W9, hW9, x9, r9, z9, B9⟩ := stored3 x5 (.int .i64 n0) (.int .i64 n1) (.int .i64 n2)
      have g9 : w5.grownBy W9 (some w.heap.size) := ⟨(B9 0 (Nat.zero_le _)).os, (B9 0 (Nat.zero_le _)).tape, (B9 0 (Nat.zero_le _)).output, (B9 0 (Nat.zero_le _)).size, fun j _ hj => r9 j (fun e => hj (by rw [e]))⟩
      have S9 := Lib.hid (show StA a b c d w (k + 1) W9 from ⟨by rw [HN0.out, HN1.out, HN2.out]; exact x9, (g9.block _ y5.lt (fun e => by have := Option.some.inj e; omega)).trans y5, mp5.kept g9 (fun e => by have := Option.some.inj e; omega), bl5.grown g9 bl5.size fun j e => by have := Option.some.inj e; omega, by omega⟩)
      have O9 := Lib.hid (show W9.ownsRow (w.heap.size + 3) 53 1 v' (k + 1) ((dAL a b c d (k + 1)).map (Value.int .i8)) by
        rw [KEY.out, List.map_append, HXS.out]
        exact World.ownsRow.kept hown' g9 (.inr fun e => by have := (hown'.lt _ e).1; omega))
      have a0 : w5.cell? ⟨w.heap.size, 0, none⟩ = some (.int .i64 (cA a b c d k)) := by rw [Lib.cell_of_heap x5]; rfl
      have a1 : w5.cell? ⟨w.heap.size, 1, none⟩ = some (.int .i64 (plc a b (k + 1))) := by rw [Lib.cell_of_heap x5]; rfl
      have a2 : w5.cell? ⟨w.heap.size, 2, none⟩ = some (.int .i64 (plc c d (k + 1))) := by rw [Lib.cell_of_heap x5]; rfl
      have f0 : w5.frozen? ⟨w.heap.size, 0, none⟩ = false := Lib.frozen_of_heap x5 _
      have f1 : w5.frozen? ⟨w.heap.size, 1, none⟩ = false := Lib.frozen_of_heap x5 _
      have f2 : w5.frozen? ⟨w.heap.size, 2, none⟩ = false := Lib.frozen_of_heap x5 _
      have d0 : w5.cell? ⟨W3.heap.size, 0, none⟩ = some (.int .i64 n0) := by rw [Lib.cell_of_heap x6]; rfl
      have d1 : w5.cell? ⟨W3.heap.size, 1, none⟩ = some (.int .i64 n1) := by rw [Lib.cell_of_heap x6]; rfl
      have d2 : w5.cell? ⟨W3.heap.size, 2, none⟩ = some (.int .i64 n2) := by rw [Lib.cell_of_heap x6]; rfl
      obtain ⟨sv', cv', rfl⟩ := row_form hown'
      clear hgr hgrow old low x5 y5 x6 mp5 x9 r9 z9 B9 g9 hown' ow3 bl4 bl5 x4 y4 x3
      go_wp2
      go_roundw
      case rel => exact ⟨k + 1, by omega, O9.out, S9.out, DS.out⟩
      case measure => show 4501 - (k + 1) < 4501 - k; omega
end Go.Proofs.Ytlkbnpgembgdfaa.Sx
