/-
  The run of a tree, by the model.
-/
import Derived.Test.YtingfbohkchgbaaDoorTW
import Derived.Test.YtingfbohkchgbaaDoorN1
import Derived.WalkSpells
import Derived.Deep.DeepCutAuto
namespace Go.Proofs.YtingfbohkchgbaaDoor.Sx
open Go Go.RowKit
set_option linter.unusedVariables false
set_option linter.unusedSimpArgs false

/-- Digits, a number and a code are given. -/
structure GaveD (w w' : World) (l : List Int) (x c : Int) (e : Ending) : Prop where
  mk ::
  here : ∃ s k, e = .returned (.tuple #[.slice s l.length k, .int .i64 x, .int .i64 c]) ∧ OwnL .i8 w.heap.size w' l (.slice s l.length k)
  below : Below w.heap.size w w'
theorem made8 (w : World) (base : Nat) (h : base ≤ w.heap.size) : (w.alloc (.cells #[] 75)).ownsRow base 75 1 (.slice (some ⟨w.heap.size, 0, none⟩) 0 0) 0 [] := World.ownsRow_made w #[] 0 h (by decide) rfl
theorem own8 (w : World) (base : Nat) (h : base ≤ w.heap.size) : OwnL .i8 base (w.alloc (.cells #[] 75)) [] (.slice (some ⟨w.heap.size, 0, none⟩) 0 0) := OwnL.of_row (made8 w base h) rfl rfl
def lenOf : Value → Nat | .slice _ n _ => n | _ => 0
theorem nxF_bd {T : List Fk} {i : Nat} (hT : trB T = true) (hi : i < T.length) (e : Int) : 0 ≤ nxF (fkAt T i) e ∧ nxF (fkAt T i) e < T.length ∧ 0 ≤ (fkAt T i).n0 ∧ (fkAt T i).n0 < T.length := by
  have hf := fkB_iff.1 ((trB_iff.1 hT).2 _ (List.mem_of_getElem? (fkAt_get hi)))
  unfold nxF
  split
  · omega
  · split <;> omega
set_option maxRecDepth 1000000 in
set_option maxHeartbeats 16000000 in
theorem runTS {w : World} {bt bs n : Nat} {T : List Fk} {v v0 v1 : Value} {a b : List Int} {J : Nat} {l : List Int} {x c : Int} (h : HereT w bt T v) (hs : Here w bs a b v0 v1) (hT : trB T = true) (hv : vsB a b = true) (hn : n ≤ 60)
    (hSt : ∀ i, i < J → OkT T a b n i) (hJ : J ≤ n + 400) (hE : EndT T a b n J l x c) :
    Calls Tryd.prog 33 #[.pointer (some ⟨bt, 0, none⟩), .pointer (some ⟨bs, 0, none⟩), .int .i64 n] w fun e w' => GaveD w w' l x c e := by
  have hvv := (vsB_iff a b).1 hv
  have hd : ∀ k, -1 ≤ dg a b k ∧ dg a b k ≤ 1 := fun k => by
    rw [dg_spec]
    split
    · rename_i hk
      exact (dgB_iff _).1 hvv.2.2.2.1 _ (getD_mem hk)
    · exact (dgB_iff _).1 hvv.2.2.2.2 _ (getD_mem (Nat.mod_lt _ (by omega)))
  obtain ⟨i0, ha, ha0, ha1, ha2⟩ := info_parts info8
  obtain ⟨B, hB⟩ : ∃ B, w.heap.size = B := ⟨_, rfl⟩
  obtain ⟨s, cp, rfl⟩ := h.is.form
  obtain ⟨m, hm⟩ : ∃ m, T.length = m := ⟨_, rfl⟩
  rw [hm] at h
  have hT1 := (trB_iff.1 hT).1
  rw [hm] at hT1
  have HM := Lib.hid hm
  have HB := Lib.hid hB
  have HT := Lib.hid fun (W : World) (hb : Below w.heap.size w W) => h.keep hb
  have HS := Lib.hid fun (W : World) (hb : Below w.heap.size w W) => hs.keep hb
  have TV := Lib.hid hT
  have HV := Lib.hid hvv
  have HD := Lib.hid hd
  have SS := Lib.hid hSt
  have EE := Lib.hid hE
  have hlB : ∀ (s : Option Addr) (n k : Nat) (W : World), (Builtin.len_ #[25] 3 #[.slice s n k]).run Tryd.prog W = .ok (.int .i64 n) W := fun s n k W => rfl
  clear h hs hT hv hvv hd hSt hE hm
  go_enter Tryd.func33, Tryd.ntmps33
  go_wp2
  go_loopw [9, 10, 11] (fun ov kv av wr => ∃ j : Nat, j ≤ J ∧ kv = .int .i64 (runT T a b j).k ∧ av = .int .i16 (runT T a b j).v ∧ wr.ownsRow B 75 1 ov (runT T a b j).o.length ((runT T a b j).o.map (Value.int .i8)) ∧ Below B w wr) (fun ov kv _ _ => n + 401 - (lenOf ov + (RowKit.intOf kv).toNat))
  case atStart => exact ⟨0, Nat.zero_le _, rfl, rfl, by rw [← hB]; exact made8 _ _ (Nat.le_refl _), (Below.refl _ _).alloc (by omega) _⟩
  case round =>
    obtain ⟨j, hj, rfl, rfl, hown, hb⟩ := hrel
    have hbd := runT_bd (j := j) (fun i hi => SS.out i (by omega))
    have hnode := runT_node (a := a) (b := b) TV.out j
    rw [HM.out] at hnode
    have hw : Below w.heap.size w wr := by rw [hB]; exact hb
    have hsz := hw.size
    have hh := HT.out wr hw
    have hss := HS.out wr hw
    obtain ⟨g, o, c', hf, x0, x1, x2, x3, x4⟩ := hh.is.node (i := (runT T a b j).v) (by rw [HM.out]; exact hnode)
    rw [HM.out] at hf
    obtain ⟨rfl, rfl⟩ : s = some ⟨g, o, none⟩ ∧ cp = c' := by simp at hf; exact hf
    have k0 := hh.c
    have hnx := nxF_bd TV.out (i := (runT T a b j).v) (by rw [HM.out]; exact hnode) (dg a b (runT T a b j).k)
    rw [HM.out] at hnx
    obtain ⟨vj, hvj⟩ : ∃ y, (runT T a b j).v = y := ⟨_, rfl⟩
    obtain ⟨kj, hkj⟩ : ∃ y, (runT T a b j).k = y := ⟨_, rfl⟩
    obtain ⟨oj, hoj⟩ : ∃ y, (runT T a b j).o = y := ⟨_, rfl⟩
    have hkd : kdT T a b j = (fkAt T vj).k := by unfold kdT; rw [hvj]
    have htl : kdT T a b j = 2 → runT T a b (j + 1) = ⟨(fkAt T vj).n0.toNat, oj ++ [(fkAt T vj).d], kj⟩ := fun e => by rw [runT_tell e, hvj, hoj, hkj]
    have hak : ¬ kdT T a b j = 2 → runT T a b (j + 1) = ⟨(nxF (fkAt T vj) (dg a b kj)).toNat, oj, kj + 1⟩ := fun e => by rw [runT_ask e, hvj, hoj, hkj]
    rw [hvj, hkj] at hnx
    rw [hvj] at x0 x1 x2 x3 x4 hnode ⊢
    rw [hkj] at hbd ⊢
    rw [hoj] at hown hbd
    obtain ⟨⟨K, D, P, Q, R⟩, hff⟩ : ∃ f, fkAt T vj = f := ⟨_, rfl⟩
    rw [hff] at x0 x1 x2 x3 x4 hkd htl hak hnx
    simp only at x0 x1 x2 x3 x4 hkd htl hak hnx
    obtain ⟨su, cu, rfl⟩ := own_formN hown
    have KD := Lib.hid hkd
    have TL := Lib.hid htl
    have AK := Lib.hid hak
    have NX := Lib.hid hnx
    have OJ := Lib.hid hoj
    have KJ := Lib.hid hkj
    have HW := Lib.hid hw
    have HOW := Lib.hid hown
    have HSS := Lib.hid hss
    have HFF := Lib.hid hff
    clear hf hvj hkj hoj hkd htl hak hnx hh hb hff
    by_cases hlen : oj.length < n
    · have g1 : (oj.length : Int) < n := by omega
      by_cases hK : K = 2
      · subst hK
        have hlt : j < J := by
          rcases Nat.lt_or_ge j J with h | h
          · exact h
          · obtain rfl : j = J := by omega
            cases EE.out with
            | done h => rw [OJ.out] at h; omega
            | budget _ h _ => exact absurd KD.out h
        have htl := TL.out KD.out
        obtain ⟨zs, hzs⟩ : ∃ y, oj.map (Value.int .i8) = y := ⟨_, rfl⟩
        have hown := HOW.out
        rw [hzs] at hown
        have HZS := Lib.hid hzs
        have HTL := Lib.hid htl
        have hBw : Below B w wr := by rw [← hB]; exact HW.out
        have hsz2 : B ≤ wr.heap.size := by omega
        have nP := NX.out.2.2.1
        clear htl hzs
        go_wp2_with (at_builtin; refine wpList_append_own _ rfl _ _ 25 rfl B 75 i0 (.int .i8 0) 1 1 Tryd.underlying25 ha ha0 ha1 ha2 rfl (by decide) _ _ _ rfl (hown.alloc _) ⟨wr.heap.size, 0, none⟩ 1 1 [.int .i8 D] rfl rfl ?c1 ?c2 ?c3 ?c4 ?c5 ?_)
        case c1 => exact new1 _ _ _
        case c2 => simp [Value.oneCell']
        case c3 => unfold maxLen; omega
        case c4 => omega
        case c5 => simp; omega
        intro v' w1 hown' hgrow _
        have hb9 : Below B w w1 := own_grow (B := B) hown hBw hsz2 hgrow
        have HO9 := Lib.hid (show w1.ownsRow B 75 1 v' (oj ++ [D]).length ((oj ++ [D]).map (Value.int .i8)) by rw [List.map_append, HZS.out, List.length_append]; exact hown')
        obtain ⟨sv, cv, rfl⟩ := own_formN hown'
        have HB9 := Lib.hid hb9
        obtain ⟨g2, o2, c2, hf2, y0, y1, y2, y3, y4⟩ := (HT.out w1 (by rw [hB]; exact hb9)).is.node (i := vj) (by rw [HM.out]; exact hnode)
        rw [HM.out] at hf2
        obtain ⟨⟨rfl, rfl⟩, _⟩ : (g = g2 ∧ o = o2) ∧ cp = c2 := by simp at hf2; exact ⟨hf2.1, hf2.2⟩
        rw [HFF.out] at y2
        simp only at y2
        clear x2 y0 y1 y3 y4 hf2
        clear hown' hgrow hown hb9 hBw x0 x1 x3 x4 k0 hsz hsz2 hss
        go_wp2
        exact ⟨⟨j + 1, by omega, by rw [HTL.out], by rw [HTL.out]; show Value.int .i16 P = Value.int .i16 (P.toNat : Int); rw [Int.toNat_of_nonneg nP], by rw [HTL.out]; exact HO9.out, HB9.out⟩, by rw [show lenOf (Value.slice sv (oj.length + 1) cv) = oj.length + 1 from rfl, show lenOf (Value.slice su oj.length cu) = oj.length from rfl]; simp [RowKit.intOf]; omega⟩
      · have hK' : ¬ kdT T a b j = 2 := by rw [KD.out]; exact hK
        have hK2 : (K == 2) = false := by rw [beq_eq_false_iff_ne]; exact hK
        have HBB := Lib.hid (show Below B w wr by rw [← hB]; exact HW.out)
        by_cases hk4 : kj = 400
        · have hres : l = [] ∧ x = 0 ∧ c = 7 := by
            rcases Nat.lt_or_ge j J with h | h
            · rcases (SS.out j h).k with h1 | h1
              · exact absurd h1 hK'
              · rw [KJ.out] at h1; omega
            · obtain rfl : j = J := by omega
              cases EE.out with
              | done h => rw [OJ.out] at h; omega
              | budget _ _ _ => exact ⟨rfl, rfl, rfl⟩
          obtain ⟨rfl, rfl, rfl⟩ := hres
          subst hk4
          have OW := Lib.hid (own8 wr B (by omega))
          have FB := Lib.hid (show Below w.heap.size w (wr.alloc (.cells #[] 75)) from HW.out.alloc HW.out.size _)
          clear hss hown hsz
          go_wp2
          refine bodyPost_ret (v := .tuple #[.slice (some ⟨wr.heap.size, 0, none⟩) 0 0, .int .i64 0, .int .i64 7]) (by simp [results, Tryd.results33, go_sem]) rfl ?_
          exact ⟨⟨some ⟨wr.heap.size, 0, none⟩, 0, rfl, by rw [hB]; exact OW.out⟩, FB.out⟩
        · have hlt : j < J := by
            rcases Nat.lt_or_ge j J with h | h
            · exact h
            · obtain rfl : j = J := by omega
              cases EE.out with
              | done h => rw [OJ.out] at h; omega
              | budget _ _ h => rw [KJ.out] at h; exact absurd h hk4
          have hk5 : ((kj : Int) == 400) = false := by rw [beq_eq_false_iff_ne]; omega
          have ek : IntKind.i64.wrap ((kj : Int) + 1) = (kj : Int) + 1 := by rw [IntKind.wrap_i64]; omega
          have hvv := HV.out
          have hdd3 : dg a b kj = -1 ∨ dg a b kj = 0 ∨ dg a b kj = 1 := by have := HD.out kj; omega
          have w0 : IntKind.i8.wrap 0 = 0 := by decide
          have w1 : IntKind.i8.wrap 1 = 1 := by decide
          have w2 : IntKind.i8.wrap 2 = 2 := by decide
          clear hss hown hsz
          rcases hdd3 with hdd | hdd | hdd
          · have KP := Lib.hid (show ∀ w', Below wr.heap.size wr w' → (w'.cell? ⟨g, o + vj * 5 + 2, none⟩ = some (.int .i16 P) ∧ w'.cell? ⟨g, o + vj * 5 + 3, none⟩ = some (.int .i16 Q) ∧ w'.cell? ⟨g, o + vj * 5 + 4, none⟩ = some (.int .i16 R)) from fun w' hb => ⟨(hb.cell (p := ⟨g, o + vj * 5 + 2, none⟩) (cell_lt x2)).trans x2, (hb.cell (p := ⟨g, o + vj * 5 + 3, none⟩) (cell_lt x3)).trans x3, (hb.cell (p := ⟨g, o + vj * 5 + 4, none⟩) (cell_lt x4)).trans x4⟩)
            have at1 := Lib.hid fun (W : World) (hb : Below wr.heap.size wr W) => (show Calls Tryd.prog 55 #[.pointer (some ⟨bs, 0, none⟩), .int .i64 kj] W (Num .i8 (-1) W) from by rw [← hdd]; exact ats (HSS.out.keep hb) (by omega) (by omega) (by omega) (by omega))
            have hak := AK.out hK'
            have e9 : nxF ⟨K, D, P, Q, R⟩ (-1) = P := by simp [nxF]
            rw [hdd, e9] at hak
            have nx := NX.out
            rw [hdd, e9] at nx
            have HAK := Lib.hid hak
            have HNX := Lib.hid nx
            clear hak nx hdd e9
            go_upto_region 11 with (fail)
            go_cut [11] (fun s wx => s = .int .i16 P ∧ Below wr.heap.size wr wx)
            case first =>
              go_region_held3 (fun w' => (w'.cell? ⟨g, o + vj * 5 + 2, none⟩ = some (.int .i16 P) ∧ w'.cell? ⟨g, o + vj * 5 + 3, none⟩ = some (.int .i16 Q) ∧ w'.cell? ⟨g, o + vj * 5 + 4, none⟩ = some (.int .i16 R)))
                (first | with_reducible exact KP.out _ hb9 | with_reducible exact KP.out _ (Below.refl _ _).drew | with_reducible exact KP.out _ (Below.refl _ _) | fail)
                (first
                  | (go_at_call 55; (refine (at1.out _ (Below.refl _ _).drew).mono ?_); rintro e W9 ⟨rfl, b9⟩; have hb9 := Below.trans (Below.refl wr.heap.size wr).drew b9)
                  | fail)
              all_goals (go_wp2_with fail; go_meet; exact ⟨rfl, hb9⟩)
            case rest =>
            obtain ⟨rfl, hbc⟩ := hcut
            have hb9 : Below B w wc := HBB.out.trans (hbc.mono (by have := HB.out; have := HW.out.size; omega))
            have HO9 := Lib.hid (row_underN (k := 0) HOW.out hbc)
            have HB9 := Lib.hid hb9
            clear hbc hb9
            go_wp2
            exact ⟨⟨j + 1, by omega, by rw [HAK.out]; rfl, by rw [HAK.out]; show Value.int .i16 P = Value.int .i16 ((P).toNat : Int); rw [Int.toNat_of_nonneg HNX.out.1], by rw [HAK.out]; exact HO9.out, HB9.out⟩, by rw [show lenOf (Value.slice su oj.length cu) = oj.length from rfl]; simp [RowKit.intOf]; omega⟩
          · have KP := Lib.hid (show ∀ w', Below wr.heap.size wr w' → (w'.cell? ⟨g, o + vj * 5 + 2, none⟩ = some (.int .i16 P) ∧ w'.cell? ⟨g, o + vj * 5 + 3, none⟩ = some (.int .i16 Q) ∧ w'.cell? ⟨g, o + vj * 5 + 4, none⟩ = some (.int .i16 R)) from fun w' hb => ⟨(hb.cell (p := ⟨g, o + vj * 5 + 2, none⟩) (cell_lt x2)).trans x2, (hb.cell (p := ⟨g, o + vj * 5 + 3, none⟩) (cell_lt x3)).trans x3, (hb.cell (p := ⟨g, o + vj * 5 + 4, none⟩) (cell_lt x4)).trans x4⟩)
            have at1 := Lib.hid fun (W : World) (hb : Below wr.heap.size wr W) => (show Calls Tryd.prog 55 #[.pointer (some ⟨bs, 0, none⟩), .int .i64 kj] W (Num .i8 0 W) from by rw [← hdd]; exact ats (HSS.out.keep hb) (by omega) (by omega) (by omega) (by omega))
            have hak := AK.out hK'
            have e9 : nxF ⟨K, D, P, Q, R⟩ 0 = Q := by simp [nxF]
            rw [hdd, e9] at hak
            have nx := NX.out
            rw [hdd, e9] at nx
            have HAK := Lib.hid hak
            have HNX := Lib.hid nx
            clear hak nx hdd e9
            go_upto_region 11 with (fail)
            go_cut [11] (fun s wx => s = .int .i16 Q ∧ Below wr.heap.size wr wx)
            case first =>
              go_region_held3 (fun w' => (w'.cell? ⟨g, o + vj * 5 + 2, none⟩ = some (.int .i16 P) ∧ w'.cell? ⟨g, o + vj * 5 + 3, none⟩ = some (.int .i16 Q) ∧ w'.cell? ⟨g, o + vj * 5 + 4, none⟩ = some (.int .i16 R)))
                (first | with_reducible exact KP.out _ hb9 | with_reducible exact KP.out _ (Below.refl _ _).drew | with_reducible exact KP.out _ (Below.refl _ _) | fail)
                (first
                  | (go_at_call 55; (refine (at1.out _ (Below.refl _ _).drew).mono ?_); rintro e W9 ⟨rfl, b9⟩; have hb9 := Below.trans (Below.refl wr.heap.size wr).drew b9)
                  | fail)
              all_goals (go_wp2_with fail; go_meet; exact ⟨rfl, hb9⟩)
            case rest =>
            obtain ⟨rfl, hbc⟩ := hcut
            have hb9 : Below B w wc := HBB.out.trans (hbc.mono (by have := HB.out; have := HW.out.size; omega))
            have HO9 := Lib.hid (row_underN (k := 0) HOW.out hbc)
            have HB9 := Lib.hid hb9
            clear hbc hb9
            go_wp2
            exact ⟨⟨j + 1, by omega, by rw [HAK.out]; rfl, by rw [HAK.out]; show Value.int .i16 Q = Value.int .i16 ((Q).toNat : Int); rw [Int.toNat_of_nonneg HNX.out.1], by rw [HAK.out]; exact HO9.out, HB9.out⟩, by rw [show lenOf (Value.slice su oj.length cu) = oj.length from rfl]; simp [RowKit.intOf]; omega⟩
          · have KP := Lib.hid (show ∀ w', Below wr.heap.size wr w' → (w'.cell? ⟨g, o + vj * 5 + 2, none⟩ = some (.int .i16 P) ∧ w'.cell? ⟨g, o + vj * 5 + 3, none⟩ = some (.int .i16 Q) ∧ w'.cell? ⟨g, o + vj * 5 + 4, none⟩ = some (.int .i16 R)) from fun w' hb => ⟨(hb.cell (p := ⟨g, o + vj * 5 + 2, none⟩) (cell_lt x2)).trans x2, (hb.cell (p := ⟨g, o + vj * 5 + 3, none⟩) (cell_lt x3)).trans x3, (hb.cell (p := ⟨g, o + vj * 5 + 4, none⟩) (cell_lt x4)).trans x4⟩)
            have at1 := Lib.hid fun (W : World) (hb : Below wr.heap.size wr W) => (show Calls Tryd.prog 55 #[.pointer (some ⟨bs, 0, none⟩), .int .i64 kj] W (Num .i8 1 W) from by rw [← hdd]; exact ats (HSS.out.keep hb) (by omega) (by omega) (by omega) (by omega))
            have hak := AK.out hK'
            have e9 : nxF ⟨K, D, P, Q, R⟩ 1 = R := by simp [nxF]
            rw [hdd, e9] at hak
            have nx := NX.out
            rw [hdd, e9] at nx
            have HAK := Lib.hid hak
            have HNX := Lib.hid nx
            clear hak nx hdd e9
            go_upto_region 11 with (fail)
            go_cut [11] (fun s wx => s = .int .i16 R ∧ Below wr.heap.size wr wx)
            case first =>
              go_region_held3 (fun w' => (w'.cell? ⟨g, o + vj * 5 + 2, none⟩ = some (.int .i16 P) ∧ w'.cell? ⟨g, o + vj * 5 + 3, none⟩ = some (.int .i16 Q) ∧ w'.cell? ⟨g, o + vj * 5 + 4, none⟩ = some (.int .i16 R)))
                (first | with_reducible exact KP.out _ hb9 | with_reducible exact KP.out _ (Below.refl _ _).drew | with_reducible exact KP.out _ (Below.refl _ _) | fail)
                (first
                  | (go_at_call 55; (refine (at1.out _ (Below.refl _ _).drew).mono ?_); rintro e W9 ⟨rfl, b9⟩; have hb9 := Below.trans (Below.refl wr.heap.size wr).drew b9)
                  | fail)
              all_goals (go_wp2_with fail; go_meet; exact ⟨rfl, hb9⟩)
            case rest =>
            obtain ⟨rfl, hbc⟩ := hcut
            have hb9 : Below B w wc := HBB.out.trans (hbc.mono (by have := HB.out; have := HW.out.size; omega))
            have HO9 := Lib.hid (row_underN (k := 0) HOW.out hbc)
            have HB9 := Lib.hid hb9
            clear hbc hb9
            go_wp2
            exact ⟨⟨j + 1, by omega, by rw [HAK.out]; rfl, by rw [HAK.out]; show Value.int .i16 R = Value.int .i16 ((R).toNat : Int); rw [Int.toNat_of_nonneg HNX.out.1], by rw [HAK.out]; exact HO9.out, HB9.out⟩, by rw [show lenOf (Value.slice su oj.length cu) = oj.length from rfl]; simp [RowKit.intOf]; omega⟩
    · have hres : l = oj ∧ x = kj ∧ c = 0 := by
        rcases Nat.lt_or_ge j J with h | h
        · have := (SS.out j h).t
          rw [OJ.out] at this
          omega
        · obtain rfl : j = J := by omega
          cases EE.out with
          | done h => exact ⟨OJ.out, by rw [KJ.out], rfl⟩
          | budget h _ _ => rw [OJ.out] at h; omega
      obtain ⟨rfl, rfl, rfl⟩ := hres
      have g1 : ¬ (l.length : Int) < n := by omega
      have OW := Lib.hid (OwnL.of_row (K := .i8) hown rfl rfl)
      clear hss hown hsz k0 x0 x1 x2 x3 x4
      go_wp2
      refine bodyPost_ret (v := .tuple #[.slice su l.length cu, .int .i64 kj, .int .i64 0]) (by simp [results, Tryd.results33, go_sem]) rfl ?_
      exact ⟨⟨su, cu, rfl, by rw [hB]; exact OW.out⟩, HW.out⟩
end Go.Proofs.YtingfbohkchgbaaDoor.Sx
