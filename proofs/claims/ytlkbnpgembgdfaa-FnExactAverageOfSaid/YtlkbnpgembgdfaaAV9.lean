/-
  Averages, by the model.
-/
import Derived.Test.YtlkbnpgembgdfaaAV9a
namespace Go.Proofs.Ytlkbnpgembgdfaa.Sx
open Go Go.RowKit
set_option linter.unusedVariables false
set_option linter.unusedSimpArgs false

theorem infoMean : (Try.prog.info? 82).map (fun i => (i.zero, i.size, i.bytes)) = some (some (.agg #[.int .i64 0, .int .i64 0, .int .i64 0]), 3, 24) := by kernel_rfl
theorem ty82 : (82 : TypeId) ≠ 53 := of_decide_eq_true (by kernel_rfl)
/-- A stream lies in a box of its own. -/
structure Boxd (n : Nat) (wr wx : World) (A B : List Int) (s : Value) : Prop where
  mk ::
  here : ∃ ns sA cA sB cB, s = .pointer (some ⟨ns, 0, none⟩) ∧ Bk wx ns (.slice sA A.length cA) (.slice sB B.length cB) 26 ∧ Own2 .i8 n wx A B (.slice sA A.length cA) (.slice sB B.length cB) ∧ wr.heap.size ≤ ns
  below : Below wr.heap.size wr wx
set_option maxRecDepth 1000000 in
set_option maxHeartbeats 16000000 in
theorem avgS_yes (a b c d X Y A B : List Int) (p : Nat) (cd : Int) (hv : vsB a b = true) (hv' : vsB c d = true) (hR : ARel a b c d X Y) (hp : Per Y p)
    (hY : vsB ((X ++ Y).take (dn (X ++ Y) p X.length)) (((X ++ Y).drop (dn (X ++ Y) p X.length)).take p) = true → A = (X ++ Y).take (dn (X ++ Y) p X.length) ∧ B = ((X ++ Y).drop (dn (X ++ Y) p X.length)).take p ∧ cd = 0)
    (hN : vsB ((X ++ Y).take (dn (X ++ Y) p X.length)) (((X ++ Y).drop (dn (X ++ Y) p X.length)).take p) = false → A = [] ∧ B = [] ∧ cd = 3) : Does2 31 a b c d A B cd := by
  intro w v0 v1 u0 u1 h0 h1 h2 h3
  have h4 := (vsB_iff a b).1 hv
  have h5 := (vsB_iff c d).1 hv'
  have hD := dgs_of hv hv'
  have la : a.length ≤ 16 := h4.1
  have lb : 1 ≤ b.length ∧ b.length ≤ 14 := ⟨h4.2.1, h4.2.2.1⟩
  have lc : c.length ≤ 16 := h5.1
  have ld : 1 ≤ d.length ∧ d.length ≤ 14 := ⟨h5.2.1, h5.2.2.1⟩
  obtain ⟨s0, k0, rfl⟩ := h0.form
  obtain ⟨s1, k1, rfl⟩ := h1.form
  obtain ⟨s2, k2, rfl⟩ := h2.form
  obtain ⟨s3, k3, rfl⟩ := h3.form
  obtain ⟨W, hW, hB, x⟩ := boxK w (.slice s0 a.length k0) (.slice s1 b.length k1) 26
  obtain ⟨V, hV, hB2, y⟩ := boxK W (.slice s2 c.length k2) (.slice s3 d.length k3) 26
  obtain ⟨U, hU, hB3, r⟩ := boxK V (.slice none 0 0) (.slice none 0 0) 26
  have bV := hB.trans (hB2.mono hB.size)
  have bU := bV.trans (hB3.mono bV.size)
  have z1 : W.heap.size = w.heap.size + 1 := by rw [← hW]; simp
  have z2 : V.heap.size = w.heap.size + 2 := by rw [← hV]; simp; omega
  have z3 : U.heap.size = w.heap.size + 3 := by rw [← hU]; simp; omega
  have S0 : Sa w W.heap.size V.heap.size a b c d (.slice s0 a.length k0) (.slice s1 b.length k1) (.slice s2 c.length k2) (.slice s3 d.length k3) U :=
    ⟨⟨(x.keep hB2).keep hB3, h0.keep bU, h1.keep bU⟩, ⟨y.keep hB3, h2.keep bU, h3.keep bU⟩, r, bU, by omega⟩
  have ok1 := okS S0.s.bk S0.s.i0 S0.s.i1 (by omega) (by omega)
  have ok2 := okS S0.t.bk S0.t.i0 S0.t.i1 (by omega) (by omega)
  rw [hv] at ok1
  rw [hv'] at ok2
  have at0 := Lib.hid fun W' (h : Here W' w.heap.size a b (.slice s0 a.length k0) (.slice s1 b.length k1)) k (hk : k ≤ 1048576) => ats h (by omega) (by omega) lb.1 hk
  have at1 := Lib.hid fun W' (h : Here W' W.heap.size c d (.slice s2 c.length k2) (.slice s3 d.length k3)) k (hk : k ≤ 1048576) => ats h (by omega) (by omega) ld.1 hk
  have pl0 := Lib.hid fun W' (h : Here W' w.heap.size a b (.slice s0 a.length k0) (.slice s1 b.length k1)) k (hk : k ≤ 1048576) => pls h (by omega) (by omega) lb.1 hk
  have pl1 := Lib.hid fun W' (h : Here W' W.heap.size c d (.slice s2 c.length k2) (.slice s3 d.length k3)) k (hk : k ≤ 1048576) => pls h (by omega) (by omega) ld.1 hk
  have DL := Lib.hid (fun n (hn : DistA a b c d n) => hn.le hD la lb lc ld)
  have HD := Lib.hid hD
  have HR := Lib.hid hR
  have HY := Lib.hid hY
  have HN := Lib.hid hN
  have HP := Lib.hid hp
  have HS := Lib.hid S0
  have HS0 := Lib.hid S0
  have HZ := Lib.hid (show W.heap.size = w.heap.size + 1 ∧ V.heap.size = w.heap.size + 2 ∧ U.heap.size = w.heap.size + 3 from ⟨z1, z2, z3⟩)
  have hlB : ∀ (s : Option Addr) (n k : Nat) (W : World), (Builtin.len_ #[79] 3 #[.slice s n k]).run Try.prog W = .ok (.int .i64 n) W := fun s n k W => rfl
  clear hv hv' h0 h1 h2 h3 h4 h5 x y r hB hB2 hB3 bV hD hR hY hN hp S0 bU z1 z2 z3
  go_enter Try.func31, Try.ntmps31
  go_wp2_with (go_at_call 34; refine ok1.mono ?_)
  first | (rintro e W1 rfl hs) | (rintro e W1 ⟨rfl, hs⟩)
  obtain rfl := hs.out
  clear hs ok1
  go_wp2_with (go_at_call 34; refine ok2.mono ?_)
  first | (rintro e W1 rfl hs) | (rintro e W1 ⟨rfl, hs⟩)
  obtain rfl := hs.out
  clear hs ok2
  have hz := HZ.out
  obtain ⟨U1, hU1, bU1, r1⟩ : ∃ U1, W1.alloc (.cells #[] 82) = U1 ∧ Below W1.heap.size W1 U1 ∧ U1.ownsRow (w.heap.size + 3) 82 3 (.slice (some ⟨W1.heap.size, 0, none⟩) 0 0) 0 [] := ⟨_, rfl, (Below.refl _ _).alloc (Nat.le_refl _) _, World.ownsRow_made W1 #[] 0 (by omega) (by decide) rfl⟩
  have zu1 := bU1.size
  obtain ⟨U2, hU2, bU2, r2⟩ : ∃ U2, U1.alloc (.cells #[] 53) = U2 ∧ Below U1.heap.size U1 U2 ∧ U2.ownsRow (w.heap.size + 3) 53 1 (.slice (some ⟨U1.heap.size, 0, none⟩) 0 0) 0 [] := ⟨_, rfl, (Below.refl _ _).alloc (Nat.le_refl _) _, World.ownsRow_made U1 #[] 0 (by omega) (by decide) rfl⟩
  have r1 := row_underN (k := 0) r1 bU2
  have S2 := (HS.out.keep (bU1.trans (bU2.mono bU1.size)))
  have a0 := (show Calls Try.prog 43 #[.pointer (some ⟨w.heap.size, 0, none⟩), .int .i64 0] U2 (Num .i8 (dg a b 0) U2) from at0.out U2 S2.s 0 (by omega))
  have a1 := Lib.hid fun W' (hb : Below U2.heap.size U2 W') => (show Calls Try.prog 43 #[.pointer (some ⟨W.heap.size, 0, none⟩), .int .i64 0] W' (Num .i8 (dg c d 0) W') from at1.out W' (S2.keep hb).t 0 (by omega))
  have dd := HD.out 0
  obtain ⟨x0, hx0⟩ : ∃ x, dg a b 0 = x := ⟨_, rfl⟩
  obtain ⟨y0, hy0⟩ : ∃ x, dg c d 0 = x := ⟨_, rfl⟩
  have HC := Lib.hid (show cA a b c d 0 = x0 + y0 from by rw [← hx0, ← hy0]; rfl)
  rw [hx0] at a0 dd
  rw [hy0] at a1 dd
  have HS2 := Lib.hid S2
  have HBU := Lib.hid (bU1.trans (bU2.mono bU1.size))
  have R1 := Lib.hid r1
  have R2 := Lib.hid r2
  clear hz bU1 bU2 zu1 S2 r1 r2 HS hx0 hy0
  go_wp2_with (go_at_call 43; refine a0.mono ?_)
  rintro e W3 ⟨rfl, b3⟩
  have a1 := a1.out _ b3
  clear a0
  go_wp2_with (go_at_call 43; refine a1.mono ?_)
  rintro e W4 ⟨rfl, b4⟩
  have b4 := b3.trans (b4.mono b3.size)
  clear b3 a1
  go_wp2
  have S5 := HS2.out.keep b4
  have B5 := HBU.out.trans (b4.mono HBU.out.size)
  have r1 := row_underN (k := 0) R1.out b4
  have r2 := row_underN (k := 0) R2.out b4
  have hc0 := HC.out
  clear b4 HS2 R1 R2 hU1 hU2 HBU
  go_loopw [6, 7, 8, 9, 10, 11, 12, 13, 14] (fun vs vd x n now i out e dd wr => ∃ k : Nat, k ≤ 4500 ∧ x = .int .i64 (cA a b c d k) ∧ n = .int .i64 (k + 1 : Nat) ∧ wr.ownsRow (w.heap.size + 3) 82 3 vs k (sAL a b c d k) ∧ wr.ownsRow (w.heap.size + 3) 53 1 vd k ((dAL a b c d k).map (Value.int .i8)) ∧ Sa w W.heap.size V.heap.size a b c d (.slice s0 a.length k0) (.slice s1 b.length k1) (.slice s2 c.length k2) (.slice s3 d.length k3) wr ∧ Below W1.heap.size W1 wr ∧ Hid (DistA a b c d k)) (fun _ _ _ n _ _ _ _ _ _ => 4502 - (RowKit.intOf n).toNat)
  case atStart => exact ⟨0, by omega, by rw [hc0], rfl, r1, r2, S5, B5, fun i j h1 h2 => by omega⟩
  case round =>
    obtain ⟨k, hk, rfl, rfl, hown, hrow, hst, hbw, hDk⟩ := hrel
    obtain ⟨sv, cv, rfl⟩ := own_formN hown
    obtain ⟨dv, dc, rfl⟩ := own_formN hrow
    have P0 := pl0.out wr hst.s (k + 1) (by omega)
    have P1 := Lib.hid fun W' (hb : Below wr.heap.size wr W') => pl1.out W' (hst.keep hb).t (k + 1) (by omega)
    have HST := Lib.hid hst
    have HBW := Lib.hid hbw
    have HOW := Lib.hid hown
    have HRO := Lib.hid hrow
    have ob := cA_in HD.out k
    obtain ⟨ck, hck⟩ : ∃ ck, cA a b c d k = ck := ⟨_, rfl⟩
    obtain ⟨pk, hpk⟩ : ∃ pk, plc a b (k + 1) = pk := ⟨_, rfl⟩
    obtain ⟨qk, hqk⟩ : ∃ qk, plc c d (k + 1) = qk := ⟨_, rfl⟩
    rw [hpk] at P0
    simp only [hqk] at P1
    rw [hck] at ob ⊢
    have HCK := Lib.hid hck
    have HPK := Lib.hid hpk
    have HQK := Lib.hid hqk
    clear hst hown hrow hbw r1 r2 S5 B5 hc0 hck hpk hqk HC dd
    go_wp2_with (go_at_call 55; refine P0.mono ?_)
    rintro e W5 ⟨rfl, b5⟩
    have P1 := P1.out _ b5
    clear P0
    go_wp2_with (go_at_call 55; refine P1.mono ?_)
    rintro e W6 ⟨rfl, b6⟩
    have b6 := b5.trans (b6.mono b5.size)
    obtain ⟨W7, hW7, b7, x7⟩ := boxN W6 #[.int .i64 ck, .int .i64 pk, .int .i64 qk] 82
    have b7 := b6.trans (b7.mono b6.size)
    clear b5 P1 b6
    go_wp2
    have r7 := row_underN (k := 0) HOW.out b7
    have HOW7 := Lib.hid r7
    have HRO7 := Lib.hid (row_underN (k := 0) HRO.out b7)
    have HST7 := Lib.hid (HST.out.keep b7)
    have HBW7 := Lib.hid ((show Below W1.heap.size W1 wr from HBW.out).trans (b7.mono HBW.out.size))
    have c0 : W7.cell? ⟨W6.heap.size, 0, none⟩ = some (.int .i64 ck) := by rw [Lib.cell_of_heap x7]; rfl
    have c1 : W7.cell? ⟨W6.heap.size, 1, none⟩ = some (.int .i64 pk) := by rw [Lib.cell_of_heap x7]; rfl
    have c2 : W7.cell? ⟨W6.heap.size, 2, none⟩ = some (.int .i64 qk) := by rw [Lib.cell_of_heap x7]; rfl
    have HX7 := Lib.hid x7
    have HB7 := Lib.hid b7
    clear r7 hW7 x7 b7 HOW HRO HST HBW
    go_loopw [11, 12] (fun i out wx => ∃ j : Nat, j ≤ k ∧ i = .int .i64 j ∧ Below W7.heap.size W7 wx ∧ Hid (∀ m, m < j → kvA a b c d m ≠ kvA a b c d k)) (fun i _ _ => k - (RowKit.intOf i).toNat)
    case atStart => exact ⟨0, Nat.zero_le _, rfl, Below.refl _ _, fun m h => absurd h (Nat.not_lt_zero _)⟩
    case round =>
      obtain ⟨j, hj, rfl, bx, hJ⟩ := hrel
      by_cases hjk : j < k
      · have rx := row_underN (k := 0) HOW7.out bx
        obtain ⟨g, cap, hf, _, _⟩ := rx.form (by omega)
        obtain rfl : sv = some ⟨g, 0, none⟩ := by simp at hf; exact hf.1
        obtain ⟨q0, q1, q2⟩ := sAL_at a b c d hjk
        obtain ⟨cj, hcj⟩ : ∃ cj, cA a b c d j = cj := ⟨_, rfl⟩
        obtain ⟨pj, hpj⟩ : ∃ pj, plc a b (j + 1) = pj := ⟨_, rfl⟩
        obtain ⟨qj, hqj⟩ : ∃ qj, plc c d (j + 1) = qj := ⟨_, rfl⟩
        rw [hcj] at q0
        rw [hpj] at q1
        rw [hqj] at q2
        have a0 := row_cell rx q0
        have a1 := row_cell rx q1
        have a2 := row_cell rx q2
        have y := at_keep HX7.out bx
        have c0 : wr.cell? ⟨W6.heap.size, 0, none⟩ = some (.int .i64 ck) := by rw [Lib.cell_of_heap y]; rfl
        have c1 : wr.cell? ⟨W6.heap.size, 1, none⟩ = some (.int .i64 pk) := by rw [Lib.cell_of_heap y]; rfl
        have c2 : wr.cell? ⟨W6.heap.size, 2, none⟩ = some (.int .i64 qk) := by rw [Lib.cell_of_heap y]; rfl
        have HE := Lib.hid (⟨hcj, hpj, hqj⟩ : _ ∧ _ ∧ _)
        clear hf q0 q1 q2 rx y hcj hpj hqj
        have hJ' : Hid (∀ m, m < j → kvA a b c d m ≠ kvA a b c d k) := hJ
        by_cases he : cj = ck ∧ pj = pk ∧ qj = qk
        · obtain ⟨rfl, rfl, rfl⟩ := he
          go_upto_region 12 with (fail)
          go_region_held3 (fun w' => (w'.cell? ⟨g, j * 3, none⟩ = some (.int .i64 cj) ∧ w'.cell? ⟨g, j * 3 + 1, none⟩ = some (.int .i64 pj) ∧ w'.cell? ⟨g, j * 3 + 2, none⟩ = some (.int .i64 qj)) ∧ w'.cell? ⟨W6.heap.size, 0, none⟩ = some (.int .i64 cj) ∧ w'.cell? ⟨W6.heap.size, 1, none⟩ = some (.int .i64 pj) ∧ w'.cell? ⟨W6.heap.size, 2, none⟩ = some (.int .i64 qj)) (first | go_keep | exact ⟨⟨a0, a1, a2⟩, c0, c1, c2⟩) (fail)
          rename_i hHeldR
          clear hHeldR
          obtain ⟨Z, hZ⟩ : ∃ Z, wr.drew = Z := ⟨_, rfl⟩
          rw [hZ]
          have bz : Below W7.heap.size W7 Z := by rw [← hZ]; exact bx.drew
          have rowz := row_underN (k := 0) HRO7.out bz
          have SZ := Lib.hid (HST7.out.keep bz)
          obtain ⟨gd, rfl, hg3, hg4, own⟩ := row_cutL (dAL_len a b c d k) rowz hjk (Nat.le_refl (w.heap.size + 3))
          have lA : ((dAL a b c d k).take j).length = j := by rw [List.length_take, dAL_len]; omega
          have lB : ((dAL a b c d k).drop j).length = k - j := by rw [List.length_drop, dAL_len]
          have keq : kvA a b c d j = kvA a b c d k := by unfold kvA; rw [HE.out.1, HE.out.2.1, HE.out.2.2, HCK.out, HPK.out, HQK.out]
          obtain ⟨eX, eY⟩ := HR.out.uniq ⟨j, k, hjk, hk, keq, hDk.out, rfl, rfl⟩
          rw [← eX] at own lA
          rw [← eY] at own lB
          have iA := own.o0.is
          have iB := own.o1.is
          rw [← lA] at iA
          rw [← lB] at iB
          have iA : IsL .i8 Z X (.slice (some ⟨gd, 0, none⟩) X.length dc) := isL_cap iA (by omega)
          have iB : IsL .i8 Z Y (.slice (some ⟨gd, j, none⟩) Y.length (dc - j)) := isL_cap iB (by omega)
          rw [lA] at iA
          rw [lB] at iB
          have ns := Lib.hid fun W' (hb : Below Z.heap.size Z W') => normalS X Y (by omega) (by omega) (by omega) p HP.out W' _ _ (iA.keep hb) (iB.keep hb) ⟨_, _, _, rfl⟩ ⟨_, _, _, rfl⟩
          have hpb := HP.out.2.1
          have hkn := dn_le (X ++ Y) p X.length
          have hlen : (X ++ Y).length = X.length + Y.length := List.length_append
          have E1 : ((X ++ Y).take (dn (X ++ Y) p X.length)).length = dn (X ++ Y) p X.length := by rw [List.length_take]; omega
          have E2 : (((X ++ Y).drop (dn (X ++ Y) p X.length)).take p).length = p := by rw [List.length_take, List.length_drop]; omega
          have K1 : dn (X ++ Y) p X.length ≤ 10000 ∧ p ≤ 10000 := by omega
          have hY := HY.out
          have hN := HN.out
          have ns := fun W' (hb : Below Z.heap.size Z W') => normalS X Y (by omega) (by omega) (by omega) p HP.out W' _ _ (iA.keep hb) (iB.keep hb) ⟨_, _, _, rfl⟩ ⟨_, _, _, rfl⟩
          obtain ⟨n, hn⟩ : ∃ n, dn (X ++ Y) p X.length = n := ⟨_, rfl⟩
          rw [hn] at E1 E2 K1 hY hN
          simp only [hn] at ns
          obtain ⟨X2, hX2⟩ : ∃ l, (X ++ Y).take n = l := ⟨_, rfl⟩
          obtain ⟨Y2, hY2⟩ : ∃ l, ((X ++ Y).drop n).take p = l := ⟨_, rfl⟩
          simp only [hX2, hY2] at ns
          rw [hX2] at E1 hY hN
          rw [hY2] at E2 hY hN
          obtain rfl : X2.length = n := E1
          obtain rfl : Y2.length = p := E2
          obtain rfl : j = X.length := lA.symm
          obtain rfl : k = X.length + Y.length := by omega
          have g1 : ¬ dc = X.length := by omega
          have g2 : (X.length : Int) ≤ dc := by omega
          have g3 : (X.length : Int) ≤ ((X.length + Y.length : Nat) : Int) := by omega
          have g4 : ((X.length + Y.length : Nat) : Int) ≤ dc := by omega
          have g5 : (X.length : Int) ≤ (X.length : Int) + (Y.length : Int) := by omega
          have g6 : (X.length : Int) + (Y.length : Int) ≤ dc := by omega
          have g7 : (X.length : Int) + (Y.length : Int) - X.length = Y.length := by omega
          have g8 : X.length + Y.length - X.length = Y.length := by omega
          rw [g8] at ns
          replace ns := Lib.hid ns
          have hYH := Lib.hid hY
          have hNH := Lib.hid hN
          replace K1 := Lib.hid K1
          clear hY hN hn hX2 hY2 hpb hkn hlen own iA iB lA lB keq eX eY rowz hZ hg4 HY HN HP a0 a1 a2 c0 c1 c2 hJ hJ' HE ob HCK HPK HQK P1 HX7 HB7 HOW7 HRO7 HBW7 HR HD DL at0 at1 pl0 pl1 bx
          go_upto_region 13 with (fail)
          go_cut [12] (fun s wx => Boxd Z.heap.size Z wx X2 Y2 s)
          case first =>
            go_region_held3 (fun w' => Below Z.heap.size Z w')
              (first | exact hb3 | exact Below.refl _ _ | exact (Below.refl _ _).drew | exact Below.setCell (Below.setCell (by assumption) (by first | (simp; done) | (simp; omega) | omega) _) (by first | (simp; done) | (simp; omega) | omega) _ | exact Below.alloc (by assumption) (Below.size (by assumption)) _ | exact (Below.alloc (Below.refl _ _) (Nat.le_refl _) _).drew)
              (first
                | (go_at_call 40; refine (ns.out Z (Below.refl _ _)).mono ?_; rintro e w3 ⟨sX, ccX, sY, ccY, rfl, b3, o3⟩; have hb3 : Below Z.heap.size Z w3 := b3)
                | (go_at_call 40; refine (ns.out Z.drew (Below.refl _ _).drew).mono ?_; rintro e w3 ⟨sX, ccX, sY, ccY, rfl, b3, o3⟩; have hb3 : Below Z.heap.size Z w3 := ((Below.refl _ _).drew).trans b3)
                | (go_at_call 40; refine (ns.out (Z.drew.alloc (.cells #[.slice none 0 0, .slice none 0 0] 26)) ((Below.refl _ _).drew.alloc (by simp) _)).mono ?_; rintro e w3 ⟨sX, ccX, sY, ccY, rfl, b3, o3⟩; have hb3 : Below Z.heap.size Z w3 := Below.trans ((Below.refl _ _).drew.alloc (by simp) _) (b3.mono (by simp)); have ys' : w3.heap[Z.heap.size]? = some (.cells #[.slice none 0 0, .slice none 0 0] (26 : Nat) (0, 0)) := (by with_reducible exact at_below b3 (by simp) (at_new rfl)); have ys : Bk w3 Z.heap.size (.slice none 0 0) (.slice none 0 0) 26 := ys'; clear ys'; have k0 := ys.c0; have k1 := ys.c1; have t0 := ys.f 0; have t1 := ys.f 1)
                | (go_at_call 40; refine (ns.out (Z.alloc (.cells #[.slice none 0 0, .slice none 0 0] 26)) ((Below.refl _ _).alloc (by simp) _)).mono ?_; rintro e w3 ⟨sX, ccX, sY, ccY, rfl, b3, o3⟩; have hb3 : Below Z.heap.size Z w3 := Below.trans ((Below.refl _ _).alloc (by simp) _) (b3.mono (by simp)); have ys' : w3.heap[Z.heap.size]? = some (.cells #[.slice none 0 0, .slice none 0 0] (26 : Nat) (0, 0)) := (by with_reducible exact at_below b3 (by simp) (at_new rfl)); have ys : Bk w3 Z.heap.size (.slice none 0 0) (.slice none 0 0) 26 := ys'; clear ys'; have k0 := ys.c0; have k1 := ys.c1; have t0 := ys.f 0; have t1 := ys.f 1))
            all_goals
              first
                | (obtain ⟨W5, hW5, y5, _⟩ := storedK6 ys (.slice sX X2.length ccX) (.slice sY Y2.length ccY)
                   obtain ⟨W5', hW5', _, _, r5, B5⟩ := stored ys (.slice sX X2.length ccX) (.slice sY Y2.length ccY)
                   obtain rfl : W5 = W5' := hW5.symm.trans hW5'
                   rw [hW5]
                   have zz : Z.heap.size < (Z.drew.alloc (.cells #[.slice none 0 0, .slice none 0 0] 26)).heap.size := by simp
                   go_wp2_with fail
                   go_meet
                   exact ⟨⟨_, _, _, _, _, rfl, y5, ⟨(o3.o0.rest zz r5).mono (Nat.le_of_lt zz), (o3.o1.rest zz r5).mono (Nat.le_of_lt zz), o3.apart⟩, Nat.le_refl _⟩, hb3.trans (B5 _ (Nat.le_refl _))⟩)
                | (obtain ⟨W5, hW5, bS, y5⟩ := boxK w3 (.slice sX X2.length ccX) (.slice sY Y2.length ccY) 26
                   rw [hW5]
                   go_wp2_with fail
                   go_meet
                   exact ⟨⟨_, _, _, _, _, rfl, y5, o3.keep bS, hb3.size⟩, hb3.trans (bS.mono hb3.size)⟩)
          case rest =>
          obtain ⟨⟨n5, sA, cA', sB, cB, rfl, y5, o5, hns⟩, b5⟩ := hcut
          have ok5 := okS y5 o5.o0.is o5.o1.is (by have := K1.out; omega) (by have := K1.out; omega)
          have y := SZ.out.rs.keep b5
          have hB6 := SZ.out.bl.trans (b5.mono SZ.out.bl.size)
          have q0 := y.c0
          have q1 := y.c1
          have f0 := y.f 0
          have f1 := y.f 1
          have k0' := y5.c0
          have k1' := y5.c1
          have hYH := hYH.out
          have hNH := hNH.out
          obtain ⟨vs, hvs⟩ : ∃ vs, vsB X2 Y2 = vs := ⟨_, rfl⟩
          rw [hvs] at ok5 hYH hNH
          clear hvs g1 g2 g3 g4 g5 g6 g7 g8 ns
          go_wp2_with (go_at_call 34; refine ok5.mono ?_)
          first | (rintro e W6 rfl hs) | (rintro e W6 ⟨rfl, hs⟩)
          obtain rfl := hs.out
          clear hs ok5
          cases vs
          · obtain ⟨rfl, rfl, rfl⟩ := hNH rfl
            go_wp2
            obtain ⟨W9, hW9, e0, e1, r9, B9⟩ := stored y (.slice none 0 0) (.slice none 0 0)
            rw [hW9]
            refine bodyPost_ret (v := .tuple #[.agg #[.slice none 0 0, .slice none 0 0], .int .i64 3]) (by simp [results, Try.results31, go_sem, e0, e1]) rfl ?_
            exact ⟨⟨_, _, _, _, rfl, OwnL.nil, OwnL.nil, fun _ _ _ _ _ _ _ _ h => by cases h⟩, hB6.trans (B9 _ (by have := HZ.out; omega))⟩
          · obtain ⟨rfl, rfl, rfl⟩ := hYH rfl
            go_wp2
            obtain ⟨W9, hW9, e0, e1, r9, B9⟩ := stored y (.slice sA A.length cA') (.slice sB B.length cB)
            rw [hW9]
            have zs := SZ.out.sz
            have zs2 := SZ.out.bl.size
            refine bodyPost_ret (v := .tuple #[.agg #[.slice sA A.length cA', .slice sB B.length cB], .int .i64 0]) (by simp [results, Try.results31, go_sem, e0, e1]) rfl ?_
            exact ⟨⟨sA, cA', sB, cB, rfl, (o5.o0.rest (by omega) r9).mono (by omega), (o5.o1.rest (by omega) r9).mono (by omega), o5.apart⟩, hB6.trans (B9 _ (by have := HZ.out; omega))⟩
        · have hne := Lib.hid (show kvA a b c d j ≠ kvA a b c d k from fun e => by
            unfold kvA at e
            rw [HE.out.1, HE.out.2.1, HE.out.2.2, HCK.out, HPK.out, HQK.out] at e
            have e5 : cj = ck ∧ (pj : Int) = pk ∧ (qj : Int) = qk := by simpa using e
            exact he ⟨e5.1, Int.ofNat.inj e5.2.1, Int.ofNat.inj e5.2.2⟩)
          by_cases e1 : cj = ck
          · by_cases e2 : pj = pk
            · subst e1
              subst e2
              have e3 : ¬ qj = qk := fun e => he ⟨rfl, rfl, e⟩
              have n1 : ((qj : Int) == (qk : Int)) = false := by rw [beq_eq_false_iff_ne]; omega
              go_upto_region 12 with (fail)
              go_region_held3 (fun w' => (w'.cell? ⟨g, j * 3, none⟩ = some (.int .i64 cj) ∧ w'.cell? ⟨g, j * 3 + 1, none⟩ = some (.int .i64 pj) ∧ w'.cell? ⟨g, j * 3 + 2, none⟩ = some (.int .i64 qj)) ∧ w'.cell? ⟨W6.heap.size, 0, none⟩ = some (.int .i64 cj) ∧ w'.cell? ⟨W6.heap.size, 1, none⟩ = some (.int .i64 pj) ∧ w'.cell? ⟨W6.heap.size, 2, none⟩ = some (.int .i64 qk)) (first | go_keep | exact ⟨⟨a0, a1, a2⟩, c0, c1, c2⟩) (fail)
              all_goals
                go_wp2
                exact ⟨⟨j + 1, by omega, rfl, bx.drew, fun m hm => if h : m < j then hJ.out m h else by rw [show m = j by omega]; exact hne.out⟩, by simp [RowKit.intOf]; omega⟩
            · subst e1
              have n1 : ((pj : Int) == (pk : Int)) = false := by rw [beq_eq_false_iff_ne]; omega
              go_upto_region 12 with (fail)
              go_region_held3 (fun w' => (w'.cell? ⟨g, j * 3, none⟩ = some (.int .i64 cj) ∧ w'.cell? ⟨g, j * 3 + 1, none⟩ = some (.int .i64 pj) ∧ w'.cell? ⟨g, j * 3 + 2, none⟩ = some (.int .i64 qj)) ∧ w'.cell? ⟨W6.heap.size, 0, none⟩ = some (.int .i64 cj) ∧ w'.cell? ⟨W6.heap.size, 1, none⟩ = some (.int .i64 pk) ∧ w'.cell? ⟨W6.heap.size, 2, none⟩ = some (.int .i64 qk)) (first | go_keep | exact ⟨⟨a0, a1, a2⟩, c0, c1, c2⟩) (fail)
              all_goals
                go_wp2
                exact ⟨⟨j + 1, by omega, rfl, bx.drew, fun m hm => if h : m < j then hJ.out m h else by rw [show m = j by omega]; exact hne.out⟩, by simp [RowKit.intOf]; omega⟩
          · have n1 : (cj == ck) = false := by rw [beq_eq_false_iff_ne]; exact e1
            go_upto_region 12 with (fail)
            go_region_held3 (fun w' => (w'.cell? ⟨g, j * 3, none⟩ = some (.int .i64 cj) ∧ w'.cell? ⟨g, j * 3 + 1, none⟩ = some (.int .i64 pj) ∧ w'.cell? ⟨g, j * 3 + 2, none⟩ = some (.int .i64 qj)) ∧ w'.cell? ⟨W6.heap.size, 0, none⟩ = some (.int .i64 ck) ∧ w'.cell? ⟨W6.heap.size, 1, none⟩ = some (.int .i64 pk) ∧ w'.cell? ⟨W6.heap.size, 2, none⟩ = some (.int .i64 qk)) (first | go_keep | exact ⟨⟨a0, a1, a2⟩, c0, c1, c2⟩) (fail)
            all_goals
              go_wp2
              exact ⟨⟨j + 1, by omega, rfl, bx.drew, fun m hm => if h : m < j then hJ.out m h else by rw [show m = j by omega]; exact hne.out⟩, by simp [RowKit.intOf]; omega⟩
      · obtain rfl : j = k := by omega
        have DS := Lib.hid (hDk.out.succ hJ.out)
        have hs1 := row_underN (k := 0) HOW7.out bx
        have hr1 := row_underN (k := 0) HRO7.out bx
        have bw := (show Below W1.heap.size W1 W7 from HBW7.out).trans (bx.mono HBW7.out.size)
        have HBWR := Lib.hid bw
        have y := at_keep HX7.out bx
        have c0 : wr.cell? ⟨W6.heap.size, 0, none⟩ = some (.int .i64 ck) := by rw [Lib.cell_of_heap y]; rfl
        have c1 : wr.cell? ⟨W6.heap.size, 1, none⟩ = some (.int .i64 pk) := by rw [Lib.cell_of_heap y]; rfl
        have c2 : wr.cell? ⟨W6.heap.size, 2, none⟩ = some (.int .i64 qk) := by rw [Lib.cell_of_heap y]; rfl
        obtain ⟨m82, ha, ha0, ha1, ha2⟩ := info_parts infoMean
        obtain ⟨XS, hXS⟩ : ∃ X, sAL a b c d j = X := ⟨_, rfl⟩
        obtain ⟨ZS, hZS⟩ : ∃ Z, (dAL a b c d j).map (Value.int .i8) = Z := ⟨_, rfl⟩
        rw [hXS] at hs1
        rw [hZS] at hr1
        have HXS := Lib.hid hXS
        have HZS := Lib.hid hZS
        have SEP := Lib.hid (own_typesN hr1 hs1 (Ne.symm ty82))
        clear y bw hXS hZS
        go_wp2_with (at_builtin; refine wpList_append_own _ rfl _ _ 79 rfl (w.heap.size + 3) 82 m82 (.agg #[.int .i64 0, .int .i64 0, .int .i64 0]) 3 24 Try.underlying79 ha ha0 ha1 ha2 rfl (by decide) _ _ _ rfl (hs1.alloc _) ⟨wr.heap.size, 0, none⟩ 1 1 [.int .i64 ck, .int .i64 pk, .int .i64 qk] rfl rfl ?c1 ?c2 ?c3 ?c4 ?c5 ?_)
        case c1 => exact newN _ _ _
        case c2 => simp [Value.oneCell']
        case c3 => unfold maxLen; omega
        case c4 => omega
        case c5 => simp; have := HBWR.out.size; have := HZ.out; omega
        intro v' w1 hown1 hgrow _
        have hgrow : (wr.alloc (.cells #[.int .i64 ck, .int .i64 pk, .int .i64 qk] 82)).grownBy w1 (Value.slice sv j cv).ownBlock := hgrow
        have bw1 := (HBWR.out.alloc HBWR.out.size _).grown hgrow (by have := HBWR.out.size; simp; omega) fun m hm => by have := (hs1.lt m hm).1; have := HZ.out; omega
        have hr2 : w1.ownsRow (w.heap.size + 3) 53 1 (.slice dv j dc) j ZS := (hr1.alloc _).kept hgrow SEP.out
        have hown1 : w1.ownsRow (w.heap.size + 3) 82 3 v' (j + 1) (sAL a b c d (j + 1)) := by
          show w1.ownsRow _ _ _ _ _ (sAL a b c d j ++ kvC a b c d j)
          rw [HXS.out]; unfold kvC; rw [HCK.out, HPK.out, HQK.out]; exact hown1
        have S1 := HS0.out.keep bw1
        obtain ⟨x1, hx1⟩ : ∃ x, dg a b (j + 1) = x := ⟨_, rfl⟩
        obtain ⟨y1, hy1⟩ : ∃ x, dg c d (j + 1) = x := ⟨_, rfl⟩
        have HBW1 := Lib.hid bw1
        have aa0 := (show Calls Try.prog 43 #[.pointer (some ⟨w.heap.size, 0, none⟩), .int .i64 (j + 1 : Nat)] w1 (Num .i8 (dg a b (j + 1)) w1) from at0.out w1 S1.s (j + 1) (by omega))
        have aa1 := Lib.hid fun W' (hb : Below w1.heap.size w1 W') => (show Calls Try.prog 43 #[.pointer (some ⟨W.heap.size, 0, none⟩), .int .i64 (j + 1 : Nat)] W' (Num .i8 (dg c d (j + 1)) W') from at1.out W' (S1.keep hb).t (j + 1) (by omega))
        have dd := HD.out (j + 1)
        have HEE0 : eA a b c d j = 2 * ck + x1 + y1 := by unfold eA; rw [HCK.out, hx1, hy1]; omega
        rw [hx1] at aa0 dd
        rw [hy1] at aa1 dd
        obtain ⟨E, hE⟩ : ∃ E, 2 * ck + x1 + y1 = E := ⟨_, rfl⟩
        rw [hE] at HEE0
        have HEE := Lib.hid HEE0
        have ebd : -6 ≤ E ∧ E ≤ 6 := by omega
        have e0 : IntKind.i64.wrap (2 * ck) = 2 * ck := by rw [IntKind.wrap_i64]; omega
        have e1 : IntKind.i64.wrap (2 * ck + x1) = 2 * ck + x1 := by rw [IntKind.wrap_i64]; omega
        have e2 : IntKind.i64.wrap (2 * ck + x1 + y1) = E := by rw [IntKind.wrap_i64]; omega
        have HO1 := Lib.hid hown1
        have HR1 := Lib.hid hr2
        clear hgrow bw1 hown1 hr2 S1 SEP hs1 hr1 HEE0 hx1 hy1
        go_wp2_with (go_at_call 43; refine aa0.mono ?_)
        rintro e W3 ⟨rfl, b3⟩
        have aa1 := aa1.out _ b3
        clear aa0
        go_wp2_with (go_at_call 43; refine aa1.mono ?_)
        rintro e W4 ⟨rfl, b4⟩
        have b4 := b3.trans (b4.mono b3.size)
        have hr4 := row_underN (k := 0) HR1.out b4
        have hs4 := row_underN (k := 0) HO1.out b4
        have HBW4 := Lib.hid (HBW1.out.trans (b4.mono HBW1.out.size))
        obtain ⟨sv', cv', rfl⟩ := own_formN hs4
        have SEP2 := Lib.hid (own_typesN hs4 hr4 ty82)
        have HO4 := Lib.hid hs4
        obtain ⟨i00, hi, hz0, hz1, hz2⟩ := info_parts info8
        have zb : w.heap.size + 3 ≤ W4.heap.size := by have := HBW4.out.size; have := HZ.out; omega
        clear aa1 b3 b4 hs4 HO1 HR1 HBW1 HBWR hE
        by_cases h1 : 2 < E
        · have h2 : ¬ E < -2 := by omega
          have d1 := decide_eq_true h1
          have d2 := decide_eq_false h2
          have g1 : IntKind.i64.wrap (E - 4) = E - 4 := by rw [IntKind.wrap_i64]; omega
          have hD1 := Lib.hid (show dA a b c d j = 1 by unfold dA; rw [HEE.out]; unfold crD; first | (rw [if_pos h1]) | (rw [if_neg h1, if_pos h2]) | (rw [if_neg h1, if_neg h2]))
          have HNX := Lib.hid (show cA a b c d (j + 1) = E - 4 by rw [cA_succ, HEE.out, hD1.out]; omega)
          have KK := Lib.hid (show (dAL a b c d (j + 1)).map (Value.int .i8) = ZS ++ [.int .i8 (1)] by rw [dAL_succ, List.map_append, HZS.out, hD1.out]; rfl)
          go_wp2_with (at_builtin; refine wpList_append_own _ rfl _ _ 22 rfl (w.heap.size + 3) 53 i00 (.int .i8 0) 1 1 Try.underlying22 hi hz0 hz1 hz2 rfl (by decide) _ _ _ rfl (hr4.alloc _) ⟨W4.heap.size, 0, none⟩ 1 1 [.int .i8 (1)] rfl rfl ?d1 ?d2 ?d3 ?d4 ?d5 ?_)
          try (case d1 => exact newN _ _ _)
          case d2 => simp [Value.oneCell']
          case d3 => unfold maxLen; omega
          case d4 => omega
          case d5 => first | omega | (simp; omega)
          intro v2 w2 hown2 hgrow _
          have hgrow : (W4.alloc (.cells #[.int .i8 (1)] 53)).grownBy w2 (Value.slice dv j dc).ownBlock := hgrow
          have bw2 := (HBW4.out.alloc HBW4.out.size _).grown hgrow (by have := HBW4.out.size; simp; omega) fun m hm => by have := (hr4.lt m hm).1; have := HZ.out; omega
          have hs2 := (HO4.out.alloc _).kept hgrow SEP2.out
          have SM := Lib.hid (HS0.out.keep bw2)
          have BW2 := Lib.hid bw2
          have O2 := Lib.hid (show w2.ownsRow (w.heap.size + 3) 53 1 v2 (j + 1) ((dAL a b c d (j + 1)).map (Value.int .i8)) by rw [KK.out]; exact hown2)
          have H2 := Lib.hid hs2
          clear hgrow bw2 hown2 hs2 hr4 HO4 SEP2
          go_wp2
          go_roundw
          case rel => exact ⟨j + 1, DL.out _ DS.out, by first | (rw [HNX.out]; done) | (rw [HNX.out]; simp), by first | rfl | simp, H2.out, O2.out, SM.out, BW2.out, DS.out⟩
          case measure => simp [RowKit.intOf]; omega
        · by_cases h2 : E < -2
          · skip
            have d1 := decide_eq_false h1
            have d2 := decide_eq_true h2
            have g1 : IntKind.i64.wrap (E + 4) = E + 4 := by rw [IntKind.wrap_i64]; omega
            have g2 : E - -4 = E + 4 := by omega
            have hD1 := Lib.hid (show dA a b c d j = -1 by unfold dA; rw [HEE.out]; unfold crD; first | (rw [if_pos h1]) | (rw [if_neg h1, if_pos h2]) | (rw [if_neg h1, if_neg h2]))
            have HNX := Lib.hid (show cA a b c d (j + 1) = E + 4 by rw [cA_succ, HEE.out, hD1.out]; omega)
            have KK := Lib.hid (show (dAL a b c d (j + 1)).map (Value.int .i8) = ZS ++ [.int .i8 (-1)] by rw [dAL_succ, List.map_append, HZS.out, hD1.out]; rfl)
            go_wp2_with (at_builtin; refine wpList_append_own _ rfl _ _ 22 rfl (w.heap.size + 3) 53 i00 (.int .i8 0) 1 1 Try.underlying22 hi hz0 hz1 hz2 rfl (by decide) _ _ _ rfl (hr4.alloc _) ⟨W4.heap.size, 0, none⟩ 1 1 [.int .i8 (-1)] rfl rfl ?f1 ?f2 ?f3 ?f4 ?f5 ?_)
            try (case f1 => exact newN _ _ _)
            case f2 => simp [Value.oneCell']
            case f3 => unfold maxLen; omega
            case f4 => omega
            case f5 => first | omega | (simp; omega)
            intro v2 w2 hown2 hgrow _
            have hgrow : (W4.alloc (.cells #[.int .i8 (-1)] 53)).grownBy w2 (Value.slice dv j dc).ownBlock := hgrow
            have bw2 := (HBW4.out.alloc HBW4.out.size _).grown hgrow (by have := HBW4.out.size; simp; omega) fun m hm => by have := (hr4.lt m hm).1; have := HZ.out; omega
            have hs2 := (HO4.out.alloc _).kept hgrow SEP2.out
            have SM := Lib.hid (HS0.out.keep bw2)
            have BW2 := Lib.hid bw2
            have O2 := Lib.hid (show w2.ownsRow (w.heap.size + 3) 53 1 v2 (j + 1) ((dAL a b c d (j + 1)).map (Value.int .i8)) by rw [KK.out]; exact hown2)
            have H2 := Lib.hid hs2
            clear hgrow bw2 hown2 hs2 hr4 HO4 SEP2
            go_wp2
            go_roundw
            case rel => exact ⟨j + 1, DL.out _ DS.out, by first | (rw [HNX.out]; done) | (rw [HNX.out]; simp), by first | rfl | simp, H2.out, O2.out, SM.out, BW2.out, DS.out⟩
            case measure => simp [RowKit.intOf]; omega
          · skip
            have d1 := decide_eq_false h1
            have d2 := decide_eq_false h2
            have g1 : IntKind.i64.wrap E = E := by rw [IntKind.wrap_i64]; omega
            have hD1 := Lib.hid (show dA a b c d j = 0 by unfold dA; rw [HEE.out]; unfold crD; first | (rw [if_pos h1]) | (rw [if_neg h1, if_pos h2]) | (rw [if_neg h1, if_neg h2]))
            have HNX := Lib.hid (show cA a b c d (j + 1) = E by rw [cA_succ, HEE.out, hD1.out]; omega)
            have KK := Lib.hid (show (dAL a b c d (j + 1)).map (Value.int .i8) = ZS ++ [.int .i8 (0)] by rw [dAL_succ, List.map_append, HZS.out, hD1.out]; rfl)
            go_wp2_with (at_builtin; refine wpList_append_own _ rfl _ _ 22 rfl (w.heap.size + 3) 53 i00 (.int .i8 0) 1 1 Try.underlying22 hi hz0 hz1 hz2 rfl (by decide) _ _ _ rfl (hr4.alloc _) ⟨W4.heap.size, 0, none⟩ 1 1 [.int .i8 (0)] rfl rfl ?h1 ?h2 ?h3 ?h4 ?h5 ?_)
            try (case h1 => exact newN _ _ _)
            case h2 => simp [Value.oneCell']
            case h3 => unfold maxLen; omega
            case h4 => omega
            case h5 => first | omega | (simp; omega)
            intro v2 w2 hown2 hgrow _
            have hgrow : (W4.alloc (.cells #[.int .i8 (0)] 53)).grownBy w2 (Value.slice dv j dc).ownBlock := hgrow
            have bw2 := (HBW4.out.alloc HBW4.out.size _).grown hgrow (by have := HBW4.out.size; simp; omega) fun m hm => by have := (hr4.lt m hm).1; have := HZ.out; omega
            have hs2 := (HO4.out.alloc _).kept hgrow SEP2.out
            have SM := Lib.hid (HS0.out.keep bw2)
            have BW2 := Lib.hid bw2
            have O2 := Lib.hid (show w2.ownsRow (w.heap.size + 3) 53 1 v2 (j + 1) ((dAL a b c d (j + 1)).map (Value.int .i8)) by rw [KK.out]; exact hown2)
            have H2 := Lib.hid hs2
            clear hgrow bw2 hown2 hs2 hr4 HO4 SEP2
            go_wp2
            go_roundw
            case rel => exact ⟨j + 1, DL.out _ DS.out, by first | (rw [HNX.out]; done) | (rw [HNX.out]; simp), by first | rfl | simp, H2.out, O2.out, SM.out, BW2.out, DS.out⟩
            case measure => simp [RowKit.intOf]; omega
end Go.Proofs.Ytlkbnpgembgdfaa.Sx
