/-
  The source of choices: bytes of a text, then a sequence of its own.
-/
import Derived.Test.YteemkophifcimaaK1
import Derived.WalkSpells
import Derived.Laws.Bits64b
namespace Go.Proofs.Yteemkophifcimaa.Sx
open Go Go.RowKit
set_option linter.unusedVariables false
set_option linter.unusedSimpArgs false

/-- All but block b is as it was. -/
structure Past (w w' : World) (b : Nat) : Prop where
  mk ::
  bel : ∀ n, n ≤ b → n ≤ w.heap.size → Below n w w'
  rest : ∀ k, k < w.heap.size → k ≠ b → w'.heap[k]? = w.heap[k]?
  siz : w.heap.size ≤ w'.heap.size
theorem Past.refl (w : World) (b : Nat) : Past w w b := ⟨fun n _ _ => Below.refl n w, fun _ _ _ => rfl, Nat.le_refl _⟩
theorem Past.trans {a b c : World} {k : Nat} (h : Past a b k) (g : Past b c k) : Past a c k :=
  ⟨fun n h1 h2 => (h.bel n h1 h2).trans (g.bel n h1 (Nat.le_trans h2 h.siz)), fun i h1 h2 => (g.rest i (Nat.lt_of_lt_of_le h1 h.siz) h2).trans (h.rest i h1 h2), Nat.le_trans h.siz g.siz⟩
theorem Past.of_below {w w' : World} {b : Nat} (h : Below w.heap.size w w') : Past w w' b := ⟨fun n _ h2 => h.mono h2, fun k h1 _ => h.block k h1, h.size⟩
theorem Past.drew (w : World) (b : Nat) : Past w w.drew b := ⟨fun n _ _ => ⟨rfl, rfl, rfl, Nat.le_refl _, fun _ _ => rfl⟩, fun _ _ _ => rfl, Nat.le_refl _⟩
theorem Past.drewN (w : World) (b q : Nat) : Past w (w.drewN q) b := ⟨fun n _ _ => ⟨rfl, rfl, rfl, Nat.le_refl _, fun _ _ => rfl⟩, fun _ _ _ => rfl, Nat.le_refl _⟩
theorem Past.at {w w' : World} {b k : Nat} {x : Option Obj} (h : Past w w' b) (hx : w.heap[k]? = x) (hk : k ≠ b) (hl : k < w.heap.size) : w'.heap[k]? = x := (h.rest k hl hk).trans hx
theorem Past.is {w w' : World} {b : Nat} {K : IntKind} {l : List Int} {v : Value} (h : Past w w' b) (hl : IsL K w l v) (ho : v.ownBlock ≠ some b) : IsL K w' l v := by
  rcases hl with hl | ⟨c, o, k, h1, h2, h3⟩
  · exact .inl hl
  · refine .inr ⟨c, o, k, h1, h2, fun i x hx => ?_⟩
    have h4 := h3 i x hx
    have h5 : c < w.heap.size := cell_lt h4
    have h6 : c ≠ b := fun e => ho (by rw [h1, ← e]; rfl)
    rw [← h4]
    unfold World.cell?
    rw [h.rest c h5 h6]
theorem Past.own {w w' : World} {b n : Nat} {K : IntKind} {l : List Int} {v : Value} (h : Past w w' b) (hl : OwnL K n w l v) (hb : b < n) : OwnL K n w' l v := by
  rcases hl with hl | ⟨c, o, k, cs, ty, h1, h2, h3, h4⟩
  · exact .inl hl
  · exact .inr ⟨c, o, k, cs, ty, h1, h2, h.at h3 (by omega) (heap_lt h3), h4⟩
theorem Past.row {w w' : World} {b k : Nat} {o : Obj} (h : Past w w' b) (hx : w.heap[k]? = some o) (hk : k ≠ b) : w'.heap[k]? = some o := h.at hx hk (heap_lt hx)

/-- A source in block b: the slice of its bytes, at most k draws so far. -/
structure Src (w : World) (b : Nat) (l : List Int) (v : Value) (k : Nat) : Prop where
  mk ::
  here : ∃ p : Nat, p ≤ k ∧ ∃ s : Int, w.heap[b]? = some (.cells #[v, .int .i64 p, .int .u64 s] 122 (0, 0))
  is : IsL .u8 w l v
  byt : ∀ (i : Nat) (x : Int), l[i]? = some x → 0 ≤ x ∧ x ≤ 255
  len : l.length ≤ 3000
  old : ∀ n, v.ownBlock = some n → n < b
theorem Src.ne {w : World} {b : Nat} {l : List Int} {v : Value} {k : Nat} (h : Src w b l v k) : v.ownBlock ≠ some b := fun e => by have := h.old _ e; omega
theorem Src.lt {w : World} {b : Nat} {l : List Int} {v : Value} {k : Nat} (h : Src w b l v k) : b < w.heap.size := by
  obtain ⟨_, _, _, h1⟩ := h.here
  exact heap_lt h1
theorem Src.keep {w w' : World} {b : Nat} {l : List Int} {v : Value} {k : Nat} (h : Src w b l v k) (hB : Below w.heap.size w w') : Src w' b l v k := by
  have hl := h.lt
  obtain ⟨p, h1, s, h2⟩ := h.here
  exact ⟨⟨p, h1, s, (hB.block b hl).trans h2⟩, h.is.keep hB, h.byt, h.len, h.old⟩
theorem Src.mono {w : World} {b : Nat} {l : List Int} {v : Value} {k m : Nat} (h : Src w b l v k) (hm : k ≤ m) : Src w b l v m := by
  obtain ⟨p, h1, s, h2⟩ := h.here
  exact ⟨⟨p, by omega, s, h2⟩, h.is, h.byt, h.len, h.old⟩
/-- The cells of a source. -/
def S3 (w : World) (b : Nat) (v x y : Value) : Prop := w.heap[b]? = some (.cells #[v, x, y] 122 (0, 0))
theorem S3.c {w : World} {b : Nat} {v x y : Value} (h : S3 w b v x y) : w.cell? ⟨b, 0, none⟩ = some v ∧ w.cell? ⟨b, 1, none⟩ = some x ∧ w.cell? ⟨b, 2, none⟩ = some y :=
  ⟨by rw [Lib.cell_of_heap (show w.heap[b]? = _ from h)]; rfl, by rw [Lib.cell_of_heap (show w.heap[b]? = _ from h)]; rfl, by rw [Lib.cell_of_heap (show w.heap[b]? = _ from h)]; rfl⟩
theorem S3.f {w : World} {b : Nat} {v x y : Value} (h : S3 w b v x y) (o : Nat) : w.frozen? ⟨b, o, none⟩ = false := Lib.frozen_of_heap (show w.heap[b]? = _ from h) _
theorem S3.both {w : World} {b : Nat} {v x y : Value} (h : S3 w b v x y) (x2 y2 : Value) (q : Nat) : ∃ V, ((w.drewN q).setCell ⟨b, 1, none⟩ x2).setCell ⟨b, 2, none⟩ y2 = V ∧ S3 V b v x2 y2 ∧ Past w V b := by
  have h1 : ((w.drewN q).setCell ⟨b, 1, none⟩ x2).heap[b]? = some (.cells #[v, x2, y] 122 (0, 0)) := by
    rw [heap_setCell_same _ _ _ _ _ _ (show (w.drewN q).heap[b]? = _ from h)]; rfl
  refine ⟨_, rfl, ?_, ?_, ?_, ?_⟩
  · show (World.heap _)[b]? = _
    rw [heap_setCell_same _ _ _ _ _ _ h1]; rfl
  · intro n h2 h3
    exact (((Past.drewN w b q).bel n h2 h3).setCell (p := ⟨b, 1, none⟩) h2 _).setCell (p := ⟨b, 2, none⟩) h2 _
  · intro k h2 h3
    rw [heap_setCell_other _ _ _ _ h3, heap_setCell_other _ _ _ _ h3]
    rfl
  · simp [World.setCell]
/-- What a draw leaves: a number below n, one draw more. -/
structure Drawn (w w' : World) (b : Nat) (l : List Int) (v : Value) (k : Nat) (n : Int) (e : Ending) : Prop where
  mk ::
  here : ∃ x : Int, e = .returned (.int .i64 x) ∧ 0 ≤ x ∧ x < n
  src : Src w' b l v k
  past : Past w w' b
theorem u64_byte (t : Int) (h0 : 0 ≤ t) (h1 : t < 18446744073709551616) : 0 ≤ wrap64 (bits BinOp.and IntKind.u64 (t / 1099511627776) 255) ∧ wrap64 (bits BinOp.and IntKind.u64 (t / 1099511627776) 255) < 256 := by
  obtain ⟨a, ha⟩ : ∃ a : Nat, t / 1099511627776 = a := ⟨(t / 1099511627776).toNat, by omega⟩
  rw [ha]
  have h2 := bits_and_u64_nat a 255 (by omega) (by omega)
  rw [show ((255 : Nat) : Int) = 255 from rfl] at h2
  rw [h2]
  have h3 : a &&& 255 ≤ 255 := Nat.and_le_right
  unfold wrap64
  omega
set_option maxRecDepth 1000000 in
set_option maxHeartbeats 4000000 in
theorem next_out {w : World} {b : Nat} {l : List Int} {v : Value} {k : Nat} {p : Nat} {s : Int} (h : Src w b l v k) (hk : k ≤ 1000000) (hp : p ≤ k) (hs : S3 w b v (.int .i64 p) (.int .u64 s)) (hl : l.length ≤ p) {nl : Nat} {pv : Option Addr} {cv : Nat} (hv : v = .slice pv nl cv) (hnl : nl = l.length) :
    Calls Try.prog 94 #[.pointer (some ⟨b, 0, none⟩)] w fun e w' => Drawn w w' b l v (k + 1) 256 e := by
  have V := Lib.hid (S3.both hs)
  obtain ⟨c0, c1, c2⟩ := hs.c
  have f1 := hs.f 1
  have f2 := hs.f 2
  have e1 : IntKind.i64.wrap ((p : Int) + 1) = (p : Int) + 1 := by rw [IntKind.wrap_i64]; omega
  have d0 : decide (p < nl) = false := decide_eq_false (by omega)
  have d1 : decide ((p : Int) + 1 ≤ (nl : Int)) = false := decide_eq_false (by omega)
  subst hv
  have H := Lib.hid h
  have HS := Lib.hid hs
  have HL := Lib.hid hl
  have HP := Lib.hid hp
  have HN := Lib.hid hnl
  clear h hs hl hk hp hnl
  go_enter Try.func94, Try.ntmps94
  go_wp2
  go_quiet (fail)
  go_wp2
  obtain ⟨t, ht, t0, t1⟩ : ∃ t, IntKind.u64.wrap (IntKind.u64.wrap (IntKind.u64.wrap (s * 6364136223846793005)) + 1442695040888963407) = t ∧ 0 ≤ t ∧ t < 18446744073709551616 := ⟨_, rfl, by rw [IntKind.wrap_u64]; omega, by rw [IntKind.wrap_u64]; omega⟩
  rw [ht]
  clear ht
  obtain ⟨V, hV, hs2, hp2⟩ := V.out (.int .i64 ((p : Int) + 1)) (.int .u64 t) nq
  rw [hV]
  clear hV c0 c1 c2 f1 f2
  obtain ⟨c0, c1, c2⟩ := hs2.c
  go_quiet (fail)
  go_wp2
  go_ret
  have hb := u64_byte t t0 t1
  have h := H.out
  exact ⟨⟨_, rfl, hb.1, hb.2⟩, ⟨⟨p + 1, by have := HP.out; omega, t, hs2⟩, hp2.is h.is h.ne, h.byt, h.len, h.old⟩, (Past.trans hp2 (Past.drewN _ _ _))⟩
set_option maxRecDepth 1000000 in
set_option maxHeartbeats 4000000 in
theorem next_in {w : World} {b : Nat} {l : List Int} {k : Nat} {p : Nat} {s : Int} {a : Nat} {o cv : Nat} {nl : Nat} (h : Src w b l (.slice (some ⟨a, o, none⟩) nl cv) k) (hk : k ≤ 1000000) (hp : p ≤ k) (hs : S3 w b (.slice (some ⟨a, o, none⟩) nl cv) (.int .i64 p) (.int .u64 s)) (hl : p < l.length) (hnl : nl = l.length) {x : Int} (hx : w.cell? ⟨a, o + p, none⟩ = some (.int .u8 x)) (hx0 : 0 ≤ x ∧ x ≤ 255) :
    Calls Try.prog 94 #[.pointer (some ⟨b, 0, none⟩)] w fun e w' => Drawn w w' b l (.slice (some ⟨a, o, none⟩) nl cv) (k + 1) 256 e := by
  have V := Lib.hid (S3.both hs)
  obtain ⟨c0, c1, c2⟩ := hs.c
  have f1 := hs.f 1
  have f2 := hs.f 2
  have e1 : IntKind.i64.wrap ((p : Int) + 1) = (p : Int) + 1 := by rw [IntKind.wrap_i64]; omega
  have e2 : IntKind.i64.wrap x = x := by rw [IntKind.wrap_i64]; omega
  have d0 : decide (p < nl) = true := decide_eq_true (by omega)
  have d1 : decide ((p : Int) + 1 ≤ (nl : Int)) = true := decide_eq_true (by omega)
  have n0 : ¬ (p : Int) < 0 := by omega
  have n1 : p < nl := by omega
  have H := Lib.hid h
  have HS := Lib.hid hs
  have HL := Lib.hid hl
  have HP := Lib.hid hp
  have HN := Lib.hid hnl
  have HX := Lib.hid hx0
  clear h hs hl hk hp hnl hx0
  go_enter Try.func94, Try.ntmps94
  go_wp2
  go_quiet (fail)
  go_wp2
  go_quiet (fail)
  rename_i q1
  go_wp2
  obtain ⟨t, ht⟩ : ∃ t, IntKind.u64.wrap (IntKind.u64.wrap (IntKind.u64.wrap (s * 6364136223846793005) + IntKind.u64.wrap x) + 1442695040888963407) = t := ⟨_, rfl⟩
  rw [ht]
  clear ht
  obtain ⟨V, hV, hs2, hp2⟩ := V.out (.int .i64 ((p : Int) + 1)) (.int .u64 t) (q1 + nq)
  rw [hV]
  clear hV c0 c1 c2 f1 f2
  obtain ⟨c0, c1, c2⟩ := hs2.c
  go_quiet (fail)
  go_wp2
  go_ret
  have h := H.out
  have hb := HX.out
  exact ⟨⟨_, rfl, hb.1, by omega⟩, ⟨⟨p + 1, by have := HP.out; omega, t, hs2⟩, hp2.is h.is h.ne, h.byt, h.len, h.old⟩, (Past.trans hp2 (Past.drewN _ _ _))⟩
/-- DRAWING A BYTE. -/
theorem nextS {w : World} {b : Nat} {l : List Int} {v : Value} {k : Nat} (h : Src w b l v k) (hk : k ≤ 1000000) :
    Calls Try.prog 94 #[.pointer (some ⟨b, 0, none⟩)] w fun e w' => Drawn w w' b l v (k + 1) 256 e := by
  obtain ⟨p, hp, s, hs⟩ := h.here
  rcases h.is with ⟨rfl, rfl⟩ | ⟨a, o, c, rfl, h2, h3⟩
  · exact next_out h hk hp hs (Nat.zero_le _) rfl rfl
  · rcases Nat.lt_or_ge p l.length with hl | hl
    · have hx : l[p]? = some l[p] := List.getElem?_eq_getElem hl
      exact next_in h hk hp hs hl rfl (h3 _ _ hx) (h.byt _ _ hx)
    · exact next_out h hk hp hs hl rfl rfl
set_option maxRecDepth 1000000 in
set_option maxHeartbeats 4000000 in
/-- PICKING A NUMBER. -/
theorem pickS {w : World} {b : Nat} {l : List Int} {v : Value} {k : Nat} (h : Src w b l v k) (hk : k ≤ 1000000) {n : Int} (hn : 2 ≤ n) (hn2 : n ≤ 200) :
    Calls Try.prog 86 #[.pointer (some ⟨b, 0, none⟩), .int .i64 n] w fun e w' => Drawn w w' b l v (k + 1) n e := by
  have m := nextS h hk
  have d0 : decide (n ≤ 1) = false := decide_eq_false (by omega)
  have d1 : decide (n > 200) = false := decide_eq_false (by omega)
  have d2 : decide (200 < n) = false := decide_eq_false (by omega)
  have n0 : ¬ n = 0 := by omega
  have n1 : (n == 0) = false := by rw [beq_eq_false_iff_ne]; exact n0
  have HM := Lib.hid m
  have HN := Lib.hid hn
  have HN2 := Lib.hid hn2
  clear m h hk hn hn2
  go_enter Try.func86, Try.ntmps86
  go_wp2_with (go_at_call 94; refine HM.out.mono ?_)
  rintro e W1 ⟨⟨x, rfl, x0, x1⟩, sr, pa⟩
  have r0 : 0 ≤ x.tmod n ∧ x.tmod n < n := ⟨Int.tmod_nonneg n x0, Int.tmod_lt_of_pos x (by have := HN.out; omega)⟩
  have r1 : IntKind.i64.wrap (x.tmod n) = x.tmod n := by have := HN2.out; rw [IntKind.wrap_i64]; omega
  have R := Lib.hid r0
  clear r0
  go_wp2
  go_ret
  exact ⟨⟨_, rfl, Int.emod_nonneg x n0, Int.emod_lt_of_pos x (by have := HN.out; omega)⟩, sr, pa⟩
/-- What a draw of yes or no leaves. -/
structure Drawb (w w' : World) (b : Nat) (l : List Int) (v : Value) (k : Nat) (e : Ending) : Prop where
  mk ::
  here : ∃ t : Bool, e = .returned (.bool t)
  src : Src w' b l v k
  past : Past w w' b
set_option maxRecDepth 1000000 in
set_option maxHeartbeats 4000000 in
/-- YES ONCE IN n TIMES. -/
theorem yesS {w : World} {b : Nat} {l : List Int} {v : Value} {k : Nat} (h : Src w b l v k) (hk : k ≤ 1000000) {n : Int} (hn : 2 ≤ n) (hn2 : n ≤ 200) :
    Calls Try.prog 87 #[.pointer (some ⟨b, 0, none⟩), .int .i64 n] w fun e w' => Drawb w w' b l v (k + 1) e := by
  have m := pickS h hk hn hn2
  have HM := Lib.hid m
  clear m h hk hn hn2
  go_enter Try.func87, Try.ntmps87
  go_wp2_with (go_at_call 86; refine HM.out.mono ?_)
  rintro e W1 ⟨⟨x, rfl, x0, x1⟩, sr, pa⟩
  go_wp2
  go_ret
  exact ⟨⟨_, rfl⟩, sr, pa⟩
/-- A source that begins. -/
structure Begun (w w' : World) (l : List Int) (v : Value) (e : Ending) : Prop where
  mk ::
  here : e = .returned (.pointer (some ⟨w.heap.size, 0, none⟩))
  src : Src w' w.heap.size l v 0
  below : Below w.heap.size w w'
  siz : w'.heap.size = w.heap.size + 1
set_option maxRecDepth 1000000 in
set_option maxHeartbeats 4000000 in
/-- A SOURCE OVER BYTES. -/
theorem fromS {w : World} {l : List Int} {v : Value} (h : IsL .u8 w l v) (hb : ∀ (i : Nat) (x : Int), l[i]? = some x → 0 ≤ x ∧ x ≤ 255) (hl : l.length ≤ 3000) (ho : ∀ n, v.ownBlock = some n → n < w.heap.size) :
    Calls Try.prog 60 #[v] w fun e w' => Begun w w' l v e := by
  obtain ⟨pv, nv, cv, rfl⟩ : ∃ p n c, v = .slice p n c := by
    rcases h with ⟨rfl, _⟩ | ⟨b, o, c, rfl, _⟩
    · exact ⟨_, _, _, rfl⟩
    · exact ⟨_, _, _, rfl⟩
  obtain ⟨W, hW, hB, hs, hz⟩ : ∃ W, w.alloc (.cells #[.slice pv nv cv, .int .i64 0, .int .u64 0] 122) = W ∧ Below w.heap.size w W ∧ S3 W w.heap.size (.slice pv nv cv) (.int .i64 0) (.int .u64 0) ∧ W.heap.size = w.heap.size + 1 :=
    ⟨_, rfl, (Below.refl _ _).alloc (Nat.le_refl _) _, by show (w.heap.push _)[w.heap.size]? = _; simp, by simp⟩
  have H := Lib.hid (show Src W w.heap.size l (.slice pv nv cv) 0 from ⟨⟨0, Nat.le_refl _, 0, hs⟩, h.keep hB, hb, hl, ho⟩)
  have HZ := Lib.hid hz
  have HB := Lib.hid hB
  clear h hb hl ho hs hz hB
  go_enter Try.func60, Try.ntmps60
  go_wp2
  go_ret
  exact ⟨rfl, H.out, HB.out, HZ.out⟩
end Go.Proofs.Yteemkophifcimaa.Sx
