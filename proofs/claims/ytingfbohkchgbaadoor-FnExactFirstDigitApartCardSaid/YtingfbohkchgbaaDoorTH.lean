/-
  The code that an error tells: errors.As, and codeIn.
-/
import Derived.Test.YtingfbohkchgbaaDoorTE
namespace Go.Proofs.YtingfbohkchgbaaDoor.Sx
open Go Go.RowKit Go.Extern.Stop Go.Stop Go.Extern
set_option linter.unusedVariables false
set_option linter.unusedSimpArgs false

set_option maxRecDepth 1000000 in
set_option maxHeartbeats 8000000 in
theorem asHit (n : Int) (t : Addr) (old : Value) (w : World) (hg : ErrG w) (ht0 : w.cell? t = some old) (hf0 : w.frozen? t = false) :
    Calls Tryd.prog 65 #[.iface 109 (.int .i64 n), .iface 116 (.pointer (some t))] w fun ev w' => ev = .returned (.bool true) ∧ w' = ((((w.alloc (.cells #[.pointer (some t)] 116)).alloc (.cells #[.pointer (some ⟨1, 116, none⟩), .pointer (some ⟨w.heap.size, 0, none⟩), .int .u64 150] 138)).alloc (.cells #[.pointer (some ⟨1, 116, none⟩), .pointer (some ⟨w.heap.size, 0, none⟩), .int .u64 150] 138)).alloc (.cells #[.int .i64 n] 109)).setCell t (.int .i64 n) := by
  have hg : w.cell? ⟨0, 0, none⟩ = some (.iface 157 (.agg #[.pointer (some ⟨1, 69, none⟩)])) := hg
  have h6 := @run_callFunc_extern Tryd.prog 79 _ (fun args => ReflectliteValue.unpack (args.getD 0 (.tuple #[]))) Tryd.func79 (by kernel_rfl) (by kernel_rfl) (by kernel_rfl) (by kernel_rfl)
  have h7 := @run_callFunc_extern Tryd.prog 80 _ (ReflectliteValue.methodAny (ReflectliteValue.valueError "reflectlite.Value.Type" 0) (fun t _ _ _ => ReflectliteType.toType t)) Tryd.func80 (by kernel_rfl) (by kernel_rfl) (by kernel_rfl) (by kernel_rfl)
  have h8 := @run_callFunc_extern Tryd.prog 81 _ (ReflectliteValue.method (ReflectliteValue.valueError "reflectlite.Value.IsNil" 0) ReflectliteValue.isNil) Tryd.func81 (by kernel_rfl) (by kernel_rfl) (by kernel_rfl) (by kernel_rfl)
  have h27 := @run_callFunc_extern Tryd.prog 115 _ (ReflectliteType.abiMethod fun t => do pure (.int .u8 (← Rtype.kind t))) Tryd.func115 (by kernel_rfl) (by kernel_rfl) (by kernel_rfl) (by kernel_rfl)
  have h37 := @run_callFunc_extern Tryd.prog 128 _ (ReflectliteType.method ReflectliteType.elem) Tryd.func128 (by kernel_rfl) (by kernel_rfl) (by kernel_rfl) (by kernel_rfl)
  have h38 := @run_callFunc_extern Tryd.prog 129 _ (ReflectliteType.relation "Implements" ReflectliteType.implements_) Tryd.func129 (by kernel_rfl) (by kernel_rfl) (by kernel_rfl) (by kernel_rfl)
  have h10 := @run_callFunc_extern Tryd.prog 89 _ ReflectliteType.typeOf Tryd.func89 (by kernel_rfl) (by kernel_rfl) (by kernel_rfl) (by kernel_rfl)
  have h35 := @run_callFunc_extern Tryd.prog 126 _ (ReflectliteType.relation "AssignableTo" ReflectliteType.assignableTo) Tryd.func126 (by kernel_rfl) (by kernel_rfl) (by kernel_rfl) (by kernel_rfl)
  have h11 := @run_callFunc_extern Tryd.prog 90 _ (ReflectliteValue.method (ReflectliteValue.valueError "reflectlite.Value.Elem" 0) ReflectliteValue.elem) Tryd.func90 (by kernel_rfl) (by kernel_rfl) (by kernel_rfl) (by kernel_rfl)
  have h12 := @run_callFunc_extern Tryd.prog 91 _ ReflectliteValue.set Tryd.func91 (by kernel_rfl) (by kernel_rfl) (by kernel_rfl) (by kernel_rfl)
  have tO := toE
  have mA := mAss
  have a25 := asE
  have v25 := vOfE n
  have f6 := vOfP
  have f7 := tyOfP
  have mK := mKind
  have mE := mElem
  have mI := mImpl
  have k27 := kP
  have k25 := kE
  have e27 := elP
  have i25 := imE
  have n8 := isNilP ⟨w.heap.size, 0, none⟩ t ((w.alloc (.cells #[.pointer (some t)] 116)).alloc (.cells #[.pointer (some ⟨1, 116, none⟩), .pointer (some ⟨w.heap.size, 0, none⟩), .int .u64 150] 138)) (by simp)
  have hlt : 0 < w.heap.size := by
    rcases Nat.eq_zero_or_pos w.heap.size with h0 | h
    · simp [World.cell?, h0] at hg
    · exact h
  have hg2 : ((w.alloc (.cells #[.pointer (some t)] 116)).alloc (.cells #[.pointer (some ⟨1, 116, none⟩), .pointer (some ⟨w.heap.size, 0, none⟩), .int .u64 150] 138)).cell? ⟨0, 0, none⟩ = some (.iface 157 (.agg #[.pointer (some ⟨1, 69, none⟩)])) := by
    rw [World.cell?_alloc_lt _ _ ⟨0, 0, none⟩ (by simp), World.cell?_alloc_lt _ _ ⟨0, 0, none⟩ hlt]; exact hg
  have htl : t.block < w.heap.size := cell_lt ht0
  have el := elemVP ⟨w.heap.size, 0, none⟩ t (((w.alloc (.cells #[.pointer (some t)] 116)).alloc (.cells #[.pointer (some ⟨1, 116, none⟩), .pointer (some ⟨w.heap.size, 0, none⟩), .int .u64 150] 138)).alloc (.cells #[.pointer (some ⟨1, 116, none⟩), .pointer (some ⟨w.heap.size, 0, none⟩), .int .u64 150] 138)) (by rw [World.cell?_alloc_lt _ _ ⟨w.heap.size, 0, none⟩ (by simp; omega)]; simp)
  have st := setE t ⟨w.heap.size + 1 + 1 + 1, 0, none⟩ n old ((((w.alloc (.cells #[.pointer (some t)] 116)).alloc (.cells #[.pointer (some ⟨1, 116, none⟩), .pointer (some ⟨w.heap.size, 0, none⟩), .int .u64 150] 138)).alloc (.cells #[.pointer (some ⟨1, 116, none⟩), .pointer (some ⟨w.heap.size, 0, none⟩), .int .u64 150] 138)).alloc (.cells #[.int .i64 n] 109))
    (by rw [World.cell?_alloc_at _ _ _ _ (by simp)]; rfl)
    (by rw [World.cell?_alloc_lt _ _ t (by simp; omega), World.cell?_alloc_lt _ _ t (by simp; omega), World.cell?_alloc_lt _ _ t (by simp; omega), World.cell?_alloc_lt _ _ t htl]; exact ht0)
    (by rw [World.frozen?_alloc_old _ _ t (by simp; omega), World.frozen?_alloc_old _ _ t (by simp; omega), World.frozen?_alloc_old _ _ t (by simp; omega), World.frozen?_alloc_old _ _ t (Nat.ne_of_lt htl)]; exact hf0)
  go_enter Tryd.func65, Tryd.ntmps65
  go_wp2
  refine wp_loop_rounds 1 ?_
  rw [rounds_succ]
  go_wp2
  go_ret
  exact ⟨rfl, rfl⟩
set_option maxRecDepth 1000000 in
set_option maxHeartbeats 8000000 in
theorem asNil (t : Value) (w : World) : Calls Tryd.prog 65 #[.nilIface, t] w fun e w' => e = .returned (.bool false) ∧ w' = w := by
  go_enter Tryd.func65, Tryd.ntmps65
  go_wp2
  go_ret
  exact ⟨rfl, rfl⟩
set_option maxRecDepth 1000000 in
set_option maxHeartbeats 8000000 in
/-- THE CODE OF AN ERROR. -/
theorem codeI (c : Int) (w : World) (hg : ErrG w) : Calls Tryd.prog 40 #[errV c] w fun e w' => e = .returned (.int .i64 c) ∧ Below w.heap.size w w' := by
  obtain ⟨W, hW, hB, x⟩ := boxN w #[.int .i64 0] 109
  have hz : W.heap.size = w.heap.size + 1 := by rw [← hW]; simp
  unfold errV
  by_cases h0 : c = 0
  · subst h0
    rw [if_pos rfl]
    have m := asNil (.iface 116 (.pointer (some ⟨w.heap.size, 0, none⟩))) W
    clear x hg
    go_enter Tryd.func40, Tryd.ntmps40
    go_wp2_with (go_at_call 65; refine m.mono ?_)
    first | (rintro e W2 rfl hs) | (rintro e W2 ⟨rfl, hs⟩)
    rw [hs]
    clear hs m
    try dsimp only
    go_wp2
    go_ret
    exact ⟨rfl, hB⟩
  · rw [if_neg h0]
    have hgw : ErrG W := (hB.cell (p := ⟨0, 0, none⟩) (cell_lt (show w.cell? ⟨0, 0, none⟩ = _ from hg))).trans hg
    have c0 : W.cell? ⟨w.heap.size, 0, none⟩ = some (.int .i64 0) := by rw [Lib.cell_of_heap x]; rfl
    have f0 : W.frozen? ⟨w.heap.size, 0, none⟩ = false := Lib.frozen_of_heap x _
    have m := asHit c ⟨w.heap.size, 0, none⟩ (.int .i64 0) W hgw c0 f0
    have M := Lib.hid m
    have HB := Lib.hid hB
    have HX := Lib.hid x
    have HZ := Lib.hid hz
    clear m x hg hgw hB hz
    go_enter Tryd.func40, Tryd.ntmps40
    go_wp2_with (go_at_call 65; refine M.out.mono ?_)
    first | (rintro e W2 rfl hs) | (rintro e W2 ⟨rfl, hs⟩)
    try dsimp only
    have hb2 : Below w.heap.size w W2 ∧ W2.cell? ⟨w.heap.size, 0, none⟩ = some (.int .i64 c) := by
      rw [hs]
      refine ⟨?_, ?_⟩
      · refine ((((HB.out.alloc (by have := HZ.out; first | omega | (simp; omega)) _).alloc (by have := HZ.out; first | omega | (simp; omega)) _).alloc (by have := HZ.out; first | omega | (simp; omega)) _).alloc (by have := HZ.out; first | omega | (simp; omega)) _).setCell (p := ⟨w.heap.size, 0, none⟩) (Nat.le_refl _) _
      · have hx : ((((W.alloc (.cells #[.pointer (some ⟨w.heap.size, 0, none⟩)] 116)).alloc (.cells #[.pointer (some ⟨1, 116, none⟩), .pointer (some ⟨W.heap.size, 0, none⟩), .int .u64 150] 138)).alloc (.cells #[.pointer (some ⟨1, 116, none⟩), .pointer (some ⟨W.heap.size, 0, none⟩), .int .u64 150] 138)).alloc (.cells #[.int .i64 c] 109)).heap[w.heap.size]? = some (.cells #[.int .i64 0] 109 (0, 0)) := by
          have hz := HZ.out
          rw [Below.heap_alloc _ _ _ (by simp; omega), Below.heap_alloc _ _ _ (by simp; omega), Below.heap_alloc _ _ _ (by simp; omega), Below.heap_alloc _ _ _ (by omega)]
          exact HX.out
        rw [Lib.cell_of_heap (heap_setCell_same _ _ _ _ _ _ hx)]
        rfl
    clear hs
    have c1 := hb2.2
    have H2 := Lib.hid hb2.1
    clear hb2 c0 f0 hW
    go_wp2
    go_ret
    exact ⟨rfl, H2.out⟩
end Go.Proofs.YtingfbohkchgbaaDoor.Sx
