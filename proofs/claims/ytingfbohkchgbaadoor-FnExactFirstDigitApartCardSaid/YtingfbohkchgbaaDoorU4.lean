/-
  The tree of a stream: what it is, marks of trees, one node.
-/
import Derived.Test.YtingfbohkchgbaaDoorU3
import Derived.Test.YtingfbohkchgbaaDoorU0
import Derived.Deep.RegionHeld3
namespace Go.Proofs.YtingfbohkchgbaaDoor.Sx
open Go Go.RowKit
set_option linter.unusedVariables false
set_option linter.unusedSimpArgs false

def nx (a b : List Int) (i : Nat) : Nat := if i + 1 < a.length + b.length then i + 1 else a.length
def fkL (a b : List Int) (i : Nat) : List Value := [.int .i8 2, .int .i8 (dgp a b i), .int .i16 (nx a b i), .int .i16 0, .int .i16 0]
def rwL (a b : List Int) (k : Nat) : List Value := (List.range k).flatMap (fkL a b)
theorem rwL_succ (a b : List Int) (k : Nat) : rwL a b (k + 1) = rwL a b k ++ fkL a b k := by
  unfold rwL
  rw [List.range_succ, List.flatMap_append]
  simp
theorem rwL_len (a b : List Int) (k : Nat) : (rwL a b k).length = k * 5 := by
  induction k with
  | zero => rfl
  | succ k ih => rw [rwL_succ, List.length_append, ih]; simp [fkL]; omega
theorem rwL_at (a b : List Int) {k i r : Nat} (hi : i < k) (hr : r < 5) : (rwL a b k)[i * 5 + r]? = (fkL a b i)[r]? := by
  induction k with
  | zero => omega
  | succ k ih =>
    rw [rwL_succ]
    by_cases h : i < k
    · rw [List.getElem?_append_left (by rw [rwL_len]; omega), ih h]
    · obtain rfl : i = k := by omega
      rw [List.getElem?_append_right (by rw [rwL_len]; omega), rwL_len, show i * 5 + r - i * 5 = r by omega]
theorem rwL_forky (a b : List Int) (n : Nat) : Forky (rwL a b n) n := fun i hi => ⟨2, dgp a b i, nx a b i, 0, 0, rwL_at a b (r := 0) hi (by omega), rwL_at a b (r := 1) hi (by omega), rwL_at a b (r := 2) hi (by omega), rwL_at a b (r := 3) hi (by omega), rwL_at a b (r := 4) hi (by omega)⟩
/-- A tree and a code are returned. -/
structure GaveT (w w' : World) (xs : List Value) (n : Nat) (c : Int) (e : Ending) : Prop where
  mk ::
  here : ∃ s k, e = .returned (.tuple #[.agg #[.slice s n k], .int .i64 c]) ∧ w'.ownsRow w.heap.size 96 5 (.slice s n k) n xs
  below : Below w.heap.size w w'
def DoesTr (g : Nat) (a b : List Int) (xs : List Value) (n : Nat) (c : Int) : Prop := ∀ (w : World) (v0 v1 : Value), IsL .i8 w a v0 → IsL .i8 w b v1 → Calls Tryd.prog g #[.agg #[v0, v1]] w fun e w' => GaveT w w' xs n c e
theorem step_ownN {P : Program} {ops : Array Oper} {o : Oper} {a : Act} {w : World} {K : Act → World → Prop} {Q : Exit → Act → World → Prop} {E : Prop} (hgd : o.guard = none) (s x : Operand) (t : TypeId)
    (ho : o.op = .call { callee := .builtin .append, args := #[s, x], argTypes := #[t, t] })
    (base : Nat) (e : TypeId) (i : TypeInfo) (z : Value) (size bytes : Nat) (ht : P.underlying t = some (.slice e)) (hi : P.info? e = some i) (hz : i.zero = some z)
    (hsize : i.size = size) (hby : i.bytes = bytes) (hzs : z.cells.size = size) (hsz : 0 < size)
    (v : Value) (n : Nat) (xs : List Value) (hs : a.eval s = v) (hown : w.ownsRow base e size v n xs)
    (ad : Addr) (m c : Nat) (news : List Value) (hx : a.eval x = .slice (some ad) m c) (hl : news.length = m * size) (hnews : ∀ j u, news[j]? = some u → w.cell? (ad.add j) = some u) (h1 : ∀ u ∈ news, u.oneCell' = true)
    (h63 : n + m ≤ maxLen) (hbytes : (n + m) * bytes ≤ 140737488355328) (hbase : base ≤ w.heap.size)
    (h : ∀ v' w', w'.ownsRow base e size v' (n + m) (xs ++ news) → w.grownBy w' v.ownBlock → K (a.put o.dst v') w') :
    if Region.wanted o (yielded ops a.tmps) = true then Oper.wp P o a w K Q else E := by
  have hw : Region.wanted o (yielded ops a.tmps) = true := by simp [Region.wanted, hgd]
  rw [if_pos hw]
  exact wp_append_own w s x t ho base e i z size bytes ht hi hz hsize hby hzs hsz v n xs hs hown ad m c news hx hl hnews h1 h63 hbytes hbase fun v' w' h2 h3 _ => h v' w' h2 h3
theorem newN (w : World) (cs : Array Value) (t : TypeId) : ∀ (j : Nat) (u : Value), cs.toList[j]? = some u → (w.alloc (.cells cs t)).cell? ((⟨w.heap.size, 0, none⟩ : Addr).add j) = some u := by
  intro j u h
  have e : ((⟨w.heap.size, 0, none⟩ : Addr).add j) = ⟨w.heap.size, j, none⟩ := by unfold Addr.add; split <;> simp_all
  rw [e, Lib.cell_of_heap (heap_alloc_new w _)]
  simpa using h
theorem stored5 {w : World} {b : Nat} {x0 x1 x2 x3 x4 : Value} {t : TypeId} (h : w.heap[b]? = some (.cells #[x0, x1, x2, x3, x4] t (0, 0))) (u0 u1 u2 u3 u4 : Value) :
    ∃ W, (((((w.setCell ⟨b, 0, none⟩ u0).setCell ⟨b, 1, none⟩ u1).setCell ⟨b, 2, none⟩ u2).setCell ⟨b, 3, none⟩ u3).setCell ⟨b, 4, none⟩ u4) = W ∧ W.heap[b]? = some (.cells #[u0, u1, u2, u3, u4] t (0, 0)) ∧ ∀ n, n ≤ b → Below n w W :=
  ⟨_, rfl, by
    rw [heap_setCell_same _ _ _ _ _ _ (heap_setCell_same _ _ _ _ _ _ (heap_setCell_same _ _ _ _ _ _ (heap_setCell_same _ _ _ _ _ _ (heap_setCell_same _ _ _ _ _ _ h))))]; rfl, fun n hn => ((((((Below.refl _ _).setCell (p := ⟨b, 0, none⟩) hn _).setCell (p := ⟨b, 1, none⟩) hn _).setCell (p := ⟨b, 2, none⟩) hn _).setCell (p := ⟨b, 3, none⟩) hn _).setCell (p := ⟨b, 4, none⟩) hn _)⟩
set_option maxRecDepth 1000000 in
set_option maxHeartbeats 4000000 in
theorem markTr {w : World} {B n : Nat} {v : Value} {xs : List Value} {k : Int} (h : w.ownsRow B 96 5 v n xs) (hk : 0 ≤ k) (hk2 : k ≤ 4611686018427387904) (hn : n ≤ 1048576) :
    Calls Tryd.prog 16 #[.agg #[v], .int .i64 k] w fun e w' => e = .returned (.int .i64 (k + ((n * 5 : Nat) : Int))) ∧ w'.ownsRow B 96 5 v n (mL k n) ∧ w.heap.size ≤ w'.heap.size ∧ w'.os = w.os ∧ w'.tape = w.tape ∧ w'.output = w.output ∧ ∀ q, q < w.heap.size → some q ≠ v.ownBlock → w'.heap[q]? = w.heap[q]? := by
  obtain ⟨W, hW, hB, x⟩ := boxN w #[v] 34
  have m := markFkS (row_underN (k := 0) h hB) hk hk2 hn
  obtain ⟨s0, k0, rfl⟩ := own_formN h
  have a0 : W.cell? ⟨w.heap.size, 0, none⟩ = some (.slice s0 n k0) := by rw [Lib.cell_of_heap x]; rfl
  clear x
  go_enter Tryd.func16, Tryd.ntmps16
  go_wp2_with (go_at_call 42; refine m.mono ?_)
  first | (rintro e W1 rfl ⟨o1, g1⟩) | (rintro e W1 ⟨rfl, o1, g1⟩)
  go_wp2
  go_ret
  exact ⟨rfl, o1, Nat.le_trans hB.size g1.size, g1.os.trans hB.os, g1.tape.trans hB.tape, g1.output.trans hB.output, fun q hq hne => (g1.block q (Nat.lt_of_lt_of_le hq hB.size) hne).trans (hB.block q hq)⟩
end Go.Proofs.YtingfbohkchgbaaDoor.Sx
