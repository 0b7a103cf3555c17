/-
  The law's functions on slices of numbers: copy, compare, count, mark, hold.
-/
import Derived.Test.YtjmpdilffmpkgaaH0
import Derived.Test.YtjmpdilffmpkgaaChecked
import Derived.ProofKit
namespace Go.Proofs.Ytjmpdilffmpkgaa.Sx
open Go Go.RowKit
set_option linter.unusedVariables false
set_option linter.unusedSimpArgs false

set_option maxRecDepth 1000000 in
set_option maxHeartbeats 4000000 in
theorem mark8_some (b o c : Nat) (cs : Array Value) (ty : TypeId) (len : Nat) (k : Int) (w : World) (hk : 0 ≤ k) (hk2 : k + len ≤ 4611686018427387904) (hb : w.heap[b]? = some (.cells cs ty (0, 0))) (hlen : o + len ≤ cs.size) :
    Calls Try.prog 44 #[.slice (some ⟨b, o, none⟩) len c, .int .i64 k] w fun e w' => e = .returned (.int .i64 (k + len)) ∧ Wr w w' b (putF (markF .i8 k) cs o len) ty := by
  have hlB : ∀ W : World, (Builtin.len_ #[37] 3 #[.slice (some ⟨b, o, none⟩) len c]).run Try.prog W = .ok (.int .i64 len) W := fun W => rfl
  go_enter Try.func44, Try.ntmps44
  go_wp2
  go_loopw [1, 5] (fun kk i wr => ∃ j : Nat, j ≤ len ∧ i = .int .i64 j ∧ kk = .int .i64 (k + j) ∧ Wr w wr b (putF (markF .i8 k) cs o j) ty) (fun _ i _ => len - (RowKit.intOf i).toNat)
  case atStart => exact ⟨0, Nat.zero_le _, rfl, by simp, Wr.refl hb⟩
  case round =>
    obtain ⟨j, hj, rfl, rfl, hW⟩ := hrel
    by_cases hlt : j < len
    · have hsz := putF_size (markF .i8 k) cs o j
      obtain ⟨old, hc⟩ : ∃ old, wr.cell? ⟨b, o + j, none⟩ = some old := ⟨_, by rw [Lib.cell_of_heap hW.here, Array.getElem?_eq_getElem (by omega)]⟩
      have hf : wr.frozen? ⟨b, o + j, none⟩ = false := Lib.frozen_of_heap hW.here _
      have HS := Lib.hid (hW.step (o + j) (markF .i8 k j))
      clear hb hlen hsz hW
      go_wp2
      go_roundw
      case rel => exact ⟨j + 1, by omega, by simp, by simp; omega, HS.out⟩
      case measure => simp [RowKit.intOf]; omega
    · obtain rfl : j = len := by omega
      go_wp2
      go_ret
      exact ⟨rfl, hW⟩
set_option maxRecDepth 1000000 in
set_option maxHeartbeats 4000000 in
theorem held8_some (b o c : Nat) (len : Nat) (k : Int) (w : World) (hk : 0 ≤ k) (hk2 : k + len ≤ 4611686018427387904) (hcs : ∀ j, j < len → w.cell? ⟨b, o + j, none⟩ = some (mkB .i8 (k + j))) :
    Calls Try.prog 45 #[.slice (some ⟨b, o, none⟩) len c, .int .i64 k] w fun e w' => e = .returned (.int .i64 (k + len)) ∧ Same w w' := by
  have hlB : ∀ W : World, (Builtin.len_ #[37] 3 #[.slice (some ⟨b, o, none⟩) len c]).run Try.prog W = .ok (.int .i64 len) W := fun W => rfl
  have H := Lib.hid hcs
  clear hcs
  go_enter Try.func45, Try.ntmps45
  go_wp2
  go_loop [1, 5] (fun kk i => ∃ j : Nat, j ≤ len ∧ i = .int .i64 j ∧ kk = .int .i64 (k + j)) (fun _ i => len - (RowKit.intOf i).toNat)
  case atStart => exact ⟨0, Nat.zero_le _, rfl, by simp⟩
  case round =>
    obtain ⟨j, hj, rfl, rfl⟩ := hrel
    by_cases hlt : j < len
    · have hc := H.out j hlt
      unfold mkB at hc
      go_wp2
      go_round
      case rel => exact ⟨j + 1, by omega, by simp, by simp; omega⟩
      case measure => simp [RowKit.intOf]; omega
    · obtain rfl : j = len := by omega
      go_wp2
      go_ret
      exact ⟨rfl, rfl⟩
set_option maxRecDepth 100000 in
theorem mark8_none (k : Int) (w : World) : Calls Try.prog 44 #[.slice none 0 0, .int .i64 k] w fun e w' => e = .returned (.int .i64 k) ∧ Same w w' := by
  have hlB : ∀ W : World, (Builtin.len_ #[37] 3 #[.slice none 0 0]).run Try.prog W = .ok (.int .i64 0) W := fun W => rfl
  go_enter Try.func44, Try.ntmps44
  go_wp2
  go_loop [1, 5] (fun kk i => i = .int .i64 0 ∧ kk = .int .i64 k) (fun _ i => 0)
  case atStart => exact ⟨rfl, rfl⟩
  case round =>
    obtain ⟨rfl, rfl⟩ := hrel
    go_wp2
    go_ret
    exact ⟨rfl, rfl⟩
set_option maxRecDepth 100000 in
theorem held8_none (k : Int) (w : World) : Calls Try.prog 45 #[.slice none 0 0, .int .i64 k] w fun e w' => e = .returned (.int .i64 k) ∧ Same w w' := by
  have hlB : ∀ W : World, (Builtin.len_ #[37] 3 #[.slice none 0 0]).run Try.prog W = .ok (.int .i64 0) W := fun W => rfl
  go_enter Try.func45, Try.ntmps45
  go_wp2
  go_loop [1, 5] (fun kk i => i = .int .i64 0 ∧ kk = .int .i64 k) (fun _ i => 0)
  case atStart => exact ⟨rfl, rfl⟩
  case round =>
    obtain ⟨rfl, rfl⟩ := hrel
    go_wp2
    go_ret
    exact ⟨rfl, rfl⟩
/-- MARKING A SLICE. -/
theorem mark8 {n : Nat} {w : World} {l : List Int} {v : Value} {k : Int} (h : OwnL .i8 n w l v) (hk : 0 ≤ k) (hk2 : k + l.length ≤ 4611686018427387904) :
    Calls Try.prog 44 #[v, .int .i64 k] w fun e w' => e = .returned (.int .i64 (k + l.length)) ∧ Marked .i8 n w w' v k l.length := by
  rcases h with ⟨rfl, rfl⟩ | ⟨b, o, c, cs, ty, rfl, h2, h3, h4, h5, h6⟩
  · refine (mark8_none k w).mono ?_
    rintro e w' ⟨rfl, hs⟩
    obtain rfl := hs.out
    exact ⟨by simp, Marked.nil _ _ _ _⟩
  · refine (mark8_some b o c cs ty l.length k w hk hk2 h3 h5).mono ?_
    rintro e w' ⟨rfl, hW⟩
    exact ⟨rfl, Marked.of h2 h3 h4 h5 hW⟩
theorem held8 {n : Nat} {w : World} {m : Nat} {v : Value} {k : Int} (h : OwnL .i8 n w (mks .i8 k m) v) (hk : 0 ≤ k) (hk2 : k + m ≤ 4611686018427387904) :
    Calls Try.prog 45 #[v, .int .i64 k] w fun e w' => e = .returned (.int .i64 (k + m)) ∧ Same w w' := by
  rcases h with ⟨rfl, h⟩ | ⟨b, o, c, cs, ty, rfl, h2, h3, h4, h5, h6⟩
  · have : m = 0 := by have := congrArg List.length h; simpa [mks_length] using this
    subst this
    refine (held8_none k w).mono ?_
    rintro e w' ⟨rfl, hs⟩
    exact ⟨by simp, hs⟩
  · rw [mks_length]
    refine held8_some b o c m k w hk hk2 fun j hj => ?_
    rw [Lib.cell_of_heap h3]
    exact h6 j _ (mks_at _ _ hj)

theorem info8 : (Try.prog.info? 58).map (fun i => (i.zero, i.size, i.bytes)) = some (some (.int .i8 0), 1, 1) := by kernel_rfl
set_option maxRecDepth 1000000 in
set_option maxHeartbeats 4000000 in
theorem eq8_some (b o c b' o' c' : Nat) (l : List Int) (w : World) (hlen : l.length ≤ 1099511627776) (hcs : ∀ i x, l[i]? = some x → w.cell? ⟨b, o + i, none⟩ = some (.int .i8 x)) (hcs' : ∀ i x, l[i]? = some x → w.cell? ⟨b', o' + i, none⟩ = some (.int .i8 x)) :
    Calls Try.prog 43 #[.slice (some ⟨b, o, none⟩) l.length c, .slice (some ⟨b', o', none⟩) l.length c'] w fun e w' => e = .returned (.bool true) ∧ Below w.heap.size w w' := by
  have hlB : ∀ W : World, (Builtin.len_ #[37] 3 #[.slice (some ⟨b, o, none⟩) l.length c]).run Try.prog W = .ok (.int .i64 l.length) W := fun W => rfl
  have hlB' : ∀ W : World, (Builtin.len_ #[37] 3 #[.slice (some ⟨b', o', none⟩) l.length c']).run Try.prog W = .ok (.int .i64 l.length) W := fun W => rfl
  obtain ⟨n, hn⟩ : ∃ n, l.length = n := ⟨_, rfl⟩
  rw [hn] at hlen hlB hlB' ⊢
  have HN := Lib.hid hn
  have HC := Lib.hid hcs
  have HC' := Lib.hid hcs'
  clear hn hcs hcs'
  go_enter Try.func43, Try.ntmps43
  go_wp2
  go_loopw [5] (fun i wr => ∃ j : Nat, j ≤ n ∧ i = .int .i64 j ∧ ∃ q, wr = w.drewN q) (fun i _ => n - (RowKit.intOf i).toNat)
  case atStart => exact ⟨0, Nat.zero_le _, rfl, 0, rfl⟩
  case round =>
    obtain ⟨j, hj, rfl, q, rfl⟩ := hrel
    by_cases hlt : j < n
    · have h2 : l[j]? = some (l.getD j 0) := by rw [List.getD_eq_getElem?_getD, List.getElem?_eq_getElem (by have := HN.out; omega)]; rfl
      have c1 := HC.out j _ h2
      have c2 := HC'.out j _ h2
      generalize l.getD j 0 = x at c1 c2
      clear h2
      go_wp2
      go_quiet (fail)
      go_wp2
      go_roundw
      case rel => exact ⟨j + 1, by omega, by simp, _, rfl⟩
      case measure => simp [RowKit.intOf]; omega
    · obtain rfl : j = n := by omega
      go_wp2
      go_ret
      exact ⟨rfl, ⟨rfl, rfl, rfl, Nat.le_refl _, fun _ _ => rfl⟩⟩
set_option maxRecDepth 1000000 in
set_option maxHeartbeats 4000000 in
theorem eq8_empty (a a' : Option Addr) (c c' : Nat) (w : World) :
    Calls Try.prog 43 #[.slice a 0 c, .slice a' 0 c'] w fun e w' => e = .returned (.bool true) ∧ Below w.heap.size w w' := by
  have hlB : ∀ W : World, (Builtin.len_ #[37] 3 #[.slice a 0 c]).run Try.prog W = .ok (.int .i64 0) W := fun W => rfl
  have hlB' : ∀ W : World, (Builtin.len_ #[37] 3 #[.slice a' 0 c']).run Try.prog W = .ok (.int .i64 0) W := fun W => rfl
  go_enter Try.func43, Try.ntmps43
  go_wp2
  go_loop [5] (fun i => i = .int .i64 0) (fun i => 0)
  case atStart => exact rfl
  case round =>
    obtain rfl := hrel
    go_wp2
    go_ret
    exact ⟨rfl, Below.refl _ _⟩
/-- COMPARING TWO SLICES THAT HOLD ONE LIST. -/
theorem eq8 {w : World} {l : List Int} {v u : Value} (h : IsL .i8 w l v) (h' : IsL .i8 w l u) (hlen : l.length ≤ 1099511627776) :
    Calls Try.prog 43 #[v, u] w fun e w' => e = .returned (.bool true) ∧ Below w.heap.size w w' := by
  by_cases hl : l = []
  · subst hl
    rcases h with ⟨rfl, _⟩ | ⟨b, o, c, rfl, _⟩ <;> rcases h' with ⟨rfl, _⟩ | ⟨b', o', c', rfl, _⟩ <;> exact eq8_empty _ _ _ _ w
  · rcases h with ⟨rfl, e⟩ | ⟨b, o, c, rfl, h2, h3⟩
    · exact absurd e hl
    · rcases h' with ⟨rfl, e⟩ | ⟨b', o', c', rfl, h2', h3'⟩
      · exact absurd e hl
      · exact eq8_some b o c b' o' c' l w hlen h3 h3'
end Go.Proofs.Ytjmpdilffmpkgaa.Sx
