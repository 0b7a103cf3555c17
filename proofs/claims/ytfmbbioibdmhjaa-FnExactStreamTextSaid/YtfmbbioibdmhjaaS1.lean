/-
  The digits of a list, written as a text: by hand, with the library's functions by their contracts.
-/
import Derived.Test.YtfmbbioibdmhjaaB1
import Derived.Test.YtfmbbioibdmhjaaT0
import Derived.Test.YtfmbbioibdmhjaaL0
import Derived.WalkKit
import Derived.BigCall
namespace Go.Proofs.Ytfmbbioibdmhjaa.Sx
open Go Go.RowKit Go.Shelf
set_option linter.unusedVariables false
set_option linter.unusedSimpArgs false

theorem bWrite (B b : Nat) (bs : List Value) (c : Int) (w : World) (h : Lib.IsBuilder 46 5 B b bs w) (hlen : bs.length + 1 ≤ 140737488355328) (hBw : B ≤ w.heap.size) :
    Calls Try.prog 20 #[.pointer (some ⟨b, 0, none⟩), .int .u8 c] w fun e w' => e = .returned .nilIface ∧ (Lib.BuilderAt 46 5 B b (.pointer (some ⟨b, 0, none⟩)) (bs ++ [.int .u8 c]) w' ∧ Below B w w') :=
  Any.Builder_WriteByte lays167 extra167 B b bs c w h hlen hBw
theorem bString (B b : Nat) (l : List UInt8) (w : World) (h : Lib.IsBuilder 46 5 B b (Lib.byteCells l) w) (hBw : B ≤ w.heap.size) :
    Calls Try.prog 21 #[.pointer (some ⟨b, 0, none⟩)] w fun e w' => e = .returned (.string ⟨l.toArray⟩) ∧ Below B w w' :=
  Any.Builder_String_any lays169 extra169 B b l w h hBw
/-- A digit's byte. -/
def digB (x : Int) : Int := ([45, 48, 43] : List Int).getD (x + 1).toNat 0
def Digs (l : List Int) : Prop := ∀ x ∈ l, -1 ≤ x ∧ x ≤ 1
def shownF (l : List Int) : List Int := l.map digB

theorem digB_cases (x : Int) : digB x = 45 ∨ digB x = 48 ∨ digB x = 43 ∨ digB x = 0 := by
  unfold digB
  rcases (x + 1).toNat with _ | _ | _ | n
  · exact .inl rfl
  · exact .inr (.inl rfl)
  · exact .inr (.inr (.inl rfl))
  · exact .inr (.inr (.inr rfl))
theorem digB_u8 (x : Int) : ((u8 (digB x)).toNat : Int) = digB x := by
  rcases digB_cases x with h | h | h | h <;> rw [h] <;> rfl
theorem shown_app {l : List Int} {k : Nat} (h : k < l.length) : Lib.byteCells (((l.take k).map digB).map u8) ++ [Value.int .u8 (digB l[k])] = Lib.byteCells (((l.take (k + 1)).map digB).map u8) := by
  rw [List.take_succ_eq_append_getElem h]
  simp only [List.map_append, List.map_cons, List.map_nil]
  rw [Lib.byteCells_append]
  congr 1
  show [Value.int .u8 (digB l[k])] = [Value.int .u8 ((u8 (digB l[k])).toNat : Int)]
  rw [digB_u8]
set_option maxRecDepth 1000000 in
set_option maxHeartbeats 4000000 in
theorem digit_some (l : List Int) (b o cp : Nat) (w : World) (hd : Digs l) (hlen : l.length ≤ 1000000) (hcs : ∀ i x, l[i]? = some x → w.cell? ⟨b, o + i, none⟩ = some (.int .i8 x)) :
    Calls Try.prog 14 #[.slice (some ⟨b, o, none⟩) l.length cp] w fun e w' => e = .returned (byteV (shownF l)) ∧ Below w.heap.size w w' := by
  have hlB : ∀ W : World, (Builtin.len_ #[22] 3 #[.slice (some ⟨b, o, none⟩) l.length cp]).run Try.prog W = .ok (.int .i64 l.length) W := fun W => rfl
  go_enter Try.func14, Try.ntmps14
  go_wp2
  go_loopw [8] (fun i wr => ∃ k : Nat, i = .int .i64 k ∧ k ≤ l.length ∧ Lib.IsBuilder 46 5 w.heap.size w.heap.size (Lib.byteCells (((l.take k).map digB).map u8)) wr ∧ Below w.heap.size w wr) (fun i _ => l.length - (RowKit.intOf i).toNat)
  case atStart => exact ⟨0, rfl, Nat.zero_le _, Lib.fresh_isBuilder 46 5 w, (Below.refl _ w).alloc (Nat.le_refl _) _⟩
  case round =>
    obtain ⟨k, rfl, hk, hI, hB⟩ := hrel
    have hsz := hB.size
    by_cases hlt : k < l.length
    · have hc := hcs k _ (List.getElem?_eq_getElem hlt)
      have hdx := hd _ (List.getElem_mem hlt)
      have hcell : wr.cell? ⟨b, o + k, none⟩ = some (.int .i8 l[k]) := by
        rw [← hc]
        have hp : b < w.heap.size := by
          rcases Nat.lt_or_ge b w.heap.size with h | h
          · exact h
          · simp [World.cell?, Array.getElem?_eq_none h] at hc
        exact hB.cell (p := ⟨b, o + k, none⟩) hp
      have key := shown_app hlt
      have hbl : (Lib.byteCells (((l.take k).map digB).map u8)).length + 1 ≤ 140737488355328 := by
        rw [Lib.byteCells_length]; simp; omega
      generalize hx2 : l[k] = x at *
      have h3 : x = -1 ∨ x = 0 ∨ x = 1 := by omega
      clear hcs hd hdx hc hlB
      rcases h3 with rfl | rfl | rfl <;>
      · go_wp2_with (go_at_call 20; refine (bWrite _ _ _ _ _ hI hbl hsz).mono ?_)
        rintro e W1 ⟨rfl, h1, b1⟩
        go_wp2
        go_roundw
        case rel =>
          refine ⟨k + 1, by simp, by omega, ?_, hB.trans b1⟩
          rw [← key]
          exact Or.inr h1
        case measure =>
          simp only [RowKit.intOf]
          omega
    · obtain rfl : k = l.length := by omega
      rw [List.take_length] at hI
      go_wp2_with (go_at_call 21; refine (bString _ _ _ _ hI hsz).mono ?_)
      rintro e W1 ⟨rfl, b1⟩
      go_wp2
      go_ret
      refine ⟨?_, hB.trans b1⟩
      show Ending.returned (.string ⟨(List.map (u8 ∘ digB) l).toArray⟩) = Ending.returned (.string ⟨((l.map digB).map u8).toArray⟩)
      rw [List.map_map]
set_option maxRecDepth 1000000 in
set_option maxHeartbeats 4000000 in
theorem digit_none (w : World) :
    Calls Try.prog 14 #[.slice none 0 0] w fun e w' => e = .returned (byteV []) ∧ Below w.heap.size w w' := by
  have hlB : ∀ W : World, (Builtin.len_ #[22] 3 #[.slice none 0 0]).run Try.prog W = .ok (.int .i64 0) W := fun W => rfl
  go_enter Try.func14, Try.ntmps14
  go_wp2
  go_loopw [8] (fun i wr => i = .int .i64 0 ∧ Lib.IsBuilder 46 5 w.heap.size w.heap.size (Lib.byteCells []) wr ∧ Below w.heap.size w wr) (fun i _ => 0)
  case atStart => exact ⟨rfl, Lib.fresh_isBuilder 46 5 w, (Below.refl _ w).alloc (Nat.le_refl _) _⟩
  case round =>
    obtain ⟨rfl, hI, hB⟩ := hrel
    have hsz := hB.size
    go_wp2_with (go_at_call 21; refine (bString _ _ _ _ hI hsz).mono ?_)
    rintro e W1 ⟨rfl, b1⟩
    go_wp2
    go_ret
    exact ⟨rfl, hB.trans b1⟩
/-- The digits' text. -/
theorem cDigText (w : World) (l : List Int) (v : Value) (hd : Digs l) (hlen : l.length ≤ 1000000) (hs : SliceIs w [.i8] l v) :
    Calls Try.prog 14 #[v] w fun e w' => e = .returned (byteV (shownF l)) ∧ Below w.heap.size w w' := by
  obtain ⟨a, n, cp, rfl, hn, hK, h0, hcs, _⟩ := hs
  have hn : n = l.length := by simpa using hn
  subst hn
  cases a with
  | none =>
    obtain ⟨h1, h2⟩ := h0 rfl
    subst h2
    have : l = [] := List.length_eq_zero_iff.1 h1
    subst this
    exact digit_none w
  | some p =>
    refine digit_some l p.1 p.2 cp w hd hlen fun i x hx => ?_
    rw [hcs p rfl i x hx, show kindAt [.i8] i = .i8 by unfold kindAt; simp [Nat.mod_one]]
    rfl
end Go.Proofs.Ytfmbbioibdmhjaa.Sx
