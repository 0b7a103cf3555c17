/-
  What is known of arguments stays; the code of what has been given up.
-/
import Derived.WalkKit
import Derived.Defers
import Derived.Recover
import Derived.Tactics2
import Derived.RangeFuncFrom
import Derived.Lib.Hide
import Derived.Laws.Pointers
import Derived.Test.YtpghmmklbhobmaaSxZ
import Derived.Test.YtpghmmklbhobmaaK1
namespace Go.Proofs.Ytpghmmklbhobmaa.Sx
open Go Go.RowKit
set_option linter.unusedVariables false
set_option linter.unusedSimpArgs false

theorem code_calls (n : Int) (w : World) : Calls Try.prog 75 #[.int .i64 n] w fun e w' => e = .returned (.int .i64 n) ∧ w = w' := by
  go_enter Try.func75, Try.ntmps75
  go_wp2
  go_ret
  exact ⟨rfl, rfl⟩

theorem coded_ok (n : Int) (w : World) : (Instr.typeAssert (.iface 77 (.int .i64 n)) 20 74 true).run Try.prog w = .ok (.tuple #[.iface 77 (.int .i64 n), .bool true]) w := by kernel_rfl
theorem coded_method (n : Int) (w : World) : (method 204 77 (.int .i64 n) "loop.example/g01242/impl.code").run Try.prog w = .ok (75, .int .i64 n) w := by kernel_rfl
/-! ### What is known of arguments stays -/
theorem SliceIs.grown {w w' : World} {ks : List IntKind} {l : List Int} {v : Value} (hg : w.grownBy w' none) (h : SliceIs w ks l v) : SliceIs w' ks l v := by
  obtain ⟨a, n, c, h1, h2, h3, h4, h5, h6⟩ := h
  exact ⟨a, n, c, h1, h2, h3, h4, fun p hp i x hx => cell_kept (h5 p hp i x hx) hg (fun r e => by cases e), h6⟩
theorem SlicesAre.grown {w w' : World} {ls : List (List Int)} (hg : w.grownBy w' none) : ∀ {kss : List (List IntKind)} {m : Nat} {vs : List Value}, SlicesAre w ls m kss vs → SlicesAre w' ls m kss vs
  | [], _, _, h => h
  | _ :: _, _, _, h => by
    obtain ⟨v, rest, h1, h2, h3⟩ := h
    exact ⟨v, rest, h1, h2.grown hg, SlicesAre.grown hg h3⟩
theorem ArgsAre.grown {w w' : World} {xs : List Int} {ls : List (List Int)} (hg : w.grownBy w' none) (hs : w.heap.size ≤ w'.heap.size) : ∀ {ps : List PSh} {j m : Nat} {args : List Value}, ArgsAre w xs ls j m ps args → ArgsAre w' xs ls j m ps args
  | [], _, _, _, h => h
  | .val _ _ :: _, _, _, _, h => by
    obtain ⟨rest, h1, h2, h3⟩ := h
    exact ⟨rest, h1, h2, ArgsAre.grown hg hs h3⟩
  | .ptr _ :: _, _, _, _, h => by
    obtain ⟨b, o, rest, h1, h2, h3, h4⟩ := h
    exact ⟨b, o, rest, h1, by omega, fun i v hv => cell_kept (h3 i v hv) hg (fun r e => by cases e), ArgsAre.grown hg hs h4⟩
  | .slc _ :: _, _, _, _, h => by
    obtain ⟨b, o, rest, h1, h2, h3, h4⟩ := h
    exact ⟨b, o, rest, h1, by omega, fun i v hv => cell_kept (h3 i v hv) hg (fun r e => by cases e), ArgsAre.grown hg hs h4⟩
  | .fnc _ :: _, _, _, _, h => by
    obtain ⟨rest, h1, h2⟩ := h
    exact ⟨rest, h1, ArgsAre.grown hg hs h2⟩
  | .str :: _, _, _, _, h => by
    obtain ⟨rest, h1, h2, h3⟩ := h
    exact ⟨rest, h1, h2, ArgsAre.grown hg hs h3⟩
  | .lst _ :: _, _, _, _, h => by
    obtain ⟨v, rest, h1, h2, h3⟩ := h
    exact ⟨v, rest, h1, h2.grown hg, ArgsAre.grown hg hs h3⟩
  | .lsts _ :: _, _, _, _, h => by
    obtain ⟨vs, rest, h1, h2, h3⟩ := h
    exact ⟨vs, rest, h1, h2.grown hg, ArgsAre.grown hg hs h3⟩
  | .mix _ _ :: _, _, _, _, h => by
    obtain ⟨vs, rest, h1, h2, h3⟩ := h
    exact ⟨vs, rest, h1, h2.grown hg, ArgsAre.grown hg hs h3⟩
  | .plsts _ :: _, _, _, _, h => by
    obtain ⟨b, o, vs, rest, h1, h2, h3, h4, h5⟩ := h
    exact ⟨b, o, vs, rest, h1, by omega, fun i v hv => cell_kept (h3 i v hv) hg (fun r e => by cases e), h4.grown hg, ArgsAre.grown hg hs h5⟩

end Go.Proofs.Ytpghmmklbhobmaa.Sx
