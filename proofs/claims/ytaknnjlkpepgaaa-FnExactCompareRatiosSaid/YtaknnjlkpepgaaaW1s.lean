/-
  Signatures of functions: how their arguments and results are taken apart into numbers. Written by a program of mine.
-/
import Derived.Test.YtaknnjlkpepgaaaSxR
namespace Go.Proofs.Ytaknnjlkpepgaaa.Sx
open Go Go.RowKit
def s62x : Sig := ⟨[.slc [.i .i64, .i .i64, .i .i64, .i .i64]], [(false, [.i .i64])], false⟩
def s74 : Sig := ⟨[.val true [.i .i64, .i .i64, .i .i64, .i .i64]], [(true, [.i .i64, .i .i64, .i .i64, .i .i64])], false⟩
def sigsW1 : List (Nat × Sig) := [(62, s62x), (74, s74)]

end Go.Proofs.Ytaknnjlkpepgaaa.Sx
