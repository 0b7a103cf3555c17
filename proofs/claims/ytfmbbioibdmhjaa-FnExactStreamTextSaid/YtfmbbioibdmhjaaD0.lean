/-
  The functions that write streams as texts: their shapes.
-/
import Derived.Test.YtfmbbioibdmhjaaSxX
namespace Go.Proofs.Ytfmbbioibdmhjaa.Sx
open Go
def s5 : SSig := ⟨[.lsts [[.i8], [.i8]]], [.s], true⟩
def s7 : SSig := ⟨[.lsts [[.i8], [.i8]]], [.s], true⟩
end Go.Proofs.Ytfmbbioibdmhjaa.Sx
