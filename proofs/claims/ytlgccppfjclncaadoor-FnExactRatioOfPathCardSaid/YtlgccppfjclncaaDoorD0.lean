/-
  The library's function that cuts off bytes: its shape.
-/
import Derived.Test.YtlgccppfjclncaaDoorSxX
namespace Go.Proofs.YtlgccppfjclncaaDoor.Sx
open Go
def s7 : SSig := { params := [.str, .str], res := [.s], total := false }
end Go.Proofs.YtlgccppfjclncaaDoor.Sx
