/-
  Signatures of functions: how their arguments and results are taken apart into numbers. Written by a program of mine.
-/
import Derived.Test.YtaknnjlkpepgaaaSxR
import Derived.Test.YtaknnjlkpepgaaaW1s
namespace Go.Proofs.Ytaknnjlkpepgaaa.Sx
open Go Go.RowKit
def s62 : Sig := ⟨[.slc [.i .i64, .i .i64]], [(false, [.i .i64])], false⟩
def s91 : Sig := ⟨[.val false [.i .i64], .val false [.i .i64]], [(false, [.i .i64])], false⟩
def s71 : Sig := ⟨[.val false [.i .i64]], [(false, [.i .i64])], true⟩
def s59 : Sig := ⟨[.val false [.i .i64], .val false [.i .i64], .val false [.i .i64]], [(false, [.b])], true⟩
def s61 : Sig := ⟨[.val false [.i .i64], .val false [.i .i64]], [(false, [.b])], true⟩
def s21 : Sig := ⟨[.val false [.i .i64], .val false [.i .i64]], [(true, [.i .i64, .i .i64]), (false, [.i .i64])], true⟩
def s60 : Sig := ⟨[.val false [.i .i64], .val false [.i .i64]], [(true, [.i .i64, .i .i64]), (false, [.i .i64])], false⟩
def s58 : Sig := ⟨[.ptr [.i .i64, .i .i64]], [(false, [.b])], true⟩
def s20 : Sig := ⟨[.val false [.i .i64], .val false [.i .i64]], [(true, [.i .i64, .i .i64]), (false, [.i .i64])], true⟩
def s19 : Sig := ⟨[.val true [.i .i64, .i .i64]], [(false, [.b])], true⟩
def s17 : Sig := ⟨[.val true [.i .i64, .i .i64]], [(false, [.b])], true⟩
def s63 : Sig := ⟨[.ptr [.i .i64, .i .i64], .ptr [.i .i64, .i .i64]], [(false, [.n .i64 (-1) 1])], true⟩
def s64 : Sig := ⟨[.val true [.i .i64, .i .i64], .val true [.i .i64, .i .i64]], [(false, [.n .i64 (-1) 1])], true⟩
def s24 : Sig := ⟨[.val true [.i .i64, .i .i64], .val true [.i .i64, .i .i64]], [(false, [.i .i64]), (false, [.i .i64])], true⟩
def s23 : Sig := ⟨[.val true [.i .i64, .i .i64], .val true [.i .i64, .i .i64]], [(false, [.i .i64]), (false, [.i .i64])], true⟩
def s66 : Sig := ⟨[.val true [.i .i64, .i .i64, .i .i64, .i .i64], .val false [.i .i64]], [(false, [.b])], true⟩
def s67 : Sig := ⟨[.val true [.i .i64, .i .i64, .i .i64, .i .i64]], [(false, [.b])], true⟩
def s27 : Sig := ⟨[.val true [.i .i64, .i .i64, .i .i64, .i .i64]], [(false, [.b])], true⟩
def s72 : Sig := ⟨[.ptr [.i .i64, .i .i64, .i .i64, .i .i64], .val false [.i .i64]], [(false, [.b])], true⟩
def s65 : Sig := ⟨[.ptr [.i .i64, .i .i64, .i .i64, .i .i64]], [(false, [.b])], true⟩
def s25 : Sig := ⟨[.val true [.i .i64, .i .i64, .i .i64, .i .i64]], [(false, [.b])], true⟩
def s29 : Sig := ⟨[.val true [.i .i64, .i .i64, .i .i64, .i .i64], .val true [.i .i64, .i .i64]], [(true, [.i .i64, .i .i64]), (false, [.i .i64])], true⟩
def s28 : Sig := ⟨[.val true [.i .i64, .i .i64, .i .i64, .i .i64], .val true [.i .i64, .i .i64]], [(true, [.i .i64, .i .i64]), (false, [.i .i64])], true⟩
def s31 : Sig := ⟨[.val true [.i .i64, .i .i64, .i .i64, .i .i64]], [(true, [.i .i64, .i .i64]), (true, [.i .i64, .i .i64]), (false, [.i .i64])], true⟩
def s68 : Sig := ⟨[.ptr [.i .i64, .i .i64, .i .i64, .i .i64]], [(true, [.i .i64, .i .i64]), (true, [.i .i64, .i .i64])], false⟩
def s30 : Sig := ⟨[.val true [.i .i64, .i .i64, .i .i64, .i .i64]], [(true, [.i .i64, .i .i64]), (true, [.i .i64, .i .i64]), (false, [.i .i64])], true⟩
def s73 : Sig := ⟨[.val true [.i .i64, .i .i64, .i .i64, .i .i64], .val true [.i .i64, .i .i64, .i .i64, .i .i64]], [(true, [.i .i64, .i .i64, .i .i64, .i .i64])], true⟩
def s33 : Sig := ⟨[.val true [.i .i64, .i .i64, .i .i64, .i .i64], .val true [.i .i64, .i .i64, .i .i64, .i .i64]], [(true, [.i .i64, .i .i64, .i .i64, .i .i64]), (false, [.i .i64])], true⟩
def s69 : Sig := ⟨[.ptr [.i .i64, .i .i64, .i .i64, .i .i64]], [(false, [.i .i64])], false⟩
def s70 : Sig := ⟨[.val true [.i .i64, .i .i64, .i .i64, .i .i64]], [(true, [.i .i64, .i .i64, .i .i64, .i .i64])], false⟩
def s32 : Sig := ⟨[.val true [.i .i64, .i .i64, .i .i64, .i .i64], .val true [.i .i64, .i .i64, .i .i64, .i .i64]], [(true, [.i .i64, .i .i64, .i .i64, .i .i64]), (false, [.i .i64])], true⟩
def s18 : Sig := ⟨[.val true [.i .i64, .i .i64]], [(true, [.i .i64, .i .i64])], true⟩
def s22 : Sig := ⟨[.val true [.i .i64, .i .i64], .val true [.i .i64, .i .i64]], [(false, [.b])], true⟩
def s26 : Sig := ⟨[.val true [.i .i64, .i .i64, .i .i64, .i .i64]], [(true, [.i .i64, .i .i64, .i .i64, .i .i64])], true⟩
def s34 : Sig := ⟨[.val true [.i .i64, .i .i64, .i .i64, .i .i64], .val true [.i .i64, .i .i64, .i .i64, .i .i64]], [(false, [.b])], true⟩
def s3 : Sig := ⟨[.val true [.i .i64, .i .i64]], [(false, [.b])], true⟩
def s4 : Sig := ⟨[.val false [.i .i64], .val false [.i .i64]], [(false, [.b])], true⟩
def s5 : Sig := ⟨[.val true [.i .i64, .i .i64], .val true [.i .i64, .i .i64]], [(false, [.b])], true⟩
def s6 : Sig := ⟨[.val true [.i .i64, .i .i64, .i .i64, .i .i64]], [(false, [.b])], true⟩
def s7 : Sig := ⟨[.val true [.i .i64, .i .i64, .i .i64, .i .i64], .val true [.i .i64, .i .i64]], [(false, [.b])], true⟩
def s8 : Sig := ⟨[.val true [.i .i64, .i .i64, .i .i64, .i .i64]], [(false, [.b])], true⟩
def s9 : Sig := ⟨[.val true [.i .i64, .i .i64, .i .i64, .i .i64], .val true [.i .i64, .i .i64, .i .i64, .i .i64]], [(false, [.b])], true⟩
def s92 : Sig := ⟨[.val false [.i .i64], .val false [.i .i64]], [(false, [.n .i64 (-1) 1])], true⟩
def s98 : Sig := ⟨[.val false [.i .i64]], [(false, [.b])], true⟩
def sigsW2 : List (Nat × Sig) := [(62, s62), (91, s91), (71, s71), (59, s59), (61, s61), (21, s21), (60, s60), (58, s58), (20, s20), (19, s19), (17, s17), (63, s63), (64, s64), (24, s24), (23, s23), (66, s66), (67, s67), (27, s27), (72, s72), (65, s65), (25, s25), (29, s29), (28, s28), (31, s31), (68, s68), (30, s30), (73, s73), (33, s33), (69, s69), (70, s70), (32, s32), (18, s18), (22, s22), (26, s26), (34, s34), (3, s3), (4, s4), (5, s5), (6, s6), (7, s7), (8, s8), (9, s9), (92, s92), (98, s98)]

end Go.Proofs.Ytaknnjlkpepgaaa.Sx
