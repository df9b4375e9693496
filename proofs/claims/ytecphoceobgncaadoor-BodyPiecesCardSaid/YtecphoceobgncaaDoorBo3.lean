/- The texts that the proofs of these statements reach, in their order, as few files. -/
import Derived.Test.YtecphoceobgncaaDoorProg
import Derived.Lib.Builder
import Derived.Lib.UnsafeStr
import Derived.Shelf.RegionOpenPlain
import Derived.Laws.Externs
import Derived.Lib.Split
import Derived.Lib.IndexMore
import Derived.Lib.SplitLaws
import Derived.BigRegion
import Derived.Deep.RegionLaw
import Derived.Deep.RegionHeldLaw
import Derived.Deep.DrawnRows
import Derived.Lib.Join
import Derived.ProofKit
import Derived.OpenShut
import Derived.ShutString
import Derived.Carry
import Derived.WideKeyArgs
import Derived.SizedLaws
import Derived.Test.YtecphoceobgncaaDoorBo2
set_option linter.unusedVariables false
set_option linter.unusedSimpArgs false
namespace Go.Proofs.YtecphoceobgncaaDoor.Sx
open Go.RowKit
set_option maxRecDepth 100000
def c_law19_BodyEncodes : SCode :=
 .seq (.reg [⟨some 6, .mv (.c (.b false)), none⟩])
 (.seq (.seq (.reg [⟨some 12, .call 16 [], none⟩,
 ⟨some 13, .not (.t 12), none⟩])
 (.cond (.t 13)
 (.seq (.reg [⟨some 6, .mv (.c (.b false)), none⟩])
 (.ret))
 (.skip)))
 (.seq (.seq (.reg [⟨some 14, .mv (.t 0), none⟩,
 ⟨some 15, .lens (.t 14), none⟩,
 ⟨some 16, .bin .gtr (.t 15) (.c (.i .i64 500)), none⟩,
 ⟨some 17, .mv (.t 16), none⟩,
 ⟨some 18, .mv (.t 1), some (17, false)⟩,
 ⟨some 19, .lens (.t 18), some (17, false)⟩,
 ⟨some 20, .bin .gtr (.t 19) (.c (.i .i64 100)), some (17, false)⟩,
 ⟨some 21, .pick (.t 17) (.c (.b true)) (.t 20), none⟩])
 (.cond (.t 21)
 (.seq (.reg [⟨some 6, .mv (.c (.b true)), none⟩])
 (.ret))
 (.skip)))
 (.seq (.reg [⟨some 22, .mv (.t 0), none⟩,
 ⟨some 23, .mv (.t 2), none⟩,
 ⟨some 24, .call 17 [.t 22, .t 23], none⟩,
 ⟨some 7, .mv (.t 24), none⟩])
 (.seq (.reg [⟨some 26, .mv (.t 7), none⟩,
 ⟨some 27, .mv (.t 1), none⟩,
 ⟨some 28, .bin .add (.t 26) (.t 27), none⟩,
 ⟨some 29, .mv (.t 0), none⟩,
 ⟨some 30, .lens (.t 29), none⟩,
 ⟨some 31, .call 18 [.t 28, .t 30], none⟩,
 ⟨some 25, .mv (.t 31), none⟩,
 ⟨some 32, .ext (.t 25) 0, none⟩,
 ⟨some 33, .ext (.t 25) 1, none⟩,
 ⟨some 8, .mv (.t 32), none⟩,
 ⟨some 9, .mv (.t 33), none⟩])
 (.seq (.reg [⟨some 35, .mv (.t 7), none⟩,
 ⟨some 36, .mv (.t 0), none⟩,
 ⟨some 37, .lens (.t 36), none⟩,
 ⟨some 38, .bin .sub (.t 37) (.c (.i .i64 1)), none⟩,
 ⟨some 39, .call 18 [.t 35, .t 38], none⟩,
 ⟨some 34, .mv (.t 39), none⟩,
 ⟨some 40, .ext (.t 34) 0, none⟩,
 ⟨some 41, .ext (.t 34) 1, none⟩,
 ⟨some 10, .mv (.t 40), none⟩,
 ⟨some 11, .mv (.t 41), none⟩])
 (.seq (.reg [⟨some 42, .mv (.t 7), none⟩,
 ⟨some 43, .mv (.t 0), none⟩,
 ⟨some 44, .mv (.t 2), none⟩,
 ⟨some 45, .call 19 [.t 43, .t 44], none⟩,
 ⟨some 46, .bin .eql (.t 42) (.t 45), none⟩,
 ⟨some 47, .mv (.t 46), none⟩,
 ⟨some 48, .mv (.t 9), some (47, true)⟩,
 ⟨some 49, .bin .eql (.t 48) (.c (.i .i64 0)), some (47, true)⟩,
 ⟨some 50, .pick (.t 47) (.t 49) (.c (.b false)), none⟩,
 ⟨some 51, .mv (.t 50), none⟩,
 ⟨some 52, .mv (.t 8), some (51, true)⟩,
 ⟨some 53, .mv (.t 0), some (51, true)⟩,
 ⟨some 54, .bin .eql (.t 52) (.t 53), some (51, true)⟩,
 ⟨some 55, .pick (.t 51) (.t 54) (.c (.b false)), none⟩,
 ⟨some 56, .mv (.t 55), none⟩,
 ⟨some 57, .mv (.t 11), some (56, true)⟩,
 ⟨some 58, .bin .eql (.t 57) (.c (.i .i64 142)), some (56, true)⟩,
 ⟨some 59, .pick (.t 56) (.t 58) (.c (.b false)), none⟩,
 ⟨some 6, .mv (.t 59), none⟩])
 (.ret)))))))
theorem is_law19_BodyEncodes : FnIs Tryd.prog 5 60 [.tmp 6] c_law19_BodyEncodes := ⟨⟨_, _, Tryd.func5, rfl, rfl, by kernel_rfl, by kernel_rfl⟩⟩
def c_law19_BodyCuts : SCode :=
 .seq (.reg [⟨some 6, .mv (.c (.b false)), none⟩])
 (.seq (.seq (.reg [⟨some 16, .call 16 [], none⟩,
 ⟨some 17, .not (.t 16), none⟩])
 (.cond (.t 17)
 (.seq (.reg [⟨some 6, .mv (.c (.b false)), none⟩])
 (.ret))
 (.skip)))
 (.seq (.seq (.reg [⟨some 18, .mv (.t 0), none⟩,
 ⟨some 19, .lens (.t 18), none⟩,
 ⟨some 20, .bin .gtr (.t 19) (.c (.i .i64 300)), none⟩,
 ⟨some 21, .mv (.t 20), none⟩,
 ⟨some 22, .mv (.t 0), some (21, false)⟩,
 ⟨some 23, .lens (.t 22), some (21, false)⟩,
 ⟨some 24, .bin .eql (.t 23) (.c (.i .i64 0)), some (21, false)⟩,
 ⟨some 25, .pick (.t 21) (.c (.b true)) (.t 24), none⟩])
 (.cond (.t 25)
 (.seq (.reg [⟨some 6, .mv (.c (.b true)), none⟩])
 (.ret))
 (.skip)))
 (.seq (.reg [⟨some 26, .mv (.t 0), none⟩,
 ⟨some 27, .mv (.t 1), none⟩,
 ⟨some 28, .cvi .i64 (.t 27), none⟩,
 ⟨some 29, .call 17 [.t 26, .t 28], none⟩,
 ⟨some 7, .mv (.t 29), none⟩])
 (.seq (.reg [⟨some 30, .mv (.t 2), none⟩,
 ⟨some 31, .cvi .i64 (.t 30), none⟩,
 ⟨some 32, .mv (.t 7), none⟩,
 ⟨some 33, .lens (.t 32), none⟩,
 ⟨some 34, .bin .rem (.t 31) (.t 33), none⟩,
 ⟨some 8, .mv (.t 34), none⟩])
 (.seq (.reg [⟨some 36, .build [.s [], .s []] [(0, (1, .c (.s [116, 114, 97, 110, 115, 102, 101, 114, 45, 101, 110, 99, 111, 100, 105, 110, 103]))), (1, (1, .c (.s [99, 104, 117, 110, 107, 101, 100])))], none⟩,
 ⟨some 37, .bslice 1 [.s [], .s []] [(0, (2, .t 36))], none⟩,
 ⟨some 38, .build [.i .i64 0, .i .i64 0, .nil] [(1, (1, .c (.i .i64 200))), (2, (1, .t 37))], none⟩,
 ⟨some 39, .mv (.t 7), none⟩,
 ⟨some 40, .mv (.t 8), none⟩,
 ⟨some 41, .slcs (.t 39) none (some (.t 40)), none⟩,
 ⟨some 42, .call 20 [.t 38, .t 41, .c (.i .i64 1000)], none⟩,
 ⟨some 35, .mv (.t 42), none⟩,
 ⟨some 43, .ext (.t 35) 0, none⟩,
 ⟨some 44, .ext (.t 35) 1, none⟩,
 ⟨some 9, .mv (.t 43), none⟩,
 ⟨some 10, .mv (.t 44), none⟩])
 (.seq (.reg [⟨some 45, .mv (.t 2), none⟩,
 ⟨some 46, .cvi .i64 (.t 45), none⟩,
 ⟨some 47, .mv (.t 0), none⟩,
 ⟨some 48, .lens (.t 47), none⟩,
 ⟨some 49, .bin .rem (.t 46) (.t 48), none⟩,
 ⟨some 11, .mv (.t 49), none⟩])
 (.seq (.drw [⟨some 51, .mv (.t 0), none⟩,
 ⟨some 52, .lens (.t 51), none⟩,
 ⟨some 53, .call 21 [.t 52], none⟩,
 ⟨some 54, .build [.s [], .s []] [(0, (1, .c (.s [99, 111, 110, 116, 101, 110, 116, 45, 108, 101, 110, 103, 116, 104]))), (1, (1, .t 53))], none⟩,
 ⟨some 55, .bslice 1 [.s [], .s []] [(0, (2, .t 54))], none⟩,
 ⟨some 56, .build [.i .i64 0, .i .i64 0, .nil] [(1, (1, .c (.i .i64 200))), (2, (1, .t 55))], none⟩,
 ⟨some 57, .mv (.t 0), none⟩,
 ⟨some 58, .mv (.t 11), none⟩,
 ⟨some 59, .slcs (.t 57) none (some (.t 58)), none⟩,
 ⟨some 60, .call 20 [.t 56, .t 59, .c (.i .i64 1000)], none⟩,
 ⟨some 50, .mv (.t 60), none⟩,
 ⟨some 61, .ext (.t 50) 0, none⟩,
 ⟨some 62, .ext (.t 50) 1, none⟩,
 ⟨some 12, .mv (.t 61), none⟩,
 ⟨some 13, .mv (.t 62), none⟩] 15 [])
 (.seq (.reg [⟨some 64, .mv (.t 11), none⟩,
 ⟨some 65, .call 21 [.t 64], none⟩,
 ⟨some 66, .build [.s [], .s []] [(0, (1, .c (.s [99, 111, 110, 116, 101, 110, 116, 45, 108, 101, 110, 103, 116, 104]))), (1, (1, .t 65))], none⟩,
 ⟨some 67, .bslice 1 [.s [], .s []] [(0, (2, .t 66))], none⟩,
 ⟨some 68, .build [.i .i64 0, .i .i64 0, .nil] [(1, (1, .c (.i .i64 200))), (2, (1, .t 67))], none⟩,
 ⟨some 69, .mv (.t 0), none⟩,
 ⟨some 70, .call 20 [.t 68, .t 69, .c (.i .i64 1000)], none⟩,
 ⟨some 63, .mv (.t 70), none⟩,
 ⟨some 71, .ext (.t 63) 0, none⟩,
 ⟨some 72, .ext (.t 63) 1, none⟩,
 ⟨some 14, .mv (.t 71), none⟩,
 ⟨some 15, .mv (.t 72), none⟩])
 (.seq (.reg [⟨some 73, .mv (.t 10), none⟩,
 ⟨some 74, .bin .eql (.t 73) (.c (.i .i64 191)), none⟩,
 ⟨some 75, .mv (.t 74), none⟩,
 ⟨some 76, .mv (.t 9), some (75, true)⟩,
 ⟨some 77, .bin .eql (.t 76) (.c (.s [])), some (75, true)⟩,
 ⟨some 78, .pick (.t 75) (.t 77) (.c (.b false)), none⟩,
 ⟨some 79, .mv (.t 78), none⟩,
 ⟨some 80, .mv (.t 13), some (79, true)⟩,
 ⟨some 81, .bin .eql (.t 80) (.c (.i .i64 191)), some (79, true)⟩,
 ⟨some 82, .pick (.t 79) (.t 81) (.c (.b false)), none⟩,
 ⟨some 83, .mv (.t 82), none⟩,
 ⟨some 84, .mv (.t 12), some (83, true)⟩,
 ⟨some 85, .bin .eql (.t 84) (.c (.s [])), some (83, true)⟩,
 ⟨some 86, .pick (.t 83) (.t 85) (.c (.b false)), none⟩,
 ⟨some 87, .mv (.t 86), none⟩,
 ⟨some 88, .mv (.t 15), some (87, true)⟩,
 ⟨some 89, .bin .eql (.t 88) (.c (.i .i64 0)), some (87, true)⟩,
 ⟨some 90, .pick (.t 87) (.t 89) (.c (.b false)), none⟩,
 ⟨some 91, .mv (.t 90), none⟩,
 ⟨some 92, .mv (.t 14), some (91, true)⟩,
 ⟨some 93, .mv (.t 0), some (91, true)⟩,
 ⟨some 94, .mv (.t 11), some (91, true)⟩,
 ⟨some 95, .slcs (.t 93) none (some (.t 94)), some (91, true)⟩,
 ⟨some 96, .bin .eql (.t 92) (.t 95), some (91, true)⟩,
 ⟨some 97, .pick (.t 91) (.t 96) (.c (.b false)), none⟩,
 ⟨some 6, .mv (.t 97), none⟩])
 (.ret))))))))))
theorem is_law19_BodyCuts : FnIs Tryd.prog 6 98 [.tmp 6] c_law19_BodyCuts := ⟨⟨_, _, Tryd.func6, rfl, rfl, by kernel_rfl, by kernel_rfl⟩⟩
def c_law19_BodyPieces : SCode :=
 .seq (.reg [⟨some 6, .mv (.c (.b false)), none⟩])
 (.seq (.seq (.reg [⟨some 15, .call 16 [], none⟩,
 ⟨some 16, .not (.t 15), none⟩])
 (.cond (.t 16)
 (.seq (.reg [⟨some 6, .mv (.c (.b false)), none⟩])
 (.ret))
 (.skip)))
 (.seq (.seq (.reg [⟨some 17, .mv (.t 0), none⟩,
 ⟨some 18, .call 22 [.t 17, .c (.i .i64 12), .c (.i .i64 60)], none⟩,
 ⟨some 19, .not (.t 18), none⟩])
 (.cond (.t 19)
 (.seq (.reg [⟨some 6, .mv (.c (.b true)), none⟩])
 (.ret))
 (.skip)))
 (.seq (.reg [⟨some 7, .mv (.c (.s [])), none⟩,
 ⟨some 8, .mv (.c (.s [])), none⟩])
 (.seq (.seq (.reg [⟨some 20, .mv (.t 0), none⟩,
 ⟨some 21, .lenr (.t 20), none⟩,
 ⟨some 22, .mv (.c (.i .i64 0)), none⟩])
 (.blk 0
 (.loop
 (.seq (.reg [⟨some 23, .bin .lss (.t 22) (.t 21), none⟩])
 (.seq (.cond (.t 23)
 (.skip)
 (.exit 0))
 (.seq (.blk 1
 (.seq (.reg [⟨some 24, .iad 1 (.t 20) (.t 22), none⟩,
 ⟨some 25, .load1 (.t 24), none⟩,
 ⟨some 10, .mv (.t 25), none⟩])
 (.seq (.seq (.reg [⟨some 26, .mv (.t 10), none⟩,
 ⟨some 27, .bin .eql (.t 26) (.c (.s [])), none⟩])
 (.cond (.t 27)
 (.exit 1)
 (.skip)))
 (.seq (.reg [⟨some 28, .mv (.t 7), none⟩,
 ⟨some 29, .mv (.t 10), none⟩,
 ⟨some 30, .lens (.t 29), none⟩,
 ⟨some 31, .call 23 [.t 30], none⟩,
 ⟨some 32, .bin .add (.t 28) (.t 31), none⟩,
 ⟨some 7, .mv (.t 32), none⟩])
 (.seq (.seq (.reg [⟨some 33, .mv (.t 1), none⟩])
 (.cond (.t 33)
 (.reg [⟨some 34, .mv (.t 7), none⟩,
 ⟨some 35, .bin .add (.t 34) (.c (.s [59, 97, 61, 34, 98, 34])), none⟩,
 ⟨some 7, .mv (.t 35), none⟩])
 (.skip)))
 (.reg [⟨some 36, .mv (.t 7), none⟩,
 ⟨some 37, .bin .add (.t 36) (.c (.s [13, 10])), none⟩,
 ⟨some 38, .mv (.t 10), none⟩,
 ⟨some 39, .bin .add (.t 37) (.t 38), none⟩,
 ⟨some 40, .bin .add (.t 39) (.c (.s [13, 10])), none⟩,
 ⟨some 41, .mv (.t 8), none⟩,
 ⟨some 42, .mv (.t 10), none⟩,
 ⟨some 43, .bin .add (.t 41) (.t 42), none⟩,
 ⟨some 7, .mv (.t 40), none⟩,
 ⟨some 8, .mv (.t 43), none⟩]))))))
 (.reg [⟨some 44, .bin .add (.t 22) (.c (.i .i64 1)), none⟩,
 ⟨some 22, .mv (.t 44), none⟩])))))))
 (.seq (.reg [⟨some 45, .mv (.t 7), none⟩,
 ⟨some 46, .bin .add (.t 45) (.c (.s [48, 48, 48, 13, 10])), none⟩,
 ⟨some 7, .mv (.t 46), none⟩])
 (.seq (.seq (.reg [⟨some 47, .mv (.t 2), none⟩])
 (.cond (.t 47)
 (.reg [⟨some 48, .mv (.t 7), none⟩,
 ⟨some 49, .bin .add (.t 48) (.c (.s [88, 58, 32, 121, 13, 10, 122, 13, 10])), none⟩,
 ⟨some 7, .mv (.t 49), none⟩])
 (.skip)))
 (.seq (.reg [⟨some 51, .mv (.t 7), none⟩,
 ⟨some 52, .bin .add (.t 51) (.c (.s [13, 10, 109, 111, 114, 101])), none⟩,
 ⟨some 53, .call 18 [.t 52, .c (.i .i64 1000)], none⟩,
 ⟨some 50, .mv (.t 53), none⟩,
 ⟨some 54, .ext (.t 50) 0, none⟩,
 ⟨some 55, .ext (.t 50) 1, none⟩,
 ⟨some 11, .mv (.t 54), none⟩,
 ⟨some 12, .mv (.t 55), none⟩])
 (.seq (.reg [⟨some 57, .mv (.t 8), none⟩,
 ⟨some 58, .call 17 [.t 57, .c (.i .i64 7)], none⟩,
 ⟨some 59, .call 18 [.t 58, .c (.i .i64 1000)], none⟩,
 ⟨some 56, .mv (.t 59), none⟩,
 ⟨some 60, .ext (.t 56) 0, none⟩,
 ⟨some 61, .ext (.t 56) 1, none⟩,
 ⟨some 13, .mv (.t 60), none⟩,
 ⟨some 14, .mv (.t 61), none⟩])
 (.seq (.reg [⟨some 62, .mv (.t 12), none⟩,
 ⟨some 63, .bin .eql (.t 62) (.c (.i .i64 0)), none⟩,
 ⟨some 64, .mv (.t 63), none⟩,
 ⟨some 65, .mv (.t 14), some (64, true)⟩,
 ⟨some 66, .bin .eql (.t 65) (.c (.i .i64 0)), some (64, true)⟩,
 ⟨some 67, .pick (.t 64) (.t 66) (.c (.b false)), none⟩,
 ⟨some 68, .mv (.t 67), none⟩,
 ⟨some 69, .mv (.t 11), some (68, true)⟩,
 ⟨some 70, .mv (.t 8), some (68, true)⟩,
 ⟨some 71, .bin .eql (.t 69) (.t 70), some (68, true)⟩,
 ⟨some 72, .pick (.t 68) (.t 71) (.c (.b false)), none⟩,
 ⟨some 73, .mv (.t 72), none⟩,
 ⟨some 74, .mv (.t 13), some (73, true)⟩,
 ⟨some 75, .mv (.t 8), some (73, true)⟩,
 ⟨some 76, .bin .eql (.t 74) (.t 75), some (73, true)⟩,
 ⟨some 77, .pick (.t 73) (.t 76) (.c (.b false)), none⟩,
 ⟨some 6, .mv (.t 77), none⟩])
 (.ret))))))))))
theorem is_law19_BodyPieces : FnIs Tryd.prog 7 78 [.tmp 6] c_law19_BodyPieces := ⟨⟨_, _, Tryd.func7, rfl, rfl, by kernel_rfl, by kernel_rfl⟩⟩
def c_law19_sane : SCode :=
 .seq (.reg [⟨some 0, .mv (.c (.b false)), none⟩])
 (.seq (.reg [⟨some 8, .call 18 [.c (.s [51, 13, 10, 97, 98, 99, 13, 10, 48, 13, 10, 13, 10]), .c (.i .i64 9)], none⟩,
 ⟨some 7, .mv (.t 8), none⟩,
 ⟨some 9, .ext (.t 7) 0, none⟩,
 ⟨some 10, .ext (.t 7) 1, none⟩,
 ⟨some 1, .mv (.t 9), none⟩,
 ⟨some 2, .mv (.t 10), none⟩])
 (.seq (.reg [⟨some 12, .call 18 [.c (.s [51, 13, 10, 97, 98]), .c (.i .i64 9)], none⟩,
 ⟨some 11, .mv (.t 12), none⟩,
 ⟨some 13, .ext (.t 11) 0, none⟩,
 ⟨some 14, .ext (.t 11) 1, none⟩,
 ⟨some 3, .mv (.t 13), none⟩,
 ⟨some 4, .mv (.t 14), none⟩])
 (.seq (.reg [⟨some 16, .call 18 [.c (.s [103, 13, 10]), .c (.i .i64 9)], none⟩,
 ⟨some 15, .mv (.t 16), none⟩,
 ⟨some 17, .ext (.t 15) 0, none⟩,
 ⟨some 18, .ext (.t 15) 1, none⟩,
 ⟨some 5, .mv (.t 17), none⟩,
 ⟨some 6, .mv (.t 18), none⟩])
 (.seq (.reg [⟨some 19, .mv (.t 2), none⟩,
 ⟨some 20, .bin .eql (.t 19) (.c (.i .i64 0)), none⟩,
 ⟨some 21, .mv (.t 20), none⟩,
 ⟨some 22, .mv (.t 1), some (21, true)⟩,
 ⟨some 23, .bin .eql (.t 22) (.c (.s [97, 98, 99])), some (21, true)⟩,
 ⟨some 24, .pick (.t 21) (.t 23) (.c (.b false)), none⟩,
 ⟨some 25, .mv (.t 24), none⟩,
 ⟨some 26, .mv (.t 4), some (25, true)⟩,
 ⟨some 27, .bin .eql (.t 26) (.c (.i .i64 191)), some (25, true)⟩,
 ⟨some 28, .pick (.t 25) (.t 27) (.c (.b false)), none⟩,
 ⟨some 29, .mv (.t 28), none⟩,
 ⟨some 30, .mv (.t 6), some (29, true)⟩,
 ⟨some 31, .bin .eql (.t 30) (.c (.i .i64 190)), some (29, true)⟩,
 ⟨some 32, .pick (.t 29) (.t 31) (.c (.b false)), none⟩,
 ⟨some 33, .mv (.t 32), none⟩,
 ⟨some 34, .call 17 [.c (.s [97, 98, 99]), .c (.i .i64 2)], some (33, true)⟩,
 ⟨some 35, .bin .eql (.t 34) (.c (.s [50, 13, 10, 97, 98, 13, 10, 49, 13, 10, 99, 13, 10, 48, 13, 10, 13, 10])), some (33, true)⟩,
 ⟨some 36, .pick (.t 33) (.t 35) (.c (.b false)), none⟩,
 ⟨some 0, .mv (.t 36), none⟩])
 (.ret)))))
theorem is_law19_sane : FnIs Tryd.prog 16 37 [.tmp 0] c_law19_sane := ⟨⟨_, _, Tryd.func16, rfl, rfl, by kernel_rfl, by kernel_rfl⟩⟩
def c_body_Encode : SCode :=
 .seq (.reg [⟨some 4, .mv (.c (.s [])), none⟩])
 (.seq (.reg [⟨some 5, .alloc 79 [.o (.pointer none), .nil], none⟩])
 (.seq (.seq (.reg [⟨some 8, .mv (.t 0), none⟩,
 ⟨some 6, .mv (.t 8), none⟩])
 (.blk 0
 (.loop
 (.seq (.seq (.reg [⟨some 9, .mv (.t 6), none⟩,
 ⟨some 10, .bin .neq (.t 9) (.c (.s [])), none⟩])
 (.cond (.t 10)
 (.skip)
 (.exit 0)))
 (.blk 1
 (.seq (.reg [⟨some 11, .mv (.t 1), none⟩,
 ⟨some 12, .pu .mx [.t 11, .c (.i .i64 1)], none⟩,
 ⟨some 13, .mv (.t 6), none⟩,
 ⟨some 14, .lens (.t 13), none⟩,
 ⟨some 15, .pu .mn [.t 12, .t 14], none⟩,
 ⟨some 7, .mv (.t 15), none⟩])
 (.seq (.drw [⟨some 16, .mv (.t 7), none⟩,
 ⟨some 17, .call 36 [.t 16, .c (.i .i64 16)], none⟩,
 ⟨some 18, .bin .add (.t 17) (.c (.s [13, 10])), none⟩,
 ⟨some 19, .mv (.t 6), none⟩,
 ⟨some 20, .mv (.t 7), none⟩,
 ⟨some 21, .slcs (.t 19) none (some (.t 20)), none⟩,
 ⟨some 22, .bin .add (.t 18) (.t 21), none⟩,
 ⟨some 23, .bin .add (.t 22) (.c (.s [13, 10])), none⟩,
 ⟨some 24, .call 35 [.t 5, .t 23], none⟩] 8 [])
 (.reg [⟨some 25, .mv (.t 6), none⟩,
 ⟨some 26, .mv (.t 7), none⟩,
 ⟨some 27, .slcs (.t 25) (some (.t 26)) none, none⟩,
 ⟨some 6, .mv (.t 27), none⟩]))))))))
 (.seq (.reg [⟨some 28, .call 35 [.t 5, .c (.s [48, 13, 10, 13, 10])], none⟩])
 (.seq (.reg [⟨some 29, .call 37 [.t 5], none⟩,
 ⟨some 4, .mv (.t 29), none⟩])
 (.ret)))))
theorem is_body_Encode : FnIs Tryd.prog 17 30 [.tmp 4] c_body_Encode := ⟨⟨_, _, Tryd.func17, rfl, rfl, by kernel_rfl, by kernel_rfl⟩⟩
def c_body_Chunked : SCode :=
 .seq (.reg [⟨some 4, .mv (.c (.s [])), none⟩,
 ⟨some 5, .mv (.c (.i .i64 0)), none⟩])
 (.seq (.reg [⟨some 6, .mv (.c .nil), none⟩])
 (.seq (.reg [⟨some 7, .mv (.c (.i .i64 0)), none⟩,
 ⟨some 8, .mv (.c (.i .u64 0)), none⟩])
 (.seq (.skip)
 (.seq (.blk 0
 (.loop
 (.blk 1
 (.seq (.reg [⟨some 16, .mv (.t 0), none⟩,
 ⟨some 17, .mv (.t 7), none⟩,
 ⟨some 18, .call 38 [.t 16, .t 17], none⟩,
 ⟨some 15, .mv (.t 18), none⟩,
 ⟨some 19, .ext (.t 15) 0, none⟩,
 ⟨some 20, .ext (.t 15) 1, none⟩,
 ⟨some 21, .ext (.t 15) 2, none⟩,
 ⟨some 9, .mv (.t 19), none⟩,
 ⟨some 10, .mv (.t 20), none⟩,
 ⟨some 11, .mv (.t 21), none⟩])
 (.seq (.reg [⟨some 22, .mv (.t 8), none⟩,
 ⟨some 23, .mv (.t 9), none⟩,
 ⟨some 24, .call 39 [.t 22, .t 23], none⟩,
 ⟨some 8, .mv (.t 24), none⟩])
 (.seq (.blk 2
 (.seq (.reg [⟨some 26, .mv (.t 11), none⟩,
 ⟨some 27, .bin .neq (.t 26) (.c (.i .i64 0)), none⟩,
 ⟨some 25, .mv (.t 27), none⟩])
 (.cond (.t 25)
 (.seq (.reg [⟨some 28, .mv (.t 11), none⟩,
 ⟨some 4, .mv (.c (.s [])), none⟩,
 ⟨some 5, .mv (.t 28), none⟩])
 (.ret))
 (.seq (.reg [⟨some 30, .mv (.t 1), none⟩,
 ⟨some 31, .bin .lss (.t 30) (.c (.i .i64 0)), none⟩,
 ⟨some 32, .mv (.t 31), none⟩,
 ⟨some 33, .mv (.t 8), some (32, false)⟩,
 ⟨some 34, .mv (.t 1), some (32, false)⟩,
 ⟨some 35, .cvi .u64 (.t 34), some (32, false)⟩,
 ⟨some 36, .bin .gtr (.t 33) (.t 35), some (32, false)⟩,
 ⟨some 37, .pick (.t 32) (.c (.b true)) (.t 36), none⟩,
 ⟨some 29, .mv (.t 37), none⟩])
 (.cond (.t 29)
 (.seq (.reg [⟨some 4, .mv (.c (.s [])), none⟩,
 ⟨some 5, .mv (.c (.i .i64 142)), none⟩])
 (.ret))
 (.seq (.reg [⟨some 39, .mv (.t 9), none⟩,
 ⟨some 40, .bin .eql (.t 39) (.c (.i .u64 0)), none⟩,
 ⟨some 38, .mv (.t 40), none⟩])
 (.cond (.t 38)
 (.seq (.reg [⟨some 41, .mv (.t 10), none⟩,
 ⟨some 7, .mv (.t 41), none⟩])
 (.exit 0))
 (.seq (.reg [⟨some 43, .mv (.t 9), none⟩,
 ⟨some 44, .mv (.t 0), none⟩,
 ⟨some 45, .lens (.t 44), none⟩,
 ⟨some 46, .mv (.t 10), none⟩,
 ⟨some 47, .bin .sub (.t 45) (.t 46), none⟩,
 ⟨some 48, .cvi .u64 (.t 47), none⟩,
 ⟨some 49, .bin .gtr (.t 43) (.t 48), none⟩,
 ⟨some 42, .mv (.t 49), none⟩])
 (.cond (.t 42)
 (.seq (.reg [⟨some 4, .mv (.c (.s [])), none⟩,
 ⟨some 5, .mv (.c (.i .i64 191)), none⟩])
 (.ret))
 (.skip))))))))))
 (.seq (.reg [⟨some 50, .mv (.t 10), none⟩,
 ⟨some 51, .mv (.t 9), none⟩,
 ⟨some 52, .cvi .i64 (.t 51), none⟩,
 ⟨some 53, .bin .add (.t 50) (.t 52), none⟩,
 ⟨some 12, .mv (.t 53), none⟩])
 (.seq (.seq (.reg [⟨some 54, .mv (.t 0), none⟩,
 ⟨some 55, .mv (.t 12), none⟩,
 ⟨some 56, .call 40 [.t 54, .t 55], none⟩,
 ⟨some 13, .mv (.t 56), none⟩])
 (.seq (.reg [⟨some 57, .mv (.t 13), none⟩,
 ⟨some 58, .bin .neq (.t 57) (.c (.i .i64 0)), none⟩])
 (.cond (.t 58)
 (.seq (.reg [⟨some 59, .mv (.t 13), none⟩,
 ⟨some 4, .mv (.c (.s [])), none⟩,
 ⟨some 5, .mv (.t 59), none⟩])
 (.ret))
 (.skip))))
 (.seq (.reg [⟨some 60, .mv (.t 6), none⟩,
 ⟨some 61, .mv (.t 0), none⟩,
 ⟨some 62, .mv (.t 10), none⟩,
 ⟨some 63, .mv (.t 12), none⟩,
 ⟨some 64, .slcs (.t 61) (some (.t 62)) (some (.t 63)), none⟩,
 ⟨some 65, .apps 5 (.t 60) (.t 64), none⟩,
 ⟨some 6, .mv (.t 65), none⟩])
 (.reg [⟨some 66, .mv (.t 12), none⟩,
 ⟨some 67, .bin .add (.t 66) (.c (.i .i64 2)), none⟩,
 ⟨some 7, .mv (.t 67), none⟩]))))))))))
 (.seq (.seq (.reg [⟨some 68, .mv (.t 0), none⟩,
 ⟨some 69, .mv (.t 7), none⟩,
 ⟨some 70, .call 41 [.t 68, .t 69], none⟩,
 ⟨some 14, .mv (.t 70), none⟩])
 (.seq (.reg [⟨some 71, .mv (.t 14), none⟩,
 ⟨some 72, .bin .neq (.t 71) (.c (.i .i64 0)), none⟩])
 (.cond (.t 72)
 (.seq (.reg [⟨some 73, .mv (.t 14), none⟩,
 ⟨some 4, .mv (.c (.s [])), none⟩,
 ⟨some 5, .mv (.t 73), none⟩])
 (.ret))
 (.skip))))
 (.seq (.reg [⟨some 74, .mv (.t 6), none⟩,
 ⟨some 75, .cvbs (.t 74), none⟩,
 ⟨some 4, .mv (.t 75), none⟩,
 ⟨some 5, .mv (.c (.i .i64 0)), none⟩])
 (.ret)))))))
theorem is_body_Chunked : FnIs Tryd.prog 18 76 [.tmp 4, .tmp 5] c_body_Chunked := ⟨⟨_, _, Tryd.func18, rfl, rfl, by kernel_rfl, by kernel_rfl⟩⟩
def c_ref19_Encode : SCode :=
 .seq (.reg [⟨some 4, .mv (.c (.s [])), none⟩])
 (.seq (.reg [⟨some 5, .mv (.c (.s [])), none⟩])
 (.seq (.blk 0
 (.loop
 (.seq (.seq (.reg [⟨some 7, .mv (.t 0), none⟩,
 ⟨some 8, .bin .neq (.t 7) (.c (.s [])), none⟩])
 (.cond (.t 8)
 (.skip)
 (.exit 0)))
 (.blk 1
 (.seq (.reg [⟨some 9, .mv (.t 1), none⟩,
 ⟨some 10, .pu .mx [.c (.i .i64 1), .t 9], none⟩,
 ⟨some 11, .mv (.t 0), none⟩,
 ⟨some 12, .lens (.t 11), none⟩,
 ⟨some 13, .pu .mn [.t 10, .t 12], none⟩,
 ⟨some 6, .mv (.t 13), none⟩])
 (.drw [⟨some 14, .mv (.t 5), none⟩,
 ⟨some 15, .mv (.t 6), none⟩,
 ⟨some 16, .call 42 [.t 15], none⟩,
 ⟨some 17, .bin .add (.t 14) (.t 16), none⟩,
 ⟨some 18, .bin .add (.t 17) (.c (.s [13, 10])), none⟩,
 ⟨some 19, .mv (.t 0), none⟩,
 ⟨some 20, .mv (.t 6), none⟩,
 ⟨some 21, .slcs (.t 19) none (some (.t 20)), none⟩,
 ⟨some 22, .bin .add (.t 18) (.t 21), none⟩,
 ⟨some 23, .bin .add (.t 22) (.c (.s [13, 10])), none⟩,
 ⟨some 24, .mv (.t 0), none⟩,
 ⟨some 25, .mv (.t 6), none⟩,
 ⟨some 26, .slcs (.t 24) (some (.t 25)) none, none⟩,
 ⟨some 5, .mv (.t 23), none⟩,
 ⟨some 0, .mv (.t 26), none⟩] 15 []))))))
 (.seq (.reg [⟨some 27, .mv (.t 5), none⟩,
 ⟨some 28, .bin .add (.t 27) (.c (.s [48, 13, 10, 13, 10])), none⟩,
 ⟨some 4, .mv (.t 28), none⟩])
 (.ret))))
theorem is_ref19_Encode : FnIs Tryd.prog 19 29 [.tmp 4] c_ref19_Encode := ⟨⟨_, _, Tryd.func19, rfl, rfl, by kernel_rfl, by kernel_rfl⟩⟩
def c_body_Read : SCode :=
 .seq (.reg [⟨some 3, .box 45 (.t 0), none⟩,
 ⟨some 6, .mv (.c (.s [])), none⟩,
 ⟨some 7, .mv (.c (.i .i64 0)), none⟩])
 (.seq (.seq (.reg [⟨some 12, .mv (.t 2), none⟩,
 ⟨some 13, .bin .lss (.t 12) (.c (.i .i64 0)), none⟩])
 (.cond (.t 13)
 (.seq (.reg [⟨some 6, .mv (.c (.s [])), none⟩,
 ⟨some 7, .mv (.c (.i .i64 4)), none⟩])
 (.ret))
 (.skip)))
 (.seq (.seq (.reg [⟨some 14, .fad 1 (.t 3), none⟩,
 ⟨some 15, .load1 (.t 14), none⟩,
 ⟨some 16, .call 43 [.t 15], none⟩])
 (.cond (.t 16)
 (.seq (.reg [⟨some 6, .mv (.c (.s [])), none⟩,
 ⟨some 7, .mv (.c (.i .i64 0)), none⟩])
 (.ret))
 (.skip)))
 (.seq (.reg [⟨some 18, .loadn 3 (.t 3), none⟩,
 ⟨some 19, .call 44 [.t 18, .c (.s [116, 114, 97, 110, 115, 102, 101, 114, 45, 101, 110, 99, 111, 100, 105, 110, 103])], none⟩,
 ⟨some 17, .mv (.t 19), none⟩,
 ⟨some 20, .ext (.t 17) 0, none⟩,
 ⟨some 21, .ext (.t 17) 1, none⟩,
 ⟨some 8, .mv (.t 20), none⟩,
 ⟨some 9, .mv (.t 21), none⟩])
 (.seq (.reg [⟨some 23, .loadn 3 (.t 3), none⟩,
 ⟨some 24, .call 44 [.t 23, .c (.s [99, 111, 110, 116, 101, 110, 116, 45, 108, 101, 110, 103, 116, 104])], none⟩,
 ⟨some 22, .mv (.t 24), none⟩,
 ⟨some 25, .ext (.t 22) 0, none⟩,
 ⟨some 26, .ext (.t 22) 1, none⟩,
 ⟨some 10, .mv (.t 25), none⟩,
 ⟨some 11, .mv (.t 26), none⟩])
 (.seq (.blk 0
 (.seq (.reg [⟨some 28, .mv (.t 9), none⟩,
 ⟨some 29, .mv (.t 28), none⟩,
 ⟨some 30, .mv (.t 11), some (29, true)⟩,
 ⟨some 31, .mv (.t 30), some (29, true)⟩,
 ⟨some 32, .mv (.t 8), some (31, false)⟩,
 ⟨some 33, .call 45 [.t 32], some (31, false)⟩,
 ⟨some 34, .bin .neq (.t 33) (.c (.s [99, 104, 117, 110, 107, 101, 100])), some (31, false)⟩,
 ⟨some 35, .pick (.t 31) (.c (.b true)) (.t 34), some (29, true)⟩,
 ⟨some 36, .pick (.t 29) (.t 35) (.c (.b false)), none⟩,
 ⟨some 27, .mv (.t 36), none⟩])
 (.cond (.t 27)
 (.seq (.reg [⟨some 6, .mv (.c (.s [])), none⟩,
 ⟨some 7, .mv (.c (.i .i64 190)), none⟩])
 (.ret))
 (.seq (.reg [⟨some 38, .mv (.t 9), none⟩,
 ⟨some 37, .mv (.t 38), none⟩])
 (.cond (.t 37)
 (.seq (.reg [⟨some 39, .mv (.t 1), none⟩,
 ⟨some 40, .mv (.t 2), none⟩,
 ⟨some 41, .call 18 [.t 39, .t 40], none⟩,
 ⟨some 42, .ext (.t 41) 0, none⟩,
 ⟨some 43, .ext (.t 41) 1, none⟩,
 ⟨some 6, .mv (.t 42), none⟩,
 ⟨some 7, .mv (.t 43), none⟩])
 (.ret))
 (.seq (.reg [⟨some 45, .mv (.t 11), none⟩,
 ⟨some 44, .mv (.t 45), none⟩])
 (.cond (.t 44)
 (.seq (.reg [⟨some 46, .mv (.t 10), none⟩,
 ⟨some 47, .mv (.t 1), none⟩,
 ⟨some 48, .mv (.t 2), none⟩,
 ⟨some 49, .call 46 [.t 46, .t 47, .t 48], none⟩,
 ⟨some 50, .ext (.t 49) 0, none⟩,
 ⟨some 51, .ext (.t 49) 1, none⟩,
 ⟨some 6, .mv (.t 50), none⟩,
 ⟨some 7, .mv (.t 51), none⟩])
 (.ret))
 (.seq (.reg [⟨some 53, .mv (.t 1), none⟩,
 ⟨some 54, .lens (.t 53), none⟩,
 ⟨some 55, .mv (.t 2), none⟩,
 ⟨some 56, .bin .gtr (.t 54) (.t 55), none⟩,
 ⟨some 52, .mv (.t 56), none⟩])
 (.cond (.t 52)
 (.seq (.reg [⟨some 6, .mv (.c (.s [])), none⟩,
 ⟨some 7, .mv (.c (.i .i64 142)), none⟩])
 (.ret))
 (.skip))))))))))
 (.seq (.reg [⟨some 57, .mv (.t 1), none⟩,
 ⟨some 6, .mv (.t 57), none⟩,
 ⟨some 7, .mv (.c (.i .i64 0)), none⟩])
 (.ret)))))))
theorem is_body_Read : FnIs Tryd.prog 20 58 [.tmp 6, .tmp 7] c_body_Read := ⟨⟨_, _, Tryd.func20, rfl, rfl, by kernel_rfl, by kernel_rfl⟩⟩
def c_law19_digits : SCode :=
 .seq (.reg [⟨some 2, .mv (.c (.s [])), none⟩])
 (.seq (.reg [⟨some 3, .mv (.c (.s [])), none⟩])
 (.blk 0
 (.loop
 (.blk 1
 (.seq (.reg [⟨some 4, .mv (.t 0), none⟩,
 ⟨some 5, .bin .rem (.t 4) (.c (.i .i64 10)), none⟩,
 ⟨some 6, .bin .add (.c (.i .i64 48)) (.t 5), none⟩,
 ⟨some 7, .cvi .u8 (.t 6), none⟩,
 ⟨some 8, .bslice 1 [.i .u8 0] [(0, (1, .t 7))], none⟩,
 ⟨some 9, .cvbs (.t 8), none⟩,
 ⟨some 10, .mv (.t 3), none⟩,
 ⟨some 11, .bin .add (.t 9) (.t 10), none⟩,
 ⟨some 3, .mv (.t 11), none⟩])
 (.seq (.reg [⟨some 12, .mv (.t 0), none⟩,
 ⟨some 13, .bin .quo (.t 12) (.c (.i .i64 10)), none⟩,
 ⟨some 0, .mv (.t 13), none⟩])
 (.seq (.reg [⟨some 14, .mv (.t 0), none⟩,
 ⟨some 15, .bin .eql (.t 14) (.c (.i .i64 0)), none⟩])
 (.cond (.t 15)
 (.seq (.reg [⟨some 16, .mv (.t 3), none⟩,
 ⟨some 2, .mv (.t 16), none⟩])
 (.ret))
 (.skip)))))))))
theorem is_law19_digits : FnIs Tryd.prog 21 17 [.tmp 2] c_law19_digits := ⟨⟨_, _, Tryd.func21, rfl, rfl, by kernel_rfl, by kernel_rfl⟩⟩
def c_keep_Strings : SCode :=
 .seq (.reg [⟨some 6, .mv (.c (.b false)), none⟩])
 (.seq (.seq (.reg [⟨some 9, .mv (.t 0), none⟩,
 ⟨some 10, .lenr (.t 9), none⟩,
 ⟨some 11, .mv (.t 1), none⟩,
 ⟨some 12, .bin .gtr (.t 10) (.t 11), none⟩])
 (.cond (.t 12)
 (.seq (.reg [⟨some 6, .mv (.c (.b false)), none⟩])
 (.ret))
 (.skip)))
 (.seq (.seq (.reg [⟨some 13, .mv (.t 0), none⟩,
 ⟨some 14, .lenr (.t 13), none⟩,
 ⟨some 15, .mv (.c (.i .i64 0)), none⟩])
 (.blk 0
 (.loop
 (.seq (.reg [⟨some 16, .bin .lss (.t 15) (.t 14), none⟩])
 (.seq (.cond (.t 16)
 (.skip)
 (.exit 0))
 (.seq (.blk 1
 (.seq (.reg [⟨some 17, .iad 1 (.t 13) (.t 15), none⟩,
 ⟨some 18, .load1 (.t 17), none⟩,
 ⟨some 8, .mv (.t 18), none⟩])
 (.seq (.reg [⟨some 19, .mv (.t 8), none⟩,
 ⟨some 20, .lens (.t 19), none⟩,
 ⟨some 21, .mv (.t 2), none⟩,
 ⟨some 22, .bin .gtr (.t 20) (.t 21), none⟩])
 (.cond (.t 22)
 (.seq (.reg [⟨some 6, .mv (.c (.b false)), none⟩])
 (.ret))
 (.skip)))))
 (.reg [⟨some 23, .bin .add (.t 15) (.c (.i .i64 1)), none⟩,
 ⟨some 15, .mv (.t 23), none⟩])))))))
 (.seq (.reg [⟨some 6, .mv (.c (.b true)), none⟩])
 (.ret))))
theorem is_keep_Strings : FnIs Tryd.prog 22 24 [.tmp 6] c_keep_Strings := ⟨⟨_, _, Tryd.func22, rfl, rfl, by kernel_rfl, by kernel_rfl⟩⟩
def c_law19_size : SCode :=
 .seq (.reg [⟨some 2, .mv (.c (.s [])), none⟩])
 (.seq (.drw [⟨some 3, .mv (.t 0), none⟩,
 ⟨some 4, .bin .quo (.t 3) (.c (.i .i64 16)), none⟩,
 ⟨some 5, .bin .rem (.t 4) (.c (.i .i64 16)), none⟩,
 ⟨some 6, .idx (.c (.s [48, 49, 50, 51, 52, 53, 54, 55, 56, 57, 97, 98, 99, 68, 69, 70])) (.t 5), none⟩,
 ⟨some 7, .mv (.t 0), none⟩,
 ⟨some 8, .bin .rem (.t 7) (.c (.i .i64 16)), none⟩,
 ⟨some 9, .idx (.c (.s [48, 49, 50, 51, 52, 53, 54, 55, 56, 57, 97, 98, 99, 68, 69, 70])) (.t 8), none⟩,
 ⟨some 10, .bslice 2 [.i .u8 0, .i .u8 0] [(0, (1, .t 6)), (1, (1, .t 9))], none⟩,
 ⟨some 11, .cvbs (.t 10), none⟩,
 ⟨some 12, .bin .add (.c (.s [48])) (.t 11), none⟩,
 ⟨some 2, .mv (.t 12), none⟩] 11 [])
 (.ret))
theorem is_law19_size : FnIs Tryd.prog 23 13 [.tmp 2] c_law19_size := ⟨⟨_, _, Tryd.func23, rfl, rfl, by kernel_rfl, by kernel_rfl⟩⟩
def c_strings_Builder_WriteString : SCode :=
 .seq (.reg [⟨some 4, .mv (.c (.i .i64 0)), none⟩,
 ⟨some 5, .mv (.c (.o .nilIface)), none⟩])
 (.seq (.reg [⟨some 6, .mv (.t 0), none⟩,
 ⟨some 7, .call 66 [.t 6], none⟩])
 (.seq (.reg [⟨some 8, .mv (.t 0), none⟩,
 ⟨some 9, .mv (.t 0), none⟩,
 ⟨some 10, .nck (.t 9), none⟩,
 ⟨some 11, .fad 1 (.t 10), none⟩,
 ⟨some 12, .load1 (.t 11), none⟩,
 ⟨some 13, .mv (.t 1), none⟩,
 ⟨some 14, .apps 5 (.t 12) (.t 13), none⟩,
 ⟨some 15, .nck (.t 8), none⟩,
 ⟨some 16, .fad 1 (.t 15), none⟩,
 ⟨none, .store 1 (.t 16) (.t 14), none⟩])
 (.seq (.reg [⟨some 17, .mv (.t 1), none⟩,
 ⟨some 18, .lens (.t 17), none⟩,
 ⟨some 4, .mv (.t 18), none⟩,
 ⟨some 5, .mv (.c (.o .nilIface)), none⟩])
 (.ret))))
theorem is_strings_Builder_WriteString : FnIs Tryd.prog 35 19 [.tmp 4, .tmp 5] c_strings_Builder_WriteString := ⟨⟨_, _, Tryd.func35, rfl, rfl, by kernel_rfl, by kernel_rfl⟩⟩
def c_strconv_FormatInt : SCode :=
 .seq (.reg [⟨some 4, .mv (.c (.s [])), none⟩])
 (.seq (.reg [⟨some 5, .mv (.t 0), none⟩,
 ⟨some 6, .mv (.t 1), none⟩,
 ⟨some 7, .call 67 [.t 5, .t 6], none⟩,
 ⟨some 4, .mv (.t 7), none⟩])
 (.ret))
theorem is_strconv_FormatInt : FnIs Tryd.prog 36 8 [.tmp 4] c_strconv_FormatInt := ⟨⟨_, _, Tryd.func36, rfl, rfl, by kernel_rfl, by kernel_rfl⟩⟩
def c_body_sizeLine : SCode :=
 .seq (.reg [⟨some 4, .mv (.c (.i .u64 0)), none⟩,
 ⟨some 5, .mv (.c (.i .i64 0)), none⟩,
 ⟨some 6, .mv (.c (.i .i64 0)), none⟩])
 (.seq (.reg [⟨some 12, .mv (.t 1), none⟩,
 ⟨some 7, .mv (.t 12), none⟩])
 (.seq (.blk 0
 (.loop
 (.seq (.seq (.reg [⟨some 13, .mv (.t 7), none⟩,
 ⟨some 14, .mv (.t 0), none⟩,
 ⟨some 15, .lens (.t 14), none⟩,
 ⟨some 16, .bin .lss (.t 13) (.t 15), none⟩,
 ⟨some 17, .mv (.t 16), none⟩,
 ⟨some 18, .mv (.t 0), some (17, true)⟩,
 ⟨some 19, .mv (.t 7), some (17, true)⟩,
 ⟨some 20, .idx (.t 18) (.t 19), some (17, true)⟩,
 ⟨some 21, .call 68 [.t 20], some (17, true)⟩,
 ⟨some 22, .pick (.t 17) (.t 21) (.c (.b false)), none⟩])
 (.cond (.t 22)
 (.skip)
 (.exit 0)))
 (.blk 1
 (.reg [⟨some 23, .mv (.t 7), none⟩,
 ⟨some 24, .bin .add (.t 23) (.c (.i .i64 1)), none⟩,
 ⟨some 7, .mv (.t 24), none⟩])))))
 (.seq (.reg [⟨some 25, .mv (.t 0), none⟩,
 ⟨some 26, .mv (.t 1), none⟩,
 ⟨some 27, .mv (.t 7), none⟩,
 ⟨some 28, .slcs (.t 25) (some (.t 26)) (some (.t 27)), none⟩,
 ⟨some 8, .mv (.t 28), none⟩])
 (.seq (.seq (.reg [⟨some 29, .mv (.t 8), none⟩,
 ⟨some 30, .bin .eql (.t 29) (.c (.s [])), none⟩,
 ⟨some 31, .mv (.t 30), none⟩,
 ⟨some 32, .mv (.t 7), some (31, true)⟩,
 ⟨some 33, .mv (.t 0), some (31, true)⟩,
 ⟨some 34, .lens (.t 33), some (31, true)⟩,
 ⟨some 35, .bin .lss (.t 32) (.t 34), some (31, true)⟩,
 ⟨some 36, .pick (.t 31) (.t 35) (.c (.b false)), none⟩])
 (.cond (.t 36)
 (.seq (.reg [⟨some 4, .mv (.c (.i .u64 0)), none⟩,
 ⟨some 5, .mv (.c (.i .i64 0)), none⟩,
 ⟨some 6, .mv (.c (.i .i64 190)), none⟩])
 (.ret))
 (.skip)))
 (.seq (.seq (.reg [⟨some 37, .mv (.t 7), none⟩,
 ⟨some 38, .mv (.t 0), none⟩,
 ⟨some 39, .lens (.t 38), none⟩,
 ⟨some 40, .bin .lss (.t 37) (.t 39), none⟩,
 ⟨some 41, .mv (.t 40), none⟩,
 ⟨some 42, .mv (.t 0), some (41, true)⟩,
 ⟨some 43, .mv (.t 7), some (41, true)⟩,
 ⟨some 44, .idx (.t 42) (.t 43), some (41, true)⟩,
 ⟨some 45, .bin .eql (.t 44) (.c (.i .u8 59)), some (41, true)⟩,
 ⟨some 46, .pick (.t 41) (.t 45) (.c (.b false)), none⟩])
 (.cond (.t 46)
 (.reg [⟨some 47, .mv (.t 0), none⟩,
 ⟨some 48, .mv (.t 7), none⟩,
 ⟨some 49, .call 69 [.t 47, .t 48], none⟩,
 ⟨some 7, .mv (.t 49), none⟩])
 (.skip)))
 (.seq (.seq (.reg [⟨some 50, .mv (.t 0), none⟩,
 ⟨some 51, .mv (.t 7), none⟩,
 ⟨some 52, .call 40 [.t 50, .t 51], none⟩,
 ⟨some 9, .mv (.t 52), none⟩])
 (.seq (.reg [⟨some 53, .mv (.t 9), none⟩,
 ⟨some 54, .bin .neq (.t 53) (.c (.i .i64 0)), none⟩])
 (.cond (.t 54)
 (.seq (.reg [⟨some 55, .mv (.t 9), none⟩,
 ⟨some 4, .mv (.c (.i .u64 0)), none⟩,
 ⟨some 5, .mv (.c (.i .i64 0)), none⟩,
 ⟨some 6, .mv (.t 55), none⟩])
 (.ret))
 (.skip))))
 (.seq (.reg [⟨some 57, .mv (.t 8), none⟩,
 ⟨some 58, .call 70 [.t 57, .c (.i .u64 18446744073709551615)], none⟩,
 ⟨some 56, .mv (.t 58), none⟩,
 ⟨some 59, .ext (.t 56) 0, none⟩,
 ⟨some 60, .ext (.t 56) 1, none⟩,
 ⟨some 10, .mv (.t 59), none⟩,
 ⟨some 11, .mv (.t 60), none⟩])
 (.seq (.seq (.reg [⟨some 61, .mv (.t 11), none⟩,
 ⟨some 62, .bin .neq (.t 61) (.c (.i .i64 0)), none⟩])
 (.cond (.t 62)
 (.reg [⟨some 10, .mv (.c (.i .u64 18446744073709551615)), none⟩])
 (.skip)))
 (.seq (.reg [⟨some 63, .mv (.t 10), none⟩,
 ⟨some 64, .mv (.t 7), none⟩,
 ⟨some 65, .bin .add (.t 64) (.c (.i .i64 2)), none⟩,
 ⟨some 4, .mv (.t 63), none⟩,
 ⟨some 5, .mv (.t 65), none⟩,
 ⟨some 6, .mv (.c (.i .i64 0)), none⟩])
 (.ret))))))))))
theorem is_body_sizeLine : FnIs Tryd.prog 38 66 [.tmp 4, .tmp 5, .tmp 6] c_body_sizeLine := ⟨⟨_, _, Tryd.func38, rfl, rfl, by kernel_rfl, by kernel_rfl⟩⟩
def c_body_checkLineEnd : SCode :=
 .seq (.reg [⟨some 4, .mv (.c (.i .i64 0)), none⟩])
 (.seq (.seq (.reg [⟨some 6, .mv (.c (.i .i64 0)), none⟩])
 (.blk 0
 (.loop
 (.seq (.reg [⟨some 7, .bin .lss (.t 6) (.c (.i .i64 2)), none⟩])
 (.seq (.cond (.t 7)
 (.skip)
 (.exit 0))
 (.seq (.blk 1
 (.seq (.reg [⟨some 8, .mv (.t 6), none⟩,
 ⟨some 5, .mv (.t 8), none⟩])
 (.seq (.seq (.reg [⟨some 9, .mv (.t 1), none⟩,
 ⟨some 10, .mv (.t 5), none⟩,
 ⟨some 11, .bin .add (.t 9) (.t 10), none⟩,
 ⟨some 12, .mv (.t 0), none⟩,
 ⟨some 13, .lens (.t 12), none⟩,
 ⟨some 14, .bin .geq (.t 11) (.t 13), none⟩])
 (.cond (.t 14)
 (.seq (.reg [⟨some 4, .mv (.c (.i .i64 191)), none⟩])
 (.ret))
 (.skip)))
 (.seq (.drw [⟨some 15, .mv (.t 0), none⟩,
 ⟨some 16, .mv (.t 1), none⟩,
 ⟨some 17, .mv (.t 5), none⟩,
 ⟨some 18, .bin .add (.t 16) (.t 17), none⟩,
 ⟨some 19, .idx (.t 15) (.t 18), none⟩,
 ⟨some 20, .mv (.t 5), none⟩,
 ⟨some 21, .idx (.c (.s [13, 10])) (.t 20), none⟩,
 ⟨some 22, .bin .neq (.t 19) (.t 21), none⟩] 8 [])
 (.cond (.t 22)
 (.seq (.reg [⟨some 4, .mv (.c (.i .i64 190)), none⟩])
 (.ret))
 (.skip))))))
 (.reg [⟨some 23, .bin .add (.t 6) (.c (.i .i64 1)), none⟩,
 ⟨some 6, .mv (.t 23), none⟩])))))))
 (.seq (.reg [⟨some 4, .mv (.c (.i .i64 0)), none⟩])
 (.ret)))
theorem is_body_checkLineEnd : FnIs Tryd.prog 40 24 [.tmp 4] c_body_checkLineEnd := ⟨⟨_, _, Tryd.func40, rfl, rfl, by kernel_rfl, by kernel_rfl⟩⟩
def c_body_checkTrailer : SCode :=
 .seq (.reg [⟨some 4, .mv (.c (.i .i64 0)), none⟩])
 (.blk 0
 (.loop
 (.blk 1
 (.seq (.reg [⟨some 7, .mv (.t 0), none⟩,
 ⟨some 8, .mv (.t 1), none⟩,
 ⟨some 9, .call 69 [.t 7, .t 8], none⟩,
 ⟨some 5, .mv (.t 9), none⟩])
 (.seq (.seq (.reg [⟨some 10, .mv (.t 0), none⟩,
 ⟨some 11, .mv (.t 5), none⟩,
 ⟨some 12, .call 40 [.t 10, .t 11], none⟩,
 ⟨some 6, .mv (.t 12), none⟩])
 (.seq (.reg [⟨some 13, .mv (.t 6), none⟩,
 ⟨some 14, .bin .neq (.t 13) (.c (.i .i64 0)), none⟩,
 ⟨some 15, .mv (.t 14), none⟩,
 ⟨some 16, .mv (.t 5), some (15, false)⟩,
 ⟨some 17, .mv (.t 1), some (15, false)⟩,
 ⟨some 18, .bin .eql (.t 16) (.t 17), some (15, false)⟩,
 ⟨some 19, .pick (.t 15) (.c (.b true)) (.t 18), none⟩])
 (.cond (.t 19)
 (.seq (.reg [⟨some 20, .mv (.t 6), none⟩,
 ⟨some 4, .mv (.t 20), none⟩])
 (.ret))
 (.skip))))
 (.reg [⟨some 21, .mv (.t 5), none⟩,
 ⟨some 22, .bin .add (.t 21) (.c (.i .i64 2)), none⟩,
 ⟨some 1, .mv (.t 22), none⟩]))))))
theorem is_body_checkTrailer : FnIs Tryd.prog 41 23 [.tmp 4] c_body_checkTrailer := ⟨⟨_, _, Tryd.func41, rfl, rfl, by kernel_rfl, by kernel_rfl⟩⟩
def c_ref19_hex : SCode :=
 .seq (.reg [⟨some 2, .mv (.c (.s [])), none⟩])
 (.seq (.reg [⟨some 3, .mv (.c (.s [])), none⟩])
 (.blk 0
 (.loop
 (.blk 1
 (.seq (.reg [⟨some 4, .mv (.t 0), none⟩,
 ⟨some 5, .bin .rem (.t 4) (.c (.i .i64 16)), none⟩,
 ⟨some 6, .mv (.t 0), none⟩,
 ⟨some 7, .bin .rem (.t 6) (.c (.i .i64 16)), none⟩,
 ⟨some 8, .bin .add (.t 7) (.c (.i .i64 1)), none⟩,
 ⟨some 9, .slcs (.c (.s [48, 49, 50, 51, 52, 53, 54, 55, 56, 57, 97, 98, 99, 100, 101, 102])) (some (.t 5)) (some (.t 8)), none⟩,
 ⟨some 10, .mv (.t 3), none⟩,
 ⟨some 11, .bin .add (.t 9) (.t 10), none⟩,
 ⟨some 3, .mv (.t 11), none⟩])
 (.seq (.reg [⟨some 12, .mv (.t 0), none⟩,
 ⟨some 13, .bin .quo (.t 12) (.c (.i .i64 16)), none⟩,
 ⟨some 0, .mv (.t 13), none⟩])
 (.seq (.reg [⟨some 14, .mv (.t 0), none⟩,
 ⟨some 15, .bin .eql (.t 14) (.c (.i .i64 0)), none⟩])
 (.cond (.t 15)
 (.seq (.reg [⟨some 16, .mv (.t 3), none⟩,
 ⟨some 2, .mv (.t 16), none⟩])
 (.ret))
 (.skip)))))))))
theorem is_ref19_hex : FnIs Tryd.prog 42 17 [.tmp 2] c_ref19_hex := ⟨⟨_, _, Tryd.func42, rfl, rfl, by kernel_rfl, by kernel_rfl⟩⟩
def c_body_hasNoBody : SCode :=
 .seq (.reg [⟨some 2, .mv (.c (.b false)), none⟩])
 (.seq (.reg [⟨some 3, .mv (.t 0), none⟩,
 ⟨some 4, .bin .geq (.t 3) (.c (.i .i64 100)), none⟩,
 ⟨some 5, .mv (.t 4), none⟩,
 ⟨some 6, .mv (.t 0), some (5, true)⟩,
 ⟨some 7, .bin .leq (.t 6) (.c (.i .i64 199)), some (5, true)⟩,
 ⟨some 8, .pick (.t 5) (.t 7) (.c (.b false)), none⟩,
 ⟨some 9, .mv (.t 8), none⟩,
 ⟨some 10, .mv (.t 0), some (9, false)⟩,
 ⟨some 11, .bin .eql (.t 10) (.c (.i .i64 204)), some (9, false)⟩,
 ⟨some 12, .pick (.t 9) (.c (.b true)) (.t 11), none⟩,
 ⟨some 13, .mv (.t 12), none⟩,
 ⟨some 14, .mv (.t 0), some (13, false)⟩,
 ⟨some 15, .bin .eql (.t 14) (.c (.i .i64 304)), some (13, false)⟩,
 ⟨some 16, .pick (.t 13) (.c (.b true)) (.t 15), none⟩,
 ⟨some 2, .mv (.t 16), none⟩])
 (.ret))
theorem is_body_hasNoBody : FnIs Tryd.prog 43 17 [.tmp 2] c_body_hasNoBody := ⟨⟨_, _, Tryd.func43, rfl, rfl, by kernel_rfl, by kernel_rfl⟩⟩
def c_head_Get : SCode :=
 .seq (.reg [⟨some 2, .box 45 (.t 0), none⟩,
 ⟨some 4, .mv (.c (.s [])), none⟩,
 ⟨some 5, .mv (.c (.b false)), none⟩])
 (.seq (.reg [⟨some 7, .loadn 3 (.t 2), none⟩,
 ⟨some 8, .mv (.t 1), none⟩,
 ⟨some 9, .call 71 [.t 7, .t 8], none⟩,
 ⟨some 6, .mv (.t 9), none⟩])
 (.seq (.reg [⟨some 10, .mv (.t 6), none⟩,
 ⟨some 11, .call 72 [.t 10, .c (.s [44, 32])], none⟩,
 ⟨some 12, .mv (.t 6), none⟩,
 ⟨some 13, .lenr (.t 12), none⟩,
 ⟨some 14, .bin .gtr (.t 13) (.c (.i .i64 0)), none⟩,
 ⟨some 4, .mv (.t 11), none⟩,
 ⟨some 5, .mv (.t 14), none⟩])
 (.ret)))
theorem is_head_Get : FnIs Tryd.prog 44 15 [.tmp 4, .tmp 5] c_head_Get := ⟨⟨_, _, Tryd.func44, rfl, rfl, by kernel_rfl, by kernel_rfl⟩⟩
def c_body_readLength : SCode :=
 .seq (.reg [⟨some 6, .mv (.c (.s [])), none⟩,
 ⟨some 7, .mv (.c (.i .i64 0)), none⟩])
 (.seq (.reg [⟨some 14, .mv (.t 0), none⟩,
 ⟨some 15, .call 74 [.t 14, .c (.s [44])], none⟩,
 ⟨some 8, .mv (.t 15), none⟩])
 (.seq (.reg [⟨some 16, .mv (.t 8), none⟩,
 ⟨some 17, .iad 1 (.t 16) (.c (.i .i64 0)), none⟩,
 ⟨some 18, .load1 (.t 17), none⟩,
 ⟨some 19, .call 75 [.t 18], none⟩,
 ⟨some 9, .mv (.t 19), none⟩])
 (.seq (.seq (.reg [⟨some 20, .mv (.t 8), none⟩,
 ⟨some 21, .lenr (.t 20), none⟩,
 ⟨some 22, .mv (.c (.i .i64 0)), none⟩])
 (.blk 0
 (.loop
 (.seq (.reg [⟨some 23, .bin .lss (.t 22) (.t 21), none⟩])
 (.seq (.cond (.t 23)
 (.skip)
 (.exit 0))
 (.seq (.blk 1
 (.seq (.reg [⟨some 24, .iad 1 (.t 20) (.t 22), none⟩,
 ⟨some 25, .load1 (.t 24), none⟩,
 ⟨some 11, .mv (.t 25), none⟩])
 (.seq (.reg [⟨some 26, .mv (.t 11), none⟩,
 ⟨some 27, .call 75 [.t 26], none⟩,
 ⟨some 28, .mv (.t 9), none⟩,
 ⟨some 29, .bin .neq (.t 27) (.t 28), none⟩])
 (.cond (.t 29)
 (.seq (.reg [⟨some 6, .mv (.c (.s [])), none⟩,
 ⟨some 7, .mv (.c (.i .i64 190)), none⟩])
 (.ret))
 (.skip)))))
 (.reg [⟨some 30, .bin .add (.t 22) (.c (.i .i64 1)), none⟩,
 ⟨some 22, .mv (.t 30), none⟩])))))))
 (.seq (.seq (.reg [⟨some 31, .mv (.t 9), none⟩,
 ⟨some 32, .call 76 [.t 31], none⟩,
 ⟨some 33, .not (.t 32), none⟩])
 (.cond (.t 33)
 (.seq (.reg [⟨some 6, .mv (.c (.s [])), none⟩,
 ⟨some 7, .mv (.c (.i .i64 190)), none⟩])
 (.ret))
 (.skip)))
 (.seq (.reg [⟨some 35, .mv (.t 9), none⟩,
 ⟨some 36, .mv (.t 2), none⟩,
 ⟨some 37, .cvi .u64 (.t 36), none⟩,
 ⟨some 38, .call 77 [.t 35, .t 37], none⟩,
 ⟨some 34, .mv (.t 38), none⟩,
 ⟨some 39, .ext (.t 34) 0, none⟩,
 ⟨some 40, .ext (.t 34) 1, none⟩,
 ⟨some 12, .mv (.t 39), none⟩,
 ⟨some 13, .mv (.t 40), none⟩])
 (.seq (.seq (.reg [⟨some 41, .mv (.t 13), none⟩,
 ⟨some 42, .bin .neq (.t 41) (.c (.i .i64 0)), none⟩])
 (.cond (.t 42)
 (.seq (.reg [⟨some 6, .mv (.c (.s [])), none⟩,
 ⟨some 7, .mv (.c (.i .i64 142)), none⟩])
 (.ret))
 (.skip)))
 (.seq (.seq (.reg [⟨some 43, .mv (.t 12), none⟩,
 ⟨some 44, .mv (.t 1), none⟩,
 ⟨some 45, .lens (.t 44), none⟩,
 ⟨some 46, .cvi .u64 (.t 45), none⟩,
 ⟨some 47, .bin .gtr (.t 43) (.t 46), none⟩])
 (.cond (.t 47)
 (.seq (.reg [⟨some 6, .mv (.c (.s [])), none⟩,
 ⟨some 7, .mv (.c (.i .i64 191)), none⟩])
 (.ret))
 (.skip)))
 (.seq (.reg [⟨some 48, .mv (.t 1), none⟩,
 ⟨some 49, .mv (.t 12), none⟩,
 ⟨some 50, .slcs (.t 48) none (some (.t 49)), none⟩,
 ⟨some 6, .mv (.t 50), none⟩,
 ⟨some 7, .mv (.c (.i .i64 0)), none⟩])
 (.ret)))))))))
theorem is_body_readLength : FnIs Tryd.prog 46 51 [.tmp 6, .tmp 7] c_body_readLength := ⟨⟨_, _, Tryd.func46, rfl, rfl, by kernel_rfl, by kernel_rfl⟩⟩
def c_internal_strconv_FormatInt : SCode :=
 .seq (.reg [⟨some 4, .mv (.c (.s [])), none⟩])
 (.seq (.seq (.reg [⟨some 10, .mv (.t 1), none⟩,
 ⟨some 11, .bin .eql (.t 10) (.c (.i .i64 10)), none⟩])
 (.cond (.t 11)
 (.seq (.seq (.reg [⟨some 12, .mv (.t 0), none⟩,
 ⟨some 13, .bin .leq (.c (.i .i64 0)) (.t 12), none⟩,
 ⟨some 14, .mv (.t 13), none⟩,
 ⟨some 15, .mv (.t 0), some (14, true)⟩,
 ⟨some 16, .bin .lss (.t 15) (.c (.i .i64 100)), some (14, true)⟩,
 ⟨some 17, .pick (.t 14) (.t 16) (.c (.b false)), none⟩])
 (.cond (.t 17)
 (.seq (.reg [⟨some 18, .mv (.t 0), none⟩,
 ⟨some 19, .call 94 [.t 18], none⟩,
 ⟨some 4, .mv (.t 19), none⟩])
 (.ret))
 (.skip)))
 (.seq (.reg [⟨some 5, .alloc 143 [.i .u8 0, .i .u8 0, .i .u8 0, .i .u8 0, .i .u8 0, .i .u8 0, .i .u8 0, .i .u8 0, .i .u8 0, .i .u8 0, .i .u8 0, .i .u8 0, .i .u8 0, .i .u8 0, .i .u8 0, .i .u8 0, .i .u8 0, .i .u8 0, .i .u8 0, .i .u8 0, .i .u8 0, .i .u8 0, .i .u8 0, .i .u8 0], none⟩])
 (.seq (.reg [⟨some 20, .mv (.t 0), none⟩,
 ⟨some 21, .cvi .u64 (.t 20), none⟩,
 ⟨some 6, .mv (.t 21), none⟩])
 (.seq (.seq (.reg [⟨some 22, .mv (.t 0), none⟩,
 ⟨some 23, .bin .lss (.t 22) (.c (.i .i64 0)), none⟩])
 (.cond (.t 23)
 (.reg [⟨some 24, .mv (.t 6), none⟩,
 ⟨some 25, .neg (.t 24), none⟩,
 ⟨some 6, .mv (.t 25), none⟩])
 (.skip)))
 (.seq (.reg [⟨some 26, .mv (.t 6), none⟩,
 ⟨some 27, .call 95 [.t 26], none⟩,
 ⟨some 7, .mv (.t 27), none⟩])
 (.seq (.reg [⟨some 28, .mv (.t 7), none⟩,
 ⟨some 29, .bin .add (.c (.i .i64 1)) (.t 28), none⟩,
 ⟨some 30, .pu (.aslb 1 24) [.t 5, .c (.i .i64 1), .t 29], none⟩,
 ⟨some 31, .mv (.t 6), none⟩,
 ⟨some 32, .call 96 [.t 30, .t 31], none⟩])
 (.seq (.seq (.reg [⟨some 33, .mv (.t 0), none⟩,
 ⟨some 34, .bin .lss (.t 33) (.c (.i .i64 0)), none⟩])
 (.cond (.t 34)
 (.seq (.reg [⟨some 35, .iada 1 24 (.t 5) (.c (.i .i64 0)), none⟩,
 ⟨none, .store 1 (.t 35) (.c (.i .u8 45)), none⟩])
 (.seq (.reg [⟨some 36, .mv (.t 7), none⟩,
 ⟨some 37, .bin .add (.c (.i .i64 1)) (.t 36), none⟩,
 ⟨some 38, .pu (.aslh 1 24) [.t 5, .t 37], none⟩,
 ⟨some 39, .cvbs (.t 38), none⟩,
 ⟨some 4, .mv (.t 39), none⟩])
 (.ret)))
 (.skip)))
 (.seq (.reg [⟨some 40, .mv (.t 7), none⟩,
 ⟨some 41, .bin .add (.c (.i .i64 1)) (.t 40), none⟩,
 ⟨some 42, .pu (.aslb 1 24) [.t 5, .c (.i .i64 1), .t 41], none⟩,
 ⟨some 43, .cvbs (.t 42), none⟩,
 ⟨some 4, .mv (.t 43), none⟩])
 (.ret)))))))))
 (.skip)))
 (.seq (.reg [⟨some 45, .mv (.t 0), none⟩,
 ⟨some 46, .cvi .u64 (.t 45), none⟩,
 ⟨some 47, .mv (.t 1), none⟩,
 ⟨some 48, .mv (.t 0), none⟩,
 ⟨some 49, .bin .lss (.t 48) (.c (.i .i64 0)), none⟩,
 ⟨some 50, .call 97 [.c .nil, .t 46, .t 47, .t 49, .c (.b false)], none⟩,
 ⟨some 44, .mv (.t 50), none⟩,
 ⟨some 51, .ext (.t 44) 0, none⟩,
 ⟨some 52, .ext (.t 44) 1, none⟩,
 ⟨some 8, .mv (.t 51), none⟩,
 ⟨some 9, .mv (.t 52), none⟩])
 (.seq (.reg [⟨some 53, .mv (.t 9), none⟩,
 ⟨some 4, .mv (.t 53), none⟩])
 (.ret))))
theorem is_internal_strconv_FormatInt : FnIs Tryd.prog 67 54 [.tmp 4] c_internal_strconv_FormatInt := ⟨⟨_, _, Tryd.func67, rfl, rfl, by kernel_rfl, by kernel_rfl⟩⟩
def c_body_lineTextEnd : SCode :=
 .seq (.reg [⟨some 4, .mv (.c (.i .i64 0)), none⟩])
 (.seq (.blk 0
 (.loop
 (.seq (.seq (.reg [⟨some 5, .mv (.t 1), none⟩,
 ⟨some 6, .mv (.t 0), none⟩,
 ⟨some 7, .lens (.t 6), none⟩,
 ⟨some 8, .bin .lss (.t 5) (.t 7), none⟩,
 ⟨some 9, .mv (.t 8), none⟩,
 ⟨some 10, .mv (.t 0), some (9, true)⟩,
 ⟨some 11, .mv (.t 1), some (9, true)⟩,
 ⟨some 12, .idx (.t 10) (.t 11), some (9, true)⟩,
 ⟨some 13, .bin .neq (.t 12) (.c (.i .u8 13)), some (9, true)⟩,
 ⟨some 14, .pick (.t 9) (.t 13) (.c (.b false)), none⟩,
 ⟨some 15, .mv (.t 14), none⟩,
 ⟨some 16, .mv (.t 0), some (15, true)⟩,
 ⟨some 17, .mv (.t 1), some (15, true)⟩,
 ⟨some 18, .idx (.t 16) (.t 17), some (15, true)⟩,
 ⟨some 19, .bin .neq (.t 18) (.c (.i .u8 10)), some (15, true)⟩,
 ⟨some 20, .pick (.t 15) (.t 19) (.c (.b false)), none⟩])
 (.cond (.t 20)
 (.skip)
 (.exit 0)))
 (.blk 1
 (.reg [⟨some 21, .mv (.t 1), none⟩,
 ⟨some 22, .bin .add (.t 21) (.c (.i .i64 1)), none⟩,
 ⟨some 1, .mv (.t 22), none⟩])))))
 (.seq (.reg [⟨some 23, .mv (.t 1), none⟩,
 ⟨some 4, .mv (.t 23), none⟩])
 (.ret)))
theorem is_body_lineTextEnd : FnIs Tryd.prog 69 24 [.tmp 4] c_body_lineTextEnd := ⟨⟨_, _, Tryd.func69, rfl, rfl, by kernel_rfl, by kernel_rfl⟩⟩
def c_head_Values : SCode :=
 .seq (.reg [⟨some 2, .box 45 (.t 0), none⟩,
 ⟨some 4, .mv (.c .nil), none⟩])
 (.seq (.reg [⟨some 5, .mv (.c .nil), none⟩])
 (.seq (.seq (.reg [⟨some 8, .fad 2 (.t 2), none⟩,
 ⟨some 9, .load1 (.t 8), none⟩,
 ⟨some 10, .lenr (.t 9), none⟩,
 ⟨some 11, .mv (.c (.i .i64 0)), none⟩])
 (.blk 0
 (.loop
 (.seq (.reg [⟨some 12, .bin .lss (.t 11) (.t 10), none⟩])
 (.seq (.cond (.t 12)
 (.skip)
 (.exit 0))
 (.seq (.blk 1
 (.seq (.reg [⟨some 13, .iad 2 (.t 9) (.t 11), none⟩,
 ⟨some 14, .loadn 2 (.t 13), none⟩,
 ⟨some 7, .alloc 42 [.s [], .s []], none⟩,
 ⟨none, .store 2 (.t 7) (.t 14), none⟩])
 (.seq (.reg [⟨some 15, .fad 0 (.t 7), none⟩,
 ⟨some 16, .load1 (.t 15), none⟩,
 ⟨some 17, .mv (.t 1), none⟩,
 ⟨some 18, .call 100 [.t 16, .t 17], none⟩])
 (.cond (.t 18)
 (.reg [⟨some 19, .mv (.t 5), none⟩,
 ⟨some 20, .fad 1 (.t 7), none⟩,
 ⟨some 21, .load1 (.t 20), none⟩,
 ⟨some 22, .bslice 1 [.s []] [(0, (1, .t 21))], none⟩,
 ⟨some 23, .app 9 1 16 (.t 19) (.t 22), none⟩,
 ⟨some 5, .mv (.t 23), none⟩])
 (.skip)))))
 (.reg [⟨some 24, .bin .add (.t 11) (.c (.i .i64 1)), none⟩,
 ⟨some 11, .mv (.t 24), none⟩])))))))
 (.seq (.reg [⟨some 25, .mv (.t 5), none⟩,
 ⟨some 4, .mv (.t 25), none⟩])
 (.ret))))
theorem is_head_Values : FnIs Tryd.prog 71 26 [.tmp 4] c_head_Values := ⟨⟨_, _, Tryd.func71, rfl, rfl, by kernel_rfl, by kernel_rfl⟩⟩
def c_internal_strconv_formatBits : SCode :=
 .seq (.reg [⟨some 10, .mv (.c .nil), none⟩,
 ⟨some 11, .mv (.c (.s [])), none⟩])
 (.seq (.seq (.reg [⟨some 19, .mv (.t 2), none⟩,
 ⟨some 20, .bin .lss (.t 19) (.c (.i .i64 2)), none⟩,
 ⟨some 21, .mv (.t 20), none⟩,
 ⟨some 22, .mv (.t 2), some (21, false)⟩,
 ⟨some 23, .bin .eql (.t 22) (.c (.i .i64 10)), some (21, false)⟩,
 ⟨some 24, .pick (.t 21) (.c (.b true)) (.t 23), none⟩,
 ⟨some 25, .mv (.t 24), none⟩,
 ⟨some 26, .mv (.t 2), some (25, false)⟩,
 ⟨some 27, .bin .gtr (.t 26) (.c (.i .i64 36)), some (25, false)⟩,
 ⟨some 28, .pick (.t 25) (.c (.b true)) (.t 27), none⟩])
 (.cond (.t 28)
 (.dead)
 (.skip)))
 (.seq (.reg [⟨some 12, .alloc 173 [.i .u8 0, .i .u8 0, .i .u8 0, .i .u8 0, .i .u8 0, .i .u8 0, .i .u8 0, .i .u8 0, .i .u8 0, .i .u8 0, .i .u8 0, .i .u8 0, .i .u8 0, .i .u8 0, .i .u8 0, .i .u8 0, .i .u8 0, .i .u8 0, .i .u8 0, .i .u8 0, .i .u8 0, .i .u8 0, .i .u8 0, .i .u8 0, .i .u8 0, .i .u8 0, .i .u8 0, .i .u8 0, .i .u8 0, .i .u8 0, .i .u8 0, .i .u8 0, .i .u8 0, .i .u8 0, .i .u8 0, .i .u8 0, .i .u8 0, .i .u8 0, .i .u8 0, .i .u8 0, .i .u8 0, .i .u8 0, .i .u8 0, .i .u8 0, .i .u8 0, .i .u8 0, .i .u8 0, .i .u8 0, .i .u8 0, .i .u8 0, .i .u8 0, .i .u8 0, .i .u8 0, .i .u8 0, .i .u8 0, .i .u8 0, .i .u8 0, .i .u8 0, .i .u8 0, .i .u8 0, .i .u8 0, .i .u8 0, .i .u8 0, .i .u8 0, .i .u8 0], none⟩])
 (.seq (.reg [⟨some 13, .mv (.c (.i .i64 65)), none⟩])
 (.seq (.seq (.reg [⟨some 30, .mv (.t 3), none⟩])
 (.cond (.t 30)
 (.reg [⟨some 31, .mv (.t 1), none⟩,
 ⟨some 32, .neg (.t 31), none⟩,
 ⟨some 1, .mv (.t 32), none⟩])
 (.skip)))
 (.seq (.seq (.reg [⟨some 33, .mv (.t 2), none⟩,
 ⟨some 34, .call 123 [.t 33], none⟩])
 (.cond (.t 34)
 (.seq (.reg [⟨some 35, .mv (.t 2), none⟩,
 ⟨some 36, .cvi .u64 (.t 35), none⟩,
 ⟨some 37, .call 124 [.t 36], none⟩,
 ⟨some 38, .cvi .u64 (.t 37), none⟩,
 ⟨some 14, .mv (.t 38), none⟩])
 (.seq (.reg [⟨some 39, .mv (.t 2), none⟩,
 ⟨some 40, .cvi .u64 (.t 39), none⟩,
 ⟨some 15, .mv (.t 40), none⟩])
 (.seq (.reg [⟨some 41, .mv (.t 2), none⟩,
 ⟨some 42, .cvi .u64 (.t 41), none⟩,
 ⟨some 43, .bin .sub (.t 42) (.c (.i .u64 1)), none⟩,
 ⟨some 16, .mv (.t 43), none⟩])
 (.seq (.blk 0
 (.loop
 (.seq (.seq (.reg [⟨some 44, .mv (.t 1), none⟩,
 ⟨some 45, .mv (.t 15), none⟩,
 ⟨some 46, .bin .geq (.t 44) (.t 45), none⟩])
 (.cond (.t 46)
 (.skip)
 (.exit 0)))
 (.blk 1
 (.seq (.reg [⟨some 47, .mv (.t 13), none⟩,
 ⟨some 48, .bin .sub (.t 47) (.c (.i .i64 1)), none⟩,
 ⟨some 13, .mv (.t 48), none⟩])
 (.seq (.reg [⟨some 49, .mv (.t 13), none⟩,
 ⟨some 50, .mv (.t 1), none⟩,
 ⟨some 51, .mv (.t 16), none⟩,
 ⟨some 52, .pu (.bits .and) [.t 50, .t 51], none⟩,
 ⟨some 53, .idx (.c (.s [48, 49, 50, 51, 52, 53, 54, 55, 56, 57, 97, 98, 99, 100, 101, 102, 103, 104, 105, 106, 107, 108, 109, 110, 111, 112, 113, 114, 115, 116, 117, 118, 119, 120, 121, 122])) (.t 52), none⟩,
 ⟨some 54, .iada 1 65 (.t 12) (.t 49), none⟩,
 ⟨none, .store 1 (.t 54) (.t 53), none⟩])
 (.reg [⟨some 55, .mv (.t 1), none⟩,
 ⟨some 56, .mv (.t 14), none⟩,
 ⟨some 57, .pu .shr [.t 55, .t 56], none⟩,
 ⟨some 1, .mv (.t 57), none⟩])))))))
 (.seq (.reg [⟨some 58, .mv (.t 13), none⟩,
 ⟨some 59, .bin .sub (.t 58) (.c (.i .i64 1)), none⟩,
 ⟨some 13, .mv (.t 59), none⟩])
 (.reg [⟨some 60, .mv (.t 13), none⟩,
 ⟨some 61, .mv (.t 1), none⟩,
 ⟨some 62, .idx (.c (.s [48, 49, 50, 51, 52, 53, 54, 55, 56, 57, 97, 98, 99, 100, 101, 102, 103, 104, 105, 106, 107, 108, 109, 110, 111, 112, 113, 114, 115, 116, 117, 118, 119, 120, 121, 122])) (.t 61), none⟩,
 ⟨some 63, .iada 1 65 (.t 12) (.t 60), none⟩,
 ⟨none, .store 1 (.t 63) (.t 62), none⟩]))))))
 (.seq (.reg [⟨some 64, .mv (.t 2), none⟩,
 ⟨some 65, .cvi .u64 (.t 64), none⟩,
 ⟨some 17, .mv (.t 65), none⟩])
 (.seq (.blk 2
 (.loop
 (.seq (.seq (.reg [⟨some 66, .mv (.t 1), none⟩,
 ⟨some 67, .mv (.t 17), none⟩,
 ⟨some 68, .bin .geq (.t 66) (.t 67), none⟩])
 (.cond (.t 68)
 (.skip)
 (.exit 2)))
 (.blk 3
 (.seq (.reg [⟨some 69, .mv (.t 13), none⟩,
 ⟨some 70, .bin .sub (.t 69) (.c (.i .i64 1)), none⟩,
 ⟨some 13, .mv (.t 70), none⟩])
 (.seq (.reg [⟨some 71, .mv (.t 1), none⟩,
 ⟨some 72, .mv (.t 17), none⟩,
 ⟨some 73, .bin .quo (.t 71) (.t 72), none⟩,
 ⟨some 18, .mv (.t 73), none⟩])
 (.seq (.reg [⟨some 74, .mv (.t 13), none⟩,
 ⟨some 75, .mv (.t 1), none⟩,
 ⟨some 76, .mv (.t 18), none⟩,
 ⟨some 77, .mv (.t 17), none⟩,
 ⟨some 78, .bin .mul (.t 76) (.t 77), none⟩,
 ⟨some 79, .bin .sub (.t 75) (.t 78), none⟩,
 ⟨some 80, .idx (.c (.s [48, 49, 50, 51, 52, 53, 54, 55, 56, 57, 97, 98, 99, 100, 101, 102, 103, 104, 105, 106, 107, 108, 109, 110, 111, 112, 113, 114, 115, 116, 117, 118, 119, 120, 121, 122])) (.t 79), none⟩,
 ⟨some 81, .iada 1 65 (.t 12) (.t 74), none⟩,
 ⟨none, .store 1 (.t 81) (.t 80), none⟩])
 (.reg [⟨some 82, .mv (.t 18), none⟩,
 ⟨some 1, .mv (.t 82), none⟩]))))))))
 (.seq (.reg [⟨some 83, .mv (.t 13), none⟩,
 ⟨some 84, .bin .sub (.t 83) (.c (.i .i64 1)), none⟩,
 ⟨some 13, .mv (.t 84), none⟩])
 (.reg [⟨some 85, .mv (.t 13), none⟩,
 ⟨some 86, .mv (.t 1), none⟩,
 ⟨some 87, .idx (.c (.s [48, 49, 50, 51, 52, 53, 54, 55, 56, 57, 97, 98, 99, 100, 101, 102, 103, 104, 105, 106, 107, 108, 109, 110, 111, 112, 113, 114, 115, 116, 117, 118, 119, 120, 121, 122])) (.t 86), none⟩,
 ⟨some 88, .iada 1 65 (.t 12) (.t 85), none⟩,
 ⟨none, .store 1 (.t 88) (.t 87), none⟩]))))))
 (.seq (.seq (.reg [⟨some 89, .mv (.t 3), none⟩])
 (.cond (.t 89)
 (.seq (.reg [⟨some 90, .mv (.t 13), none⟩,
 ⟨some 91, .bin .sub (.t 90) (.c (.i .i64 1)), none⟩,
 ⟨some 13, .mv (.t 91), none⟩])
 (.reg [⟨some 92, .mv (.t 13), none⟩,
 ⟨some 93, .iada 1 65 (.t 12) (.t 92), none⟩,
 ⟨none, .store 1 (.t 93) (.c (.i .u8 45)), none⟩]))
 (.skip)))
 (.seq (.seq (.reg [⟨some 94, .mv (.t 4), none⟩])
 (.cond (.t 94)
 (.seq (.reg [⟨some 95, .mv (.t 0), none⟩,
 ⟨some 96, .mv (.t 13), none⟩,
 ⟨some 97, .pu (.asl 1 65) [.t 12, .t 96], none⟩,
 ⟨some 98, .app 5 1 1 (.t 95) (.t 97), none⟩,
 ⟨some 10, .mv (.t 98), none⟩])
 (.ret))
 (.skip)))
 (.seq (.reg [⟨some 99, .mv (.t 13), none⟩,
 ⟨some 100, .pu (.asl 1 65) [.t 12, .t 99], none⟩,
 ⟨some 101, .cvbs (.t 100), none⟩,
 ⟨some 11, .mv (.t 101), none⟩])
 (.ret)))))))))
theorem is_internal_strconv_formatBits : FnIs Tryd.prog 97 102 [.tmp 10, .tmp 11] c_internal_strconv_formatBits := ⟨⟨_, _, Tryd.func97, rfl, rfl, by kernel_rfl, by kernel_rfl⟩⟩
def c_internal_strconv_isPowerOfTwo : SCode :=
 .seq (.reg [⟨some 2, .mv (.c (.b false)), none⟩])
 (.seq (.reg [⟨some 3, .mv (.t 0), none⟩,
 ⟨some 4, .mv (.t 0), none⟩,
 ⟨some 5, .bin .sub (.t 4) (.c (.i .i64 1)), none⟩,
 ⟨some 6, .pu (.bits .and) [.t 3, .t 5], none⟩,
 ⟨some 7, .bin .eql (.t 6) (.c (.i .i64 0)), none⟩,
 ⟨some 2, .mv (.t 7), none⟩])
 (.ret))
theorem is_internal_strconv_isPowerOfTwo : FnIs Tryd.prog 123 8 [.tmp 2] c_internal_strconv_isPowerOfTwo := ⟨⟨_, _, Tryd.func123, rfl, rfl, by kernel_rfl, by kernel_rfl⟩⟩
end Go.Proofs.YtecphoceobgncaaDoor.Sx
namespace Go.Proofs.YtecphoceobgncaaDoor
open Go.RowKit Sx
theorem getD_get {s : List UInt8} {j : Nat} (hj : j < s.length) : s.getD j 0 = s[j] := by
 rw [List.getD_eq_getElem?_getD, List.getElem?_eq_getElem hj]; rfl
theorem wrap_u64 (n : Int) (h0 : 0 ≤ n) (h1 : n < 18446744073709551616) : IntKind.u64.wrap n = n := by
 simp [IntKind.wrap, IntKind.bits, IntKind.signed]
 omega
section
variable [Tabs Tryd.prog] {objs : List OB} {K : List OB → AV → Prop}
theorem aEqual_k (a b : List UInt8) (ha : a.length ≤ maxLen) (hb : b.length ≤ maxLen) (hk : K objs (.b (eqL a b))) : CallOk Tryd.prog 100 [.s a, .s b] objs K :=
 conv (vs := [.string (S a), .string (S b)]) rfl rfl (fun w => Equal_any (S a) (S b) w (by rw [S_size]; exact ha) (by rw [S_size]; exact hb)) hk
theorem aHex_k (c : UInt8) (hk : K objs (.b (isHex c))) : CallOk Tryd.prog 68 [.i .u8 c.toNat] objs K :=
 convs (vs := [.int .u8 c.toNat]) rfl rfl (fun w => IsHex_any c w) hk
theorem nParse_k (s : List UInt8) (most : Nat) (hs : s.length ≤ maxLen) (hm : most ≤ 18446744073709551615) (hk : K objs (.tup [.i .u64 (numOf isDigit 10 most s).2, .i .i64 (numOf isDigit 10 most s).1])) : CallOk Tryd.prog 77 [.s s, .i .u64 most] objs K :=
 convs (vs := [.string (S s), .int .u64 most]) rfl rfl (fun w => nParse_any (S s) most w (by rw [S_size]; exact hs) (by omega) (by omega)) hk
theorem nHex_k (s : List UInt8) (most : Nat) (hs : s.length ≤ maxLen) (hm : most ≤ 18446744073709551615) (hk : K objs (.tup [.i .u64 (numOf isHex 16 most s).2, .i .i64 (numOf isHex 16 most s).1])) : CallOk Tryd.prog 70 [.s s, .i .u64 most] objs K :=
 convs (vs := [.string (S s), .int .u64 most]) rfl rfl (fun w => nHex_any (S s) most w (by rw [S_size]; exact hs) (by omega) (by omega)) hk
end
end Go.Proofs.YtecphoceobgncaaDoor
namespace Go.Proofs.YtecphoceobgncaaDoor.Sx
open Go.RowKit
theorem arK_mono {k : IntKind} {r : Int} {K K' : Int → Prop} (hk : ∀ v, K v → K' v) (h : arK k r K) : arK k r K' := by
 cases k
 all_goals first | exact hk _ h | exact ⟨h.1, hk _ h.2⟩
theorem binK_mono {op : BinOp} {x y : AV} {K K' : AV → Prop} (hk : ∀ v, K v → K' v) (h : binK op x y K) : binK op x y K' := by
 unfold binK at h ⊢
 split at h
 ·refine ⟨h.1, ?_⟩
  replace h := h.2
  cases op
  all_goals first
   | exact h.elim
   | exact arK_mono (fun _ g => hk _ g) h
   | exact ⟨h.1, arK_mono (fun _ g => hk _ g) h.2⟩
   | exact ⟨h.1, hk _ h.2⟩
   | exact hk _ h
 all_goals
  revert h
  cases op
  all_goals first
   | exact fun h => h.elim
   | exact fun h => ⟨h.1, hk _ h.2⟩
   | exact fun h => hk _ h
section
variable {P : Program} [Tabs P] {C : Cx}
theorem wpS_mono {so : SOp} {objs : List OB} {tm : List AV} {K K' : List OB → AV → Prop} (hk : ∀ o v, K o v → K' o v) (h : wpS P so objs tm K) : wpS P so objs tm K' := by
 cases so
 all_goals simp only [wpS] at h ⊢
 all_goals try exact hk _ _ h
 all_goals try exact ⟨h.1, hk _ _ h.2⟩
 all_goals try exact binK_mono (fun _ g => hk _ _ g) h
 all_goals try exact h.mono hk
 all_goals try exact ⟨h.1, h.2.mono fun _ _ g => ⟨g.1, hk _ _ g.2⟩⟩
 all_goals
  revert h
  repeat' split
  all_goals first
   | exact fun h => h.elim
   | exact fun h => hk _ _ h
   | exact fun h => ⟨h.1, hk _ _ h.2⟩
   | exact fun h => arK_mono (fun _ g => hk _ _ g) h
   | exact fun h => ⟨fun e => hk _ _ (h.1 e), fun e => hk _ _ (h.2 e)⟩
   | exact fun ⟨v, h1, h2⟩ => ⟨v, h1, hk _ _ h2⟩
   | exact fun ⟨h0, l, h1, h2⟩ => ⟨h0, l, h1, hk _ _ h2⟩
   | exact fun h => ⟨h.1, h.2.mono hk⟩
theorem wpR_mono : ∀ {l : List SO} {objs : List OB} {tm : List AV} {K K' : List OB → List AV → Prop}, (∀ o t, K o t → K' o t) → wpR P l objs tm K → wpR P l objs tm K'
 | [], _, _, _, _, hk, h => hk _ _ h
 | ⟨dst, op, none⟩ :: r, _, _, _, _, hk, h => wpS_mono (fun _ _ g => wpR_mono hk g) h
 | ⟨dst, op, some (t, want)⟩ :: r, objs, tm, K, K', hk, h => by
  simp only [wpR] at h ⊢
  revert h
  split
  ·exact fun h => ⟨fun e => wpS_mono (fun _ _ g => wpR_mono hk g) (h.1 e), fun e => wpR_mono hk (h.2 e)⟩
  ·exact fun h => wpR_mono hk h
  ·exact fun h => h.elim
theorem wpD_mono : ∀ {l : List SO} {objs : List OB} {tm : List AV} {K K' : List OB → List AV → Prop}, (∀ o t, K o t → K' o t) → wpD P l objs tm K → wpD P l objs tm K'
 | [], _, _, _, _, hk, h => hk _ _ h
 | ⟨dst, op, none⟩ :: r, _, _, _, _, hk, h => by
  simp only [wpD] at h ⊢
  revert h
  split
  ·exact fun ⟨v, h1, h2⟩ => ⟨v, h1, wpD_mono hk h2⟩
  ·exact fun h => wpS_mono (fun _ _ g => wpD_mono hk g) h
 | ⟨dst, op, some (t, want)⟩ :: r, objs, tm, K, K', hk, h => by
  simp only [wpD] at h ⊢
  revert h
  split
  ·refine fun h => ⟨fun e => ?_, fun e => wpD_mono hk (h.2 e)⟩
   have h1 := h.1 e
   revert h1
   split
   ·exact fun ⟨v, h1, h2⟩ => ⟨v, h1, wpD_mono hk h2⟩
   ·exact fun h => wpS_mono (fun _ _ g => wpD_mono hk g) h
  ·exact fun h => wpD_mono hk h
  ·exact fun h => h.elim
theorem thenK_mono {N N' : List OB → List AV → Prop} {K K' : Post} (hn : ∀ o t, N o t → N' o t) (hk : ∀ e o t, K e o t → K' e o t) : ∀ e o t, thenK N K e o t → thenK N' K' e o t := by
 intro e o t h
 cases e <;> first | exact hn _ _ h | exact hk _ _ _ h
theorem blkK_mono {id : Nat} {K K' : Post} (hk : ∀ e o t, K e o t → K' e o t) : ∀ e o t, blkK id K e o t → blkK id K' e o t := by
 intro e o t h
 cases e
 all_goals try exact hk _ _ _ h
 rename_i i
 unfold blkK at h ⊢
 simp only at h ⊢
 split at h
 ·rename_i g; rw [if_pos g]; exact hk _ _ _ h
 ·rename_i g; rw [if_neg g]; exact hk _ _ _ h
theorem wpC_mono : ∀ (c : SCode) {K K' : Post} {objs : List OB} {tm : List AV}, (∀ e o t, K e o t → K' e o t) → wpC P C c K objs tm → wpC P C c K' objs tm
 | .skip, _, _, _, _, hk, h => hk _ _ _ h
 | .reg l, _, _, _, _, hk, h => wpR_mono (fun _ _ g => hk _ _ _ g) h
 | .drw l k ap, _, _, _, _, hk, h => wpD_mono (fun _ _ g => ⟨g.1, wpR_mono (fun _ _ g => hk _ _ _ g) g.2⟩) h
 | .seq x y, _, _, _, _, hk, h => wpC_mono x (thenK_mono (fun _ _ g => wpC_mono y hk g) hk) h
 | .cond c x y, _, _, _, _, hk, h => by
  simp only [wpC] at h ⊢
  revert h
  split
  ·exact fun h => ⟨fun e => wpC_mono x hk (h.1 e), fun e => wpC_mono y hk (h.2 e)⟩
  ·exact fun h => h.elim
 | .blk id c, _, _, _, _, hk, h => wpC_mono c (blkK_mono hk) h
 | .loop c, _, _, _, _, hk, h => fun c hc => WP.mono (fun e o t g => by cases e <;> first | exact hk _ _ _ g | exact g) (h c hc)
 | .exit id, _, _, _, _, hk, h => hk _ _ _ h
 | .ret, _, _, _, _, hk, h => hk _ _ _ h
 | .dead, _, _, _, _, hk, h => h.elim
def cutF (P : Program) [Tabs P] (C : Cx) (J : List OB → List AV → Prop) (k : List IT) (F : Post) : Post := thenK J (cont P C F k)
variable {F : Post} {k : List IT} {objs : List OB} {tm : List AV}
theorem cutF_normal (J : List OB → List AV → Prop) : cutF P C J k F .normal objs tm = J objs tm := Eq.trans rfl rfl
theorem cutF_ret (J : List OB → List AV → Prop) : cutF P C J k F .ret objs tm = F .ret objs tm := cont_ret k
theorem rn_cut {x : SCode} (J : List OB → List AV → Prop) (h : run P C [.code x] objs tm (cutF P C J k F)) (hJ : ∀ o t, J o t → run P C k o t F) : run P C (.code x :: k) objs tm F :=
 wpC_mono x (fun e o t g => by
  cases e
  ·exact hJ _ _ g
  all_goals exact g) h
end
end Go.Proofs.YtecphoceobgncaaDoor.Sx
namespace Go.Proofs.YtecphoceobgncaaDoor.Sx
open Go.RowKit
section
variable {P : Program} [Tabs P] {C : Cx} {F : Post} {k : List IT} {objs : List OB} {tm : List AV}
theorem rn_hide {x y : SCode} (h : ∀ Y, Y = y → run P C (.code x :: .code Y :: k) objs tm F) : run P C (.code (.seq x y) :: k) objs tm F := h y rfl
end
end Go.Proofs.YtecphoceobgncaaDoor.Sx
namespace Go.Proofs.YtecphoceobgncaaDoor
open Go.RowKit
def addS (a b : Int) : Int := if a + b ≤ 18446744073709551615 then a + b else 18446744073709551615
theorem Add_any (a b : Int) (w : World) (ha : 0 ≤ a) (hb : 0 ≤ b) (ha1 : a ≤ 18446744073709551615) (hb1 : b ≤ 18446744073709551615) :
  Calls Tryd.prog 39 #[.int .u64 a, .int .u64 b] w fun e w' => e = .returned (.int .u64 (addS a b)) ∧ w = w' := by
 go_enter Tryd.func39, Tryd.ntmps39
 go_wp2
 all_goals go_ret
 all_goals exact ⟨ret_int (by unfold addS; split <;> omega), rfl⟩
end Go.Proofs.YtecphoceobgncaaDoor
namespace Go.Proofs.YtecphoceobgncaaDoor
open List renaming replicate → z6
open Nat renaming reduceAdd → z7, reduceSub → z8, reduceLeDiff → j2, reduceLT → j3, reduceMul → j4, reduceEqDiff → j5
open Int renaming reduceToNat → j6, reduceAdd → j7, reduceSub → j8, reduceMul → j9, reduceNeg → x0, reduceLT → x3, reduceLE → x4, reduceEq → x5, reduceNe → x6
open Go.RowKit Sx
class Brn (P : Program) [Tabs P] : Prop where
 br : ∀ w : World, Tabs.T (P := P) w → w.cell? ⟨5, 15, none⟩ = some (.int .u8 4)
theorem tz64_any (w : World) (h : w.cell? ⟨5, 15, none⟩ = some (.int .u8 4)) :
  Calls Tryd.prog 158 #[.int .u64 16] w fun e w' => e = .returned (.int .i64 4) ∧ w = w' := by
 have h' : w.cell? ⟨5, (IntKind.u64.wrap (bits BinOp.and IntKind.u64 16 (IntKind.u64.wrap (-16)) * 285870213051353865) / 288230376151711744).toNat, none⟩ = some (.int .u8 4) := by
  rw [show (IntKind.u64.wrap (bits BinOp.and IntKind.u64 16 (IntKind.u64.wrap (-16)) * 285870213051353865) / 288230376151711744).toNat = 15 by decide +kernel]
  exact h
 go_enter Tryd.func158, Tryd.ntmps158
 go_wp2_with fail
 go_ret
 exact ⟨rfl, rfl⟩
theorem tz_any (w : World) (h : w.cell? ⟨5, 15, none⟩ = some (.int .u8 4)) :
  Calls Tryd.prog 124 #[.int .u64 16] w fun e w' => e = .returned (.int .i64 4) ∧ w = w' := by
 go_enter Tryd.func124, Tryd.ntmps124
 go_wp2_with (go_at_call 158; refine (tz64_any w h).mono ?_; rintro e w' ⟨rfl, rfl⟩)
 go_ret
 exact ⟨rfl, rfl⟩
def digs36 : List UInt8 := [48, 49, 50, 51, 52, 53, 54, 55, 56, 57, 97, 98, 99, 100, 101, 102, 103, 104, 105, 106, 107, 108, 109, 110, 111, 112, 113, 114, 115, 116, 117, 118, 119, 120, 121, 122]
theorem digs36_16 : ∀ n : Fin 16, digs36.getD n.val 0 = hexc n.val := by decide +kernel
theorem and15' {v : Nat} (h : v < 4096) : IntKind.u64.wrap (((BitVec.ofInt IntKind.u64.bits ((v : Nat) : Int) &&& BitVec.ofInt IntKind.u64.bits 15).toNat : Nat) : Int) = ((v % 16 : Nat) : Int) := by
 have h1 : (BitVec.ofInt 64 ((v : Nat) : Int)).toNat = v := by rw [BitVec.toNat_ofInt]; omega
 have h2 : (BitVec.ofInt 64 15).toNat = 15 := by decide
 have h3 := Nat.and_two_pow_sub_one_eq_mod v 4
 have e : (BitVec.ofInt IntKind.u64.bits ((v : Nat) : Int) &&& BitVec.ofInt IntKind.u64.bits 15).toNat = v % 16 := by
  show (BitVec.ofInt 64 ((v : Nat) : Int) &&& BitVec.ofInt 64 15).toNat = v % 16
  rw [BitVec.toNat_and, h1, h2]
  exact h3
 rw [e, wrap_u64 _ (by omega) (by omega)]
theorem shr4 (v : Nat) : ((v : Nat) : Int).fdiv (2 ^ (min 4 IntKind.u64.bits)) = ((v / 16 : Nat) : Int) := by
 rw [show (2 ^ (min 4 IntKind.u64.bits) : Int) = 16 from by decide, Int.fdiv_eq_ediv_of_nonneg _ (by omega)]
 omega
theorem biv {x y : Int} {k : IntKind} (h : x = y) : (some (AV.i k x) : Option AV) = some (.i k y) := by rw [h]
theorem box_store (z x : AV) (ds : List AV) (m : Nat) : splice (List.replicate (m + 1) z ++ ds) m [x] = List.replicate m z ++ x :: ds := by
 unfold splice
 have e1 : List.replicate (m + 1) z ++ ds = List.replicate m z ++ z :: ds := by
  rw [List.replicate_succ', List.append_assoc]; rfl
 rw [e1, List.take_left' (by simp), List.length_singleton, ← List.drop_drop, List.drop_left' (by simp)]
 simp
section
variable [Tabs Tryd.prog] [Brn Tryd.prog] {objs : List OB} {K : List OB → AV → Prop}
theorem tz_k (hk : K objs (.i .i64 4)) : CallOk Tryd.prog 124 [.i .u64 16] objs K :=
 convT (vs := [.int .u64 16]) rfl rfl (fun w hT => (tz_any w (Brn.br w hT)).mono (by rintro e w' ⟨rfl, rfl⟩; exact ⟨rfl, Qb.refl _⟩)) hk
omit [Brn Tryd.prog] in
set_option maxRecDepth 100000 in
theorem pow2_k (hk : K objs (.b true)) : CallOk Tryd.prog 123 [.i .i64 16] objs K := by
 refine fn_rn is_internal_strconv_isPowerOfTwo rfl fun C _ => ?_
 simp only [c_internal_strconv_isPowerOfTwo, sxZ, evs, evp, setd, SV.ev, AV.flat, AV.one, AV.cells, resAs, resA, tupA, pub, pubs, AV.plain, plains, srcOf, splice, fillA, eqA, eqAs, z6, z7, z8, j2, j3, j4, j5, j6, j7, j8, j9, x0, x3, x4, x5, x6, reduceCtorEq, ↓reduceIte]
 rw [show (decide (IntKind.i64.wrap ((BitVec.ofInt IntKind.i64.bits 16 &&& BitVec.ofInt IntKind.i64.bits 15).toNat : Int) = 0)) = true by decide]
 exact hk
set_option maxRecDepth 100000 in
theorem fmtBits_k (u : Nat) (hu : u < 4096) (hk : K objs (.tup [.nil, .s (hexL u)])) : CallOk Tryd.prog 97 [.nil, .i .u64 u, .i .i64 16, .b false, .b false] objs K := by
 refine fn_rn is_internal_strconv_formatBits rfl fun C _ => ?_
 have w15 : IntKind.wrap .u64 15 = 15 := by decide
 have w16 : IntKind.wrap .u64 16 = 16 := by decide
 have w4 : IntKind.wrap .u64 4 = 4 := by decide
 simp only [c_internal_strconv_formatBits, sxZ, evs, evp, setd, SV.ev, AV.flat, AV.one, AV.cells, resAs, resA, tupA, pub, pubs, AV.plain, plains, srcOf, splice, fillA, eqA, eqAs, z6, z7, z8, j2, j3, j4, j5, j6, j7, j8, j9, x0, x3, x4, x5, x6, reduceCtorEq, ↓reduceIte]
 refine kcall (pow2_k ?_)
 simp only [sxZ, evs, evp, setd, SV.ev, AV.flat, AV.one, AV.cells, resAs, resA, tupA, pub, pubs, AV.plain, plains, srcOf, splice, fillA, eqA, eqAs, z6, z7, z8, j2, j3, j4, j5, j6, j7, j8, j9, x0, x3, x4, x5, x6, reduceCtorEq, ↓reduceIte, w16]
 refine kcall (tz_k ?_)
 simp only [sxZ, evs, evp, setd, SV.ev, AV.flat, AV.one, AV.cells, resAs, resA, tupA, pub, pubs, AV.plain, plains, srcOf, splice, fillA, eqA, eqAs, z6, z7, z8, j2, j3, j4, j5, j6, j7, j8, j9, x0, x3, x4, x5, x6, reduceCtorEq, ↓reduceIte, w16, w15, w4]
 refine rn_loop (fun n objs tm => ∃ ds : List UInt8, hexL u = hexL n ++ ds ∧ n < 4096 ∧ objs = [.box 173 (List.replicate (65 - ds.length) (.i .u8 0) ++ byA ds)] ∧ tm.length = 102 ∧ tm[1]? = some (.i .u64 n) ∧ tm[3]? = some (.b false) ∧ tm[4]? = some (.b false) ∧ tm[10]? = some .nil ∧ tm[12]? = some (.p 0 0) ∧ tm[13]? = some (.i .i64 ((65 - ds.length : Nat) : Int)) ∧ tm[14]? = some (.i .u64 4) ∧ tm[15]? = some (.i .u64 16) ∧ tm[16]? = some (.i .u64 15)) u ⟨[], by simp, hu, rfl, rfl, rfl, rfl, rfl, rfl, rfl, rfl, rfl, rfl, rfl⟩ ?_
 rintro v _ tm ⟨ds, hv, hv4, rfl, hlen, t1, t3, t4, t10, t12, t13, t14, t15, t16⟩
 have hl3 := hexL_len hu
 have hdl : ds.length + (hexL v).length ≤ 3 := by rw [hv, List.length_append] at hl3; omega
 have hvl : 0 < (hexL v).length := List.length_pos_iff.2 (hexL_ne v)
 have hm1 : ((65 - ds.length : Nat) : Int) - 1 = ((64 - ds.length : Nat) : Int) := by omega
 have hrep : 65 - ds.length = (64 - ds.length) + 1 := by omega
 have hbl : (byA ds).length = ds.length := byA_len ds
 have hbox : ∀ x : AV, List.take (0 + (64 - ds.length) * 1) (List.replicate (65 - ds.length) (AV.i IntKind.u8 0) ++ byA ds) ++ [x] ++ List.drop (0 + (64 - ds.length) * 1 + 1) (List.replicate (65 - ds.length) (AV.i IntKind.u8 0) ++ byA ds) = List.replicate (64 - ds.length) (AV.i IntKind.u8 0) ++ x :: byA ds := by
  intro x
  rw [hrep, Nat.zero_add, Nat.mul_one]
  exact box_store _ x (byA ds) (64 - ds.length)
 by_cases c1 : (16 : Int) ≤ (v : Nat)
 ·have hg : digs36.getD (v % 16) 0 = hexc (v % 16) := digs36_16 ⟨v % 16, by omega⟩
  unfold digs36 at hg
  have hstep : hexL v = hexL (v / 16) ++ [hexc (v % 16)] := by rw [hexL, dif_neg (by omega)]
  simp only [sxZ, evs, evp, setd, SV.ev, AV.flat, AV.one, AV.cells, resAs, resA, tupA, pub, pubs, AV.plain, plains, srcOf, splice, fillA, eqA, eqAs, z6, z7, z8, j2, j3, j4, j5, j6, j7, j8, j9, x0, x3, x4, x5, x6, reduceCtorEq, ↓reduceIte, List.getElem?_set, hlen, t1, t3, t4, t10, t12, t13, t14, t15, t16, c1, hm1, and15' hv4, Int.toNat_natCast, hg, shr4]
  refine ⟨by omega, by omega, by omega, by omega, v / 16, by omega, hexc (v % 16) :: ds, by rw [hv, hstep]; simp, by omega, ?_, rfl, biv (by rw [List.length_cons]; omega)⟩
  rw [hbox, List.length_cons, show 65 - (ds.length + 1) = 64 - ds.length by omega]
  rfl
 ·simp only [sxZ, evs, evp, setd, SV.ev, AV.flat, AV.one, AV.cells, resAs, resA, tupA, pub, pubs, AV.plain, plains, srcOf, splice, fillA, eqA, eqAs, z6, z7, z8, j2, j3, j4, j5, j6, j7, j8, j9, x0, x3, x4, x5, x6, reduceCtorEq, ↓reduceIte, List.getElem?_set, hlen, t1, t3, t4, t10, t12, t13, t14, t15, t16, c1, hm1, Int.toNat_natCast]
  refine ⟨by omega, by omega, by omega, by omega, by omega, ?_⟩
  have hg : digs36.getD v 0 = hexc v := digs36_16 ⟨v, by omega⟩
  unfold digs36 at hg
  rw [hg, hbox]
  rw [hexL_len' (n := v) (by omega)] at hv
  refine kCb3_b _ _ _ _ (hexL u) ?_ ?_ ?_
  ·rw [hv, Nat.zero_add, Nat.mul_one, List.drop_left' (by simp), show 65 - (64 - ds.length) = (byA ds).length + 1 by omega]
   exact List.take_of_length_le (by simp)
  ·rw [hv]; simp; omega
  ·simp only [sxZ, evs, evp, setd, SV.ev, AV.flat, AV.one, AV.cells, resAs, resA, tupA, pub, pubs, AV.plain, plains, srcOf, splice, fillA, eqA, eqAs, z6, z7, z8, j2, j3, j4, j5, j6, j7, j8, j9, x0, x3, x4, x5, x6, reduceCtorEq, ↓reduceIte, List.getElem?_set, hlen, t10]
   exact hk
set_option maxRecDepth 100000 in
theorem fmtIn_k (u : Nat) (hu : u < 4096) (hk : K objs (.s (hexL u))) : CallOk Tryd.prog 67 [.i .i64 u, .i .i64 16] objs K := by
 refine fn_rn is_internal_strconv_FormatInt rfl fun C _ => ?_
 simp only [c_internal_strconv_FormatInt, sxZ, evs, evp, setd, SV.ev, AV.flat, AV.one, AV.cells, resAs, resA, tupA, pub, pubs, AV.plain, plains, srcOf, splice, fillA, eqA, eqAs, z6, z7, z8, j2, j3, j4, j5, j6, j7, j8, j9, x0, x3, x4, x5, x6, reduceCtorEq, ↓reduceIte, wrap_u64 ((u : Nat) : Int) (by omega) (by omega), decide_eq_false (show ¬ ((u : Nat) : Int) < 0 by omega)]
 refine kcall (fmtBits_k u hu ?_)
 simp only [sxZ, evs, evp, setd, SV.ev, AV.flat, AV.one, AV.cells, resAs, resA, tupA, pub, pubs, AV.plain, plains, srcOf, splice, fillA, eqA, eqAs, z6, z7, z8, j2, j3, j4, j5, j6, j7, j8, j9, x0, x3, x4, x5, x6, reduceCtorEq, ↓reduceIte]
 first | exact hk
set_option maxRecDepth 100000 in
theorem fmtHex_k (u : Nat) (hu : u < 4096) (hk : K objs (.s (hexL u))) : CallOk Tryd.prog 36 [.i .i64 u, .i .i64 16] objs K := by
 refine fn_rn is_strconv_FormatInt rfl fun C _ => ?_
 simp only [c_strconv_FormatInt, sxZ, evs, evp, setd, SV.ev, AV.flat, AV.one, AV.cells, resAs, resA, tupA, pub, pubs, AV.plain, plains, srcOf, splice, fillA, eqA, eqAs, z6, z7, z8, j2, j3, j4, j5, j6, j7, j8, j9, x0, x3, x4, x5, x6, reduceCtorEq, ↓reduceIte]
 refine kcall (fmtIn_k u hu ?_)
 simp only [sxZ, evs, evp, setd, SV.ev, AV.flat, AV.one, AV.cells, resAs, resA, tupA, pub, pubs, AV.plain, plains, srcOf, splice, fillA, eqA, eqAs, z6, z7, z8, j2, j3, j4, j5, j6, j7, j8, j9, x0, x3, x4, x5, x6, reduceCtorEq, ↓reduceIte]
 first | exact hk
end
section
attribute [local irreducible] run
theorem crlf_c1 (c : UInt8) (l : List UInt8) (h : ¬ c = 13) : crlfE (c :: l) = 190 := by unfold crlfE; exact if_neg h
theorem crlf_c3 (d : UInt8) (l : List UInt8) (h : ¬ d = 10) : crlfE (13 :: d :: l) = 190 := by unfold crlfE; simp [h]
theorem crlf_at0 {s : List UInt8} {a : Nat} (h : s.length ≤ a) : crlfE (s.drop a) = 191 := by rw [List.drop_eq_nil_of_le h]; rfl
theorem crlf_at1 {s : List UInt8} {a : Nat} (h : a < s.length) (h1 : ¬ s[a] = 13) : crlfE (s.drop a) = 190 := by rw [List.drop_eq_getElem_cons h]; exact crlf_c1 _ _ h1
theorem crlf_at2 {s : List UInt8} {a : Nat} (h : a < s.length) (h1 : s[a] = 13) (h2 : s.length ≤ a + 1) : crlfE (s.drop a) = 191 := by rw [List.drop_eq_getElem_cons h, List.drop_eq_nil_of_le h2, h1]; rfl
theorem crlf_at3 {s : List UInt8} {a : Nat} (h : a < s.length) (h1 : s[a] = 13) (h2 : a + 1 < s.length) (h3 : ¬ s[a + 1] = 10) : crlfE (s.drop a) = 190 := by rw [List.drop_eq_getElem_cons h, List.drop_eq_getElem_cons h2, h1]; exact crlf_c3 _ _ h3
theorem crlf_at4 {s : List UInt8} {a : Nat} (h : a < s.length) (h1 : s[a] = 13) (h2 : a + 1 < s.length) (h3 : s[a + 1] = 10) : crlfE (s.drop a) = 0 := by rw [List.drop_eq_getElem_cons h, List.drop_eq_getElem_cons h2, h1, h3]; rfl
theorem byte_is (c d : UInt8) : (((c.toNat : Nat) : Int) = ((d.toNat : Nat) : Int)) ↔ c = d := by
 constructor
 ·intro h; apply UInt8.toNat_inj.1; omega
 ·rintro rfl; rfl
theorem lt_at (s : List UInt8) (i : Nat) (h : i < s.length) : lineT (s.drop i) = if isLt s[i] = true then s[i] :: lineT (s.drop (i + 1)) else [] := by
 unfold lineT
 rw [List.drop_eq_getElem_cons h, List.takeWhile_cons]
theorem isLt_nat (c : UInt8) : isLt c = (decide (¬ ((c.toNat : Nat) : Int) = 13) && decide (¬ ((c.toNat : Nat) : Int) = 10)) := by
 have h1 := byte_is c 13
 have h2 := byte_is c 10
 have e1 : (((13 : UInt8).toNat : Nat) : Int) = 13 := rfl
 have e2 : (((10 : UInt8).toNat : Nat) : Int) = 10 := rfl
 rw [e1] at h1; rw [e2] at h2
 unfold isLt
 rw [Bool.eq_iff_iff]
 simp [h1, h2]
theorem lineT_le (l : List UInt8) : (lineT l).length ≤ l.length := by have := lineR_len l; omega
theorem lineR_at (s : List UInt8) (i : Nat) : lineR (s.drop i) = s.drop (i + (lineT (s.drop i)).length) := by
 have h := List.takeWhile_append_dropWhile (p := isLt) (l := s.drop i)
 have h2 : (s.drop i).drop (lineT (s.drop i)).length = lineR (s.drop i) := by
  unfold lineT lineR
  conv => lhs; arg 2; rw [← h]
  rw [List.drop_left]
 rw [← h2, List.drop_drop]
theorem hex_at (s : List UInt8) (i : Nat) (h : i < s.length) : (s.drop i).takeWhile isHex = if isHex s[i] = true then s[i] :: (s.drop (i + 1)).takeWhile isHex else [] := by
 rw [List.drop_eq_getElem_cons h, List.takeWhile_cons]
theorem hexR_at (s : List UInt8) (i : Nat) : (s.drop i).dropWhile isHex = s.drop (i + ((s.drop i).takeWhile isHex).length) := by
 have h := List.takeWhile_append_dropWhile (p := isHex) (l := s.drop i)
 have h2 : (s.drop i).drop ((s.drop i).takeWhile isHex).length = (s.drop i).dropWhile isHex := by
  conv => lhs; arg 2; rw [← h]
  rw [List.drop_left]
 rw [← h2, List.drop_drop]
theorem hexT_at (s : List UInt8) (i : Nat) : (s.drop i).takeWhile isHex = (s.drop i).take ((s.drop i).takeWhile isHex).length := by
 have h := List.takeWhile_append_dropWhile (p := isHex) (l := s.drop i)
 conv => rhs; arg 2; rw [← h]
 rw [List.take_left]
theorem drop_take_len (s : List UInt8) (a k : Nat) : List.drop a (List.take (a + k) s) = (s.drop a).take k := by
 rw [List.drop_take, Nat.add_sub_cancel_left]
theorem trail_fuel : ∀ (n m : Nat) (l : List UInt8), l.length < n → l.length < m → trailE n l = trailE m l
 | 0, _, _, h, _ => by omega
 | _, 0, _, _, h => by omega
 | n + 1, m + 1, l, h1, h2 => by
  rw [trailE, trailE]
  by_cases c1 : crlfE (lineR l) = 0
  ·rw [if_pos c1, if_pos c1]
   by_cases c2 : lineT l = []
   ·rw [if_pos c2, if_pos c2]
   ·rw [if_neg c2, if_neg c2]
    have h3 := crlf_len c1
    have h4 := lineR_len l
    exact trail_fuel n m _ (by rw [List.length_drop]; omega) (by rw [List.length_drop]; omega)
  ·rw [if_neg c1, if_neg c1]
theorem chunk_fuel (most : Int) : ∀ (n m tot : Nat) (l : List UInt8), l.length < n → l.length < m → chunkE most n tot l = chunkE most m tot l
 | 0, _, _, _, h, _ => by omega
 | _, 0, _, _, _, h => by omega
 | n + 1, m + 1, tot, l, h1, h2 => by
  rw [chunkE, chunkE]
  by_cases c0 : (sizeE l).1 = 0
  ·have h3 := sizeE_len l c0
   rw [chunk_fuel most n m _ _ (by rw [List.length_drop]; omega) (by rw [List.length_drop]; omega)]
  ·rw [if_neg c0, if_neg c0]
section
variable [Tabs Tryd.prog] {objs : List OB} {K : List OB → AV → Prop}
set_option maxRecDepth 100000 in
theorem cle_k (s : List UInt8) (a : Nat) (ha : a ≤ s.length) (hs : s.length ≤ 9000000000000000000) (hk : K objs (.i .i64 (crlfE (s.drop a)))) : CallOk Tryd.prog 40 [.s s, .i .i64 (a : Nat)] objs K := by
 refine fn_rn is_body_checkLineEnd rfl fun C _ => ?_
 simp only [c_body_checkLineEnd, sxZ, evs, evp, setd, SV.ev, AV.flat, AV.one, AV.cells, resAs, resA, tupA, pub, pubs, AV.plain, plains, srcOf, splice, fillA, eqA, eqAs, z6, z7, z8, j2, j3, j4, j5, j6, j7, j8, j9, x0, x3, x4, x5, x6, reduceCtorEq, ↓reduceIte]
 have e0 : ((a : Nat) : Int) + 0 = (a : Nat) := by omega
 have e1 : ((a : Nat) : Int) + 1 = ((a + 1 : Nat) : Int) := by omega
 refine rn_loop (fun n objs tm => objs = [] ∧ tm.length = 24 ∧ tm[0]? = some (.s s) ∧ tm[1]? = some (.i .i64 (a : Nat)) ∧ ((n = 2 ∧ tm[6]? = some (.i .i64 0)) ∨ (n = 1 ∧ tm[6]? = some (.i .i64 1) ∧ ∃ h : a < s.length, s[a] = 13) ∨ (n = 0 ∧ tm[6]? = some (.i .i64 2) ∧ crlfE (s.drop a) = 0))) 2 ⟨rfl, rfl, rfl, rfl, .inl ⟨rfl, rfl⟩⟩ ?_
 rintro n _ tm ⟨rfl, hlen, t0, t1, h⟩
 rcases h with ⟨rfl, t6⟩ | ⟨rfl, t6, hlt, h13⟩ | ⟨rfl, t6, h0⟩
 ·by_cases c1 : ((s.length : Nat) : Int) ≤ (a : Nat)
  ·rw [crlf_at0 (by omega)] at hk
   simp only [sxZ, evs, evp, setd, SV.ev, AV.flat, AV.one, AV.cells, resAs, resA, tupA, pub, pubs, AV.plain, plains, srcOf, splice, fillA, eqA, eqAs, z6, z7, z8, j2, j3, j4, j5, j6, j7, j8, j9, x0, x3, x4, x5, x6, reduceCtorEq, ↓reduceIte, List.getElem?_set, hlen, t0, t1, t6, e0, c1]
   exact ⟨by omega, hk⟩
  ·have hlt : a < s.length := by omega
   have hg := getD_get hlt
   by_cases c2 : (((s[a]).toNat : Nat) : Int) = (((13 : UInt8).toNat : Nat) : Int)
   ·simp only [sxZ, evs, evp, setd, SV.ev, AV.flat, AV.one, AV.cells, resAs, resA, tupA, pub, pubs, AV.plain, plains, srcOf, splice, fillA, eqA, eqAs, z6, z7, z8, j2, j3, j4, j5, j6, j7, j8, j9, x0, x3, x4, x5, x6, reduceCtorEq, ↓reduceIte, List.getElem?_set, hlen, t0, t1, t6, e0, c1, Int.toNat_natCast, hg, List.getD_cons_zero, c2]
    exact ⟨by omega, by omega, ⟨by omega, by omega⟩, by omega, 1, by omega, .inr (.inl ⟨rfl, hlt, (byte_is _ _).1 c2⟩)⟩
   ·rw [crlf_at1 hlt (fun e => c2 (by rw [e]))] at hk
    simp only [sxZ, evs, evp, setd, SV.ev, AV.flat, AV.one, AV.cells, resAs, resA, tupA, pub, pubs, AV.plain, plains, srcOf, splice, fillA, eqA, eqAs, z6, z7, z8, j2, j3, j4, j5, j6, j7, j8, j9, x0, x3, x4, x5, x6, reduceCtorEq, ↓reduceIte, List.getElem?_set, hlen, t0, t1, t6, e0, c1, Int.toNat_natCast, hg, List.getD_cons_zero, c2]
    exact ⟨by omega, by omega, ⟨by omega, by omega⟩, by omega, hk⟩
 ·by_cases c1 : ((s.length : Nat) : Int) ≤ ((a + 1 : Nat) : Int)
  ·rw [crlf_at2 hlt h13 (by omega)] at hk
   simp only [sxZ, evs, evp, setd, SV.ev, AV.flat, AV.one, AV.cells, resAs, resA, tupA, pub, pubs, AV.plain, plains, srcOf, splice, fillA, eqA, eqAs, z6, z7, z8, j2, j3, j4, j5, j6, j7, j8, j9, x0, x3, x4, x5, x6, reduceCtorEq, ↓reduceIte, List.getElem?_set, hlen, t0, t1, t6, e1, c1]
   exact ⟨by omega, hk⟩
  ·have hlt2 : a + 1 < s.length := by omega
   have hg := getD_get hlt2
   by_cases c2 : (((s[a + 1]).toNat : Nat) : Int) = (((10 : UInt8).toNat : Nat) : Int)
   ·simp only [sxZ, evs, evp, setd, SV.ev, AV.flat, AV.one, AV.cells, resAs, resA, tupA, pub, pubs, AV.plain, plains, srcOf, splice, fillA, eqA, eqAs, z6, z7, z8, j2, j3, j4, j5, j6, j7, j8, j9, x0, x3, x4, x5, x6, reduceCtorEq, ↓reduceIte, List.getElem?_set, hlen, t0, t1, t6, e1, c1, Int.toNat_natCast, hg, List.getD_cons_zero, List.getD_cons_succ, c2]
    exact ⟨by omega, by omega, ⟨by omega, by omega⟩, by omega, 0, by omega, .inr (.inr ⟨rfl, crlf_at4 hlt h13 hlt2 ((byte_is _ _).1 c2)⟩)⟩
   ·rw [crlf_at3 hlt h13 hlt2 (fun e => c2 (by rw [e]))] at hk
    simp only [sxZ, evs, evp, setd, SV.ev, AV.flat, AV.one, AV.cells, resAs, resA, tupA, pub, pubs, AV.plain, plains, srcOf, splice, fillA, eqA, eqAs, z6, z7, z8, j2, j3, j4, j5, j6, j7, j8, j9, x0, x3, x4, x5, x6, reduceCtorEq, ↓reduceIte, List.getElem?_set, hlen, t0, t1, t6, e1, c1, Int.toNat_natCast, hg, List.getD_cons_zero, List.getD_cons_succ, c2]
    exact ⟨by omega, by omega, ⟨by omega, by omega⟩, by omega, hk⟩
 ·rw [h0] at hk
  simp only [sxZ, evs, evp, setd, SV.ev, AV.flat, AV.one, AV.cells, resAs, resA, tupA, pub, pubs, AV.plain, plains, srcOf, splice, fillA, eqA, eqAs, z6, z7, z8, j2, j3, j4, j5, j6, j7, j8, j9, x0, x3, x4, x5, x6, reduceCtorEq, ↓reduceIte, List.getElem?_set, hlen, t0, t1, t6]
  exact hk
set_option maxRecDepth 100000 in
theorem lte_k (s : List UInt8) (a : Nat) (ha : a ≤ s.length) (hs : s.length ≤ 9000000000000000000) (hk : K objs (.i .i64 ((a + (lineT (s.drop a)).length : Nat) : Int))) : CallOk Tryd.prog 69 [.s s, .i .i64 (a : Nat)] objs K := by
 refine fn_rn is_body_lineTextEnd rfl fun C _ => ?_
 simp only [c_body_lineTextEnd, sxZ, evs, evp, setd, SV.ev, AV.flat, AV.one, AV.cells, resAs, resA, tupA, pub, pubs, AV.plain, plains, srcOf, splice, fillA, eqA, eqAs, z6, z7, z8, j2, j3, j4, j5, j6, j7, j8, j9, x0, x3, x4, x5, x6, reduceCtorEq, ↓reduceIte]
 refine rn_loop (fun n objs tm => ∃ i : Nat, i ≤ s.length ∧ n = s.length - i ∧ objs = [] ∧ a + (lineT (s.drop a)).length = i + (lineT (s.drop i)).length ∧ tm.length = 24 ∧ tm[0]? = some (.s s) ∧ tm[1]? = some (.i .i64 i)) (s.length - a) ⟨a, ha, rfl, rfl, rfl, rfl, rfl, rfl⟩ ?_
 rintro n _ tm ⟨i, hi, rfl, rfl, hr, hlen, t0, t1⟩
 by_cases hlt : (i : Int) < s.length
 ·have hlt' : i < s.length := by omega
  have hg := getD_get hlt'
  have hrn := lt_at s i hlt'
  rw [isLt_nat] at hrn
  by_cases c1 : (((s[i]).toNat : Nat) : Int) = 13
  ·rw [if_neg (by simp [c1])] at hrn
   simp only [sxZ, evs, evp, setd, SV.ev, AV.flat, AV.one, AV.cells, resAs, resA, tupA, pub, pubs, AV.plain, plains, srcOf, splice, fillA, eqA, eqAs, z6, z7, z8, j2, j3, j4, j5, j6, j7, j8, j9, x0, x3, x4, x5, x6, reduceCtorEq, ↓reduceIte, List.getElem?_set, hlen, t0, t1, hlt, Int.toNat_natCast, hg, c1]
   rw [hr, hrn] at hk
   exact ⟨by omega, hk⟩
  ·by_cases c2 : (((s[i]).toNat : Nat) : Int) = 10
   ·rw [if_neg (by simp [c2])] at hrn
    simp only [sxZ, evs, evp, setd, SV.ev, AV.flat, AV.one, AV.cells, resAs, resA, tupA, pub, pubs, AV.plain, plains, srcOf, splice, fillA, eqA, eqAs, z6, z7, z8, j2, j3, j4, j5, j6, j7, j8, j9, x0, x3, x4, x5, x6, reduceCtorEq, ↓reduceIte, List.getElem?_set, hlen, t0, t1, hlt, Int.toNat_natCast, hg, c1, c2]
    rw [hr, hrn] at hk
    exact ⟨by omega, by omega, hk⟩
   ·rw [if_pos (by simp [c1, c2])] at hrn
    rw [hrn, List.length_cons] at hr
    simp only [sxZ, evs, evp, setd, SV.ev, AV.flat, AV.one, AV.cells, resAs, resA, tupA, pub, pubs, AV.plain, plains, srcOf, splice, fillA, eqA, eqAs, z6, z7, z8, j2, j3, j4, j5, j6, j7, j8, j9, x0, x3, x4, x5, x6, reduceCtorEq, ↓reduceIte, List.getElem?_set, hlen, t0, t1, hlt, Int.toNat_natCast, hg, c1, c2]
    exact ⟨by omega, by omega, ⟨by omega, by omega⟩, _, by omega, i + 1, by omega, rfl, by omega, rfl⟩
 ·obtain rfl : i = s.length := by omega
  have he : (lineT (s.drop s.length)).length = 0 := by rw [List.drop_length]; rfl
  simp only [sxZ, evs, evp, setd, SV.ev, AV.flat, AV.one, AV.cells, resAs, resA, tupA, pub, pubs, AV.plain, plains, srcOf, splice, fillA, eqA, eqAs, z6, z7, z8, j2, j3, j4, j5, j6, j7, j8, j9, x0, x3, x4, x5, x6, reduceCtorEq, ↓reduceIte, List.getElem?_set, hlen, t0, t1, hlt]
  rw [hr, he] at hk
  exact hk
set_option maxRecDepth 100000 in
theorem trailer_k (s : List UInt8) (a : Nat) (ha : a ≤ s.length) (hs : s.length ≤ 4000000000000000000) (hk : K objs (.i .i64 (trailE ((s.drop a).length + 1) (s.drop a)))) : CallOk Tryd.prog 41 [.s s, .i .i64 (a : Nat)] objs K := by
 refine fn_rn is_body_checkTrailer rfl fun C _ => ?_
 simp only [c_body_checkTrailer, sxZ, evs, evp, setd, SV.ev, AV.flat, AV.one, AV.cells, resAs, resA, tupA, pub, pubs, AV.plain, plains, srcOf, splice, fillA, eqA, eqAs, z6, z7, z8, j2, j3, j4, j5, j6, j7, j8, j9, x0, x3, x4, x5, x6, reduceCtorEq, ↓reduceIte]
 refine rn_loop (fun n objs tm => ∃ i : Nat, i ≤ s.length ∧ n = s.length - i ∧ objs = [] ∧ trailE ((s.drop a).length + 1) (s.drop a) = trailE ((s.drop i).length + 1) (s.drop i) ∧ tm.length = 23 ∧ tm[0]? = some (.s s) ∧ tm[1]? = some (.i .i64 i)) (s.length - a) ⟨a, ha, rfl, rfl, rfl, rfl, rfl, rfl⟩ ?_
 rintro n _ tm ⟨i, hi, rfl, rfl, hr, hlen, t0, t1⟩
 simp only [sxZ, evs, evp, setd, SV.ev, AV.flat, AV.one, AV.cells, resAs, resA, tupA, pub, pubs, AV.plain, plains, srcOf, splice, fillA, eqA, eqAs, z6, z7, z8, j2, j3, j4, j5, j6, j7, j8, j9, x0, x3, x4, x5, x6, reduceCtorEq, ↓reduceIte, List.getElem?_set, hlen, t0, t1]
 refine kcall (lte_k s i hi (by omega) ?_)
 have hle := lineT_le (s.drop i)
 rw [List.length_drop] at hle
 simp only [sxZ, evs, evp, setd, SV.ev, AV.flat, AV.one, AV.cells, resAs, resA, tupA, pub, pubs, AV.plain, plains, srcOf, splice, fillA, eqA, eqAs, z6, z7, z8, j2, j3, j4, j5, j6, j7, j8, j9, x0, x3, x4, x5, x6, reduceCtorEq, ↓reduceIte, List.getElem?_set, hlen, t0, t1]
 refine kcall (cle_k s (i + (lineT (s.drop i)).length) (by omega) (by omega) ?_)
 have hr2 : trailE ((s.drop i).length + 1) (s.drop i) = if crlfE (s.drop (i + (lineT (s.drop i)).length)) = 0 then (if lineT (s.drop i) = [] then 0 else trailE (s.drop i).length ((s.drop (i + (lineT (s.drop i)).length)).drop 2)) else crlfE (s.drop (i + (lineT (s.drop i)).length)) := by rw [trailE, lineR_at]
 rw [hr2] at hr
 clear hr2
 have hcl := fun h => crlf_len (l := s.drop (i + (lineT (s.drop i)).length)) h
 have hel : lineT (s.drop i) = [] ↔ (lineT (s.drop i)).length = 0 := ⟨fun h => by rw [h]; rfl, List.eq_nil_of_length_eq_zero⟩
 rw [List.length_drop] at hcl
 generalize (lineT (s.drop i)).length = d at *
 by_cases c1 : crlfE (s.drop (i + d)) = 0
 ·rw [if_pos c1] at hr
  have hcl := hcl c1
  by_cases c2 : ((i + d : Nat) : Int) = ((i : Nat) : Int)
  ·rw [if_pos (hel.2 (by omega))] at hr
   rw [hr] at hk
   simp only [sxZ, evs, evp, setd, SV.ev, AV.flat, AV.one, AV.cells, resAs, resA, tupA, pub, pubs, AV.plain, plains, srcOf, splice, fillA, eqA, eqAs, z6, z7, z8, j2, j3, j4, j5, j6, j7, j8, j9, x0, x3, x4, x5, x6, reduceCtorEq, ↓reduceIte, List.getElem?_set, hlen, t0, t1, c1, c2]
   exact hk
  ·rw [if_neg (fun h => by have := hel.1 h; omega)] at hr
   simp only [sxZ, evs, evp, setd, SV.ev, AV.flat, AV.one, AV.cells, resAs, resA, tupA, pub, pubs, AV.plain, plains, srcOf, splice, fillA, eqA, eqAs, z6, z7, z8, j2, j3, j4, j5, j6, j7, j8, j9, x0, x3, x4, x5, x6, reduceCtorEq, ↓reduceIte, List.getElem?_set, hlen, t0, t1, c1, c2]
   refine ⟨by omega, _, by omega, i + d + 2, by omega, rfl, ?_, biv (by omega)⟩
   rw [hr, List.drop_drop]
   exact trail_fuel _ _ _ (by simp only [List.length_drop]; omega) (by simp only [List.length_drop]; omega)
 ·rw [if_neg c1] at hr
  rw [hr] at hk
  simp only [sxZ, evs, evp, setd, SV.ev, AV.flat, AV.one, AV.cells, resAs, resA, tupA, pub, pubs, AV.plain, plains, srcOf, splice, fillA, eqA, eqAs, z6, z7, z8, j2, j3, j4, j5, j6, j7, j8, j9, x0, x3, x4, x5, x6, reduceCtorEq, ↓reduceIte, List.getElem?_set, hlen, t0, t1, c1]
  exact hk
def sizeTo (s : List UInt8) (a : Nat) : Nat := if (sizeE (s.drop a)).1 = 0 then s.length - (sizeE (s.drop a)).2.2.length else 0
set_option maxRecDepth 100000 in
theorem sizeLine_k (s : List UInt8) (a : Nat) (ha : a ≤ s.length) (hs : s.length ≤ 4000000000000000000) (hk : K objs (.tup [.i .u64 (sizeE (s.drop a)).2.1, .i .i64 (sizeTo s a), .i .i64 (sizeE (s.drop a)).1])) : CallOk Tryd.prog 38 [.s s, .i .i64 (a : Nat)] objs K := by
 have hm : maxLen = 2 ^ 63 - 1 := rfl
 refine fn_rn is_body_sizeLine rfl fun C _ => ?_
 rw [c_body_sizeLine]
 refine rn_hide fun Y hY => ?_
 simp only [sxZ, evs, evp, setd, SV.ev, AV.flat, AV.one, AV.cells, resAs, resA, tupA, pub, pubs, AV.plain, plains, srcOf, splice, fillA, eqA, eqAs, z6, z7, z8, j2, j3, j4, j5, j6, j7, j8, j9, x0, x3, x4, x5, x6, reduceCtorEq, ↓reduceIte]
 subst hY
 refine rn_hide fun Y hY => ?_
 simp only [sxZ, evs, evp, setd, SV.ev, AV.flat, AV.one, AV.cells, resAs, resA, tupA, pub, pubs, AV.plain, plains, srcOf, splice, fillA, eqA, eqAs, z6, z7, z8, j2, j3, j4, j5, j6, j7, j8, j9, x0, x3, x4, x5, x6, reduceCtorEq, ↓reduceIte]
 subst hY
 refine rn_hide fun Y hY => ?_
 have hhl : ((s.drop a).takeWhile isHex).length ≤ (s.drop a).length := by have := hexR_len (s.drop a); omega
 have hT := hexT_at s a
 have hR := hexR_at s a
 rw [List.length_drop] at hhl
 obtain ⟨e, he⟩ : ∃ e, e = a + ((s.drop a).takeWhile isHex).length := ⟨_, rfl⟩
 refine rn_cut (fun o t => o = [] ∧ t.length = 66 ∧ t[0]? = some (.s s) ∧ t[1]? = some (.i .i64 (a : Nat)) ∧ t[7]? = some (.i .i64 (e : Nat))) ?_ ?_
 ·simp only [sxZ, evs, evp, setd, SV.ev, AV.flat, AV.one, AV.cells, resAs, resA, tupA, pub, pubs, AV.plain, plains, srcOf, splice, fillA, eqA, eqAs, z6, z7, z8, j2, j3, j4, j5, j6, j7, j8, j9, x0, x3, x4, x5, x6, reduceCtorEq, ↓reduceIte]
  refine rn_loop (fun n objs tm => ∃ i : Nat, i ≤ s.length ∧ n = s.length - i ∧ objs = [] ∧ e = i + ((s.drop i).takeWhile isHex).length ∧ tm.length = 66 ∧ tm[0]? = some (.s s) ∧ tm[1]? = some (.i .i64 (a : Nat)) ∧ tm[7]? = some (.i .i64 i)) (s.length - a) ⟨a, ha, rfl, rfl, he, rfl, rfl, rfl, rfl⟩ ?_
  rintro n _ tm ⟨i, hi, rfl, rfl, hr, hlen, t0, t1, t7⟩
  by_cases hlt : (i : Int) < s.length
  ·have hlt' : i < s.length := by omega
   have hg := getD_get hlt'
   have hx := hex_at s i hlt'
   simp only [sxZ, evs, evp, setd, SV.ev, AV.flat, AV.one, AV.cells, resAs, resA, tupA, pub, pubs, AV.plain, plains, srcOf, splice, fillA, eqA, eqAs, z6, z7, z8, j2, j3, j4, j5, j6, j7, j8, j9, x0, x3, x4, x5, x6, reduceCtorEq, ↓reduceIte, List.getElem?_set, hlen, t0, t1, t7, hlt, Int.toNat_natCast, hg]
   refine ⟨by omega, kcall (aHex_k s[i] ?_)⟩
   by_cases c1 : isHex s[i] = true
   ·rw [if_pos c1] at hx
    rw [hx, List.length_cons] at hr
    simp only [sxZ, evs, evp, setd, SV.ev, AV.flat, AV.one, AV.cells, resAs, resA, tupA, pub, pubs, AV.plain, plains, srcOf, splice, fillA, eqA, eqAs, z6, z7, z8, j2, j3, j4, j5, j6, j7, j8, j9, x0, x3, x4, x5, x6, reduceCtorEq, ↓reduceIte, List.getElem?_set, hlen, t0, t1, t7, c1]
    exact ⟨⟨by omega, by omega⟩, _, by omega, i + 1, by omega, rfl, by omega, rfl⟩
   ·rw [if_neg c1] at hx
    rw [hx, List.length_nil] at hr
    simp only [Bool.not_eq_true] at c1
    simp only [sxZ, evs, evp, setd, SV.ev, AV.flat, AV.one, AV.cells, resAs, resA, tupA, pub, pubs, AV.plain, plains, srcOf, splice, fillA, eqA, eqAs, z6, z7, z8, j2, j3, j4, j5, j6, j7, j8, j9, x0, x3, x4, x5, x6, reduceCtorEq, ↓reduceIte, List.getElem?_set, hlen, t0, t1, t7, c1, cutF_normal]
    exact biv (by omega)
  ·obtain rfl : i = s.length := by omega
   rw [List.drop_length] at hr
   simp only [List.takeWhile_nil, List.length_nil] at hr
   simp only [sxZ, evs, evp, setd, SV.ev, AV.flat, AV.one, AV.cells, resAs, resA, tupA, pub, pubs, AV.plain, plains, srcOf, splice, fillA, eqA, eqAs, z6, z7, z8, j2, j3, j4, j5, j6, j7, j8, j9, x0, x3, x4, x5, x6, reduceCtorEq, ↓reduceIte, List.getElem?_set, hlen, t0, t1, t7, hlt, cutF_normal]
   exact biv (by omega)
 ·rintro o t ⟨rfl, hlen, t0, t1, t7⟩
  subst hY
  refine rn_hide fun Y hY => ?_
  have hd : List.drop a (List.take e s) = (s.drop a).takeWhile isHex := by rw [he, drop_take_len, ← hT]
  rw [← he] at hR
  have hel : e ≤ s.length := by omega
  have hz : (s.drop a).takeWhile isHex = [] ↔ e = a := by
   rw [← List.length_eq_zero_iff]; omega
  have hse : sizeE (s.drop a) = if (s.drop a).takeWhile isHex = [] ∧ s.drop e ≠ [] then (190, 0, []) else if crlfE (extR (s.drop e)) = 0 then (0, hexS ((s.drop a).takeWhile isHex), (extR (s.drop e)).drop 2) else (crlfE (extR (s.drop e)), 0, []) := by
   unfold sizeE; rw [hR]
  generalize hdg : (s.drop a).takeWhile isHex = dg at *
  simp only [sxZ, evs, evp, setd, SV.ev, AV.flat, AV.one, AV.cells, resAs, resA, tupA, pub, pubs, AV.plain, plains, srcOf, splice, fillA, eqA, eqAs, z6, z7, z8, j2, j3, j4, j5, j6, j7, j8, j9, x0, x3, x4, x5, x6, reduceCtorEq, ↓reduceIte, List.getElem?_set, hlen, t0, t1, t7, Int.toNat_natCast, hd]
  refine ⟨⟨by omega, by omega, by omega⟩, ?_⟩
  subst hY
  refine rn_hide fun Y hY => ?_
  refine rn_cut (fun o t => (o = [] ∧ t.length = 66 ∧ t[0]? = some (.s s) ∧ t[7]? = some (.i .i64 (e : Nat)) ∧ t[8]? = some (.s dg)) ∧ ¬ (dg = [] ∧ s.drop e ≠ [])) ?_ ?_
  ·by_cases c2 : dg = []
   ·by_cases c1 : ((e : Nat) : Int) < s.length
    ·have hne : s.drop e ≠ [] := fun h => by have := congrArg List.length h; rw [List.length_drop, List.length_nil] at this; omega
     unfold sizeTo at hk
     rw [hse, if_pos ⟨c2, hne⟩] at hk
     simp only [sxZ, evs, evp, setd, SV.ev, AV.flat, AV.one, AV.cells, resAs, resA, tupA, pub, pubs, AV.plain, plains, srcOf, splice, fillA, eqA, eqAs, z6, z7, z8, j2, j3, j4, j5, j6, j7, j8, j9, x0, x3, x4, x5, x6, reduceCtorEq, ↓reduceIte, List.getElem?_set, hlen, t0, t1, t7, c1, c2, cutF_ret]
     exact hk
    ·have hne : ¬ s.drop e ≠ [] := fun h => h (List.drop_eq_nil_of_le (by omega))
     simp only [sxZ, evs, evp, setd, SV.ev, AV.flat, AV.one, AV.cells, resAs, resA, tupA, pub, pubs, AV.plain, plains, srcOf, splice, fillA, eqA, eqAs, z6, z7, z8, j2, j3, j4, j5, j6, j7, j8, j9, x0, x3, x4, x5, x6, reduceCtorEq, ↓reduceIte, List.getElem?_set, hlen, t0, t1, t7, c1, c2, cutF_normal]
     exact fun h => hne h
   ·simp only [sxZ, evs, evp, setd, SV.ev, AV.flat, AV.one, AV.cells, resAs, resA, tupA, pub, pubs, AV.plain, plains, srcOf, splice, fillA, eqA, eqAs, z6, z7, z8, j2, j3, j4, j5, j6, j7, j8, j9, x0, x3, x4, x5, x6, reduceCtorEq, ↓reduceIte, List.getElem?_set, hlen, t0, t1, t7, c2, cutF_normal]
    exact fun h => h.1
  clear hlen t0 t1 t7
  rintro o t ⟨⟨rfl, hlen, t0, t7, t8⟩, hno⟩
  rw [if_neg hno] at hse
  subst hY
  refine rn_hide fun Y hY => ?_
  obtain ⟨f, hf⟩ : ∃ f, f = e + if (s.drop e).head? = some 59 then (lineT (s.drop e)).length else 0 := ⟨_, rfl⟩
  have hle := lineT_le (s.drop e)
  rw [List.length_drop] at hle
  have hfl : f ≤ s.length := by rw [hf]; split <;> omega
  have hx : extR (s.drop e) = s.drop f := by
   unfold extR
   rw [hf]
   split
   ·rw [lineR_at]
   ·rfl
  rw [hx] at hse
  refine rn_cut (fun o t => o = [] ∧ t.length = 66 ∧ t[0]? = some (.s s) ∧ t[7]? = some (.i .i64 (f : Nat)) ∧ t[8]? = some (.s dg)) ?_ ?_
  ·by_cases c1 : ((e : Nat) : Int) < s.length
   ·have hlt : e < s.length := by omega
    have hg := getD_get hlt
    rw [(show (s.drop e).head? = some s[e] by rw [List.drop_eq_getElem_cons hlt]; rfl)] at hf
    by_cases c3 : (((s[e]).toNat : Nat) : Int) = (((59 : UInt8).toNat : Nat) : Int)
    ·rw [if_pos (by rw [(byte_is _ _).1 c3])] at hf
     have e3 : (((59 : UInt8).toNat : Nat) : Int) = 59 := rfl
     rw [e3] at c3
     simp only [sxZ, evs, evp, setd, SV.ev, AV.flat, AV.one, AV.cells, resAs, resA, tupA, pub, pubs, AV.plain, plains, srcOf, splice, fillA, eqA, eqAs, z6, z7, z8, j2, j3, j4, j5, j6, j7, j8, j9, x0, x3, x4, x5, x6, reduceCtorEq, ↓reduceIte, List.getElem?_set, hlen, t0, t7, t8, c1, Int.toNat_natCast, hg, c3]
     refine ⟨by omega, kcall (lte_k s e (by omega) (by omega) ?_)⟩
     simp only [sxZ, evs, evp, setd, SV.ev, AV.flat, AV.one, AV.cells, resAs, resA, tupA, pub, pubs, AV.plain, plains, srcOf, splice, fillA, eqA, eqAs, z6, z7, z8, j2, j3, j4, j5, j6, j7, j8, j9, x0, x3, x4, x5, x6, reduceCtorEq, ↓reduceIte, List.getElem?_set, hlen, t0, t7, t8, cutF_normal]
     exact biv (by omega)
    ·rw [if_neg (fun h => c3 (by injection h with h; rw [h]))] at hf
     have e3 : (((59 : UInt8).toNat : Nat) : Int) = 59 := rfl
     rw [e3] at c3
     simp only [sxZ, evs, evp, setd, SV.ev, AV.flat, AV.one, AV.cells, resAs, resA, tupA, pub, pubs, AV.plain, plains, srcOf, splice, fillA, eqA, eqAs, z6, z7, z8, j2, j3, j4, j5, j6, j7, j8, j9, x0, x3, x4, x5, x6, reduceCtorEq, ↓reduceIte, List.getElem?_set, hlen, t0, t7, t8, c1, Int.toNat_natCast, hg, c3, cutF_normal]
     exact ⟨by omega, biv (by omega)⟩
   ·rw [List.drop_eq_nil_of_le (by omega : s.length ≤ e)] at hf
    rw [if_neg (by simp)] at hf
    simp only [sxZ, evs, evp, setd, SV.ev, AV.flat, AV.one, AV.cells, resAs, resA, tupA, pub, pubs, AV.plain, plains, srcOf, splice, fillA, eqA, eqAs, z6, z7, z8, j2, j3, j4, j5, j6, j7, j8, j9, x0, x3, x4, x5, x6, reduceCtorEq, ↓reduceIte, List.getElem?_set, hlen, t0, t7, t8, c1, cutF_normal]
    exact biv (by omega)
  clear hlen t0 t7 t8
  rintro o t ⟨rfl, hlen, t0, t7, t8⟩
  subst hY
  simp only [sxZ, evs, evp, setd, SV.ev, AV.flat, AV.one, AV.cells, resAs, resA, tupA, pub, pubs, AV.plain, plains, srcOf, splice, fillA, eqA, eqAs, z6, z7, z8, j2, j3, j4, j5, j6, j7, j8, j9, x0, x3, x4, x5, x6, reduceCtorEq, ↓reduceIte, List.getElem?_set, hlen, t0, t7, t8]
  refine kcall (cle_k s f hfl (by omega) ?_)
  unfold sizeTo at hk
  by_cases c4 : crlfE (s.drop f) = 0
  ·rw [if_pos c4] at hse
   have hcl := crlf_len c4
   rw [List.length_drop] at hcl
   rw [hse, if_pos rfl] at hk
   simp only [sxZ, evs, evp, setd, SV.ev, AV.flat, AV.one, AV.cells, resAs, resA, tupA, pub, pubs, AV.plain, plains, srcOf, splice, fillA, eqA, eqAs, z6, z7, z8, j2, j3, j4, j5, j6, j7, j8, j9, x0, x3, x4, x5, x6, reduceCtorEq, ↓reduceIte, List.getElem?_set, hlen, t0, t7, t8, c4]
   have hdl : dg.length ≤ s.length := by rw [← hdg]; have := hexR_len (s.drop a); rw [List.length_drop] at this; omega
   refine kcall (nHex_k dg 18446744073709551615 (by rw [hm]; omega) (by omega) ?_)
   have e1 : ((s.length - ((s.drop f).drop 2).length : Nat) : Int) = ((f : Nat) : Int) + 2 := by simp only [List.length_drop]; omega
   rw [e1] at hk
   unfold hexS at hk
   by_cases c5 : (numOf isHex 16 18446744073709551615 dg).1 = 0
   ·rw [if_pos c5] at hk
    simp only [sxZ, evs, evp, setd, SV.ev, AV.flat, AV.one, AV.cells, resAs, resA, tupA, pub, pubs, AV.plain, plains, srcOf, splice, fillA, eqA, eqAs, z6, z7, z8, j2, j3, j4, j5, j6, j7, j8, j9, x0, x3, x4, x5, x6, reduceCtorEq, ↓reduceIte, List.getElem?_set, hlen, t0, t7, t8, c5]
    exact ⟨by omega, hk⟩
   ·rw [if_neg c5] at hk
    simp only [sxZ, evs, evp, setd, SV.ev, AV.flat, AV.one, AV.cells, resAs, resA, tupA, pub, pubs, AV.plain, plains, srcOf, splice, fillA, eqA, eqAs, z6, z7, z8, j2, j3, j4, j5, j6, j7, j8, j9, x0, x3, x4, x5, x6, reduceCtorEq, ↓reduceIte, List.getElem?_set, hlen, t0, t7, t8, c5]
    exact ⟨by omega, hk⟩
  ·rw [if_neg c4] at hse
   rw [hse, if_neg c4] at hk
   simp only [sxZ, evs, evp, setd, SV.ev, AV.flat, AV.one, AV.cells, resAs, resA, tupA, pub, pubs, AV.plain, plains, srcOf, splice, fillA, eqA, eqAs, z6, z7, z8, j2, j3, j4, j5, j6, j7, j8, j9, x0, x3, x4, x5, x6, reduceCtorEq, ↓reduceIte, List.getElem?_set, hlen, t0, t7, t8, c4]
   exact hk
end
theorem size_drop {l : List UInt8} (h : (sizeE l).1 = 0) : ∃ k, (sizeE l).2.2 = l.drop k := by
 unfold sizeE at h ⊢
 split
 ·rename_i h1; rw [if_pos h1] at h; cases h
 ·split
  ·have h1 := hexR_at l 0
   rw [List.drop_zero] at h1
   show ∃ k, (extR (l.dropWhile isHex)).drop 2 = l.drop k
   rw [h1]
   unfold extR
   split
   ·rw [lineR_at, List.drop_drop]; exact ⟨_, rfl⟩
   ·rw [List.drop_drop]; exact ⟨_, rfl⟩
  ·rename_i h1 h2; rw [if_neg h1, if_neg h2] at h; exact absurd h h2
theorem sizeTo_ok {s : List UInt8} {i : Nat} (h : (sizeE (s.drop i)).1 = 0) : (sizeE (s.drop i)).2.2 = s.drop (sizeTo s i) ∧ i + 2 ≤ sizeTo s i ∧ sizeTo s i ≤ s.length := by
 obtain ⟨k, hk⟩ := size_drop h
 have hl := sizeE_len _ h
 unfold sizeTo
 rw [if_pos h]
 rw [hk, List.drop_drop] at hl ⊢
 simp only [List.length_drop] at hl ⊢
 refine ⟨?_, by omega, by omega⟩
 rcases Nat.le_total (i + k) s.length with h1 | h1
 ·congr 1; omega
 ·rw [List.drop_eq_nil_of_le h1, List.drop_eq_nil_of_le (by omega)]
theorem size_le (l : List UInt8) : (sizeE l).2.1 ≤ 18446744073709551615 := by
 unfold sizeE
 split
 ·exact Nat.zero_le _
 ·split
  ·exact hexS_le _
  ·exact Nat.zero_le _
theorem addS_nat (a b : Nat) : addS a b = ((min (a + b) 18446744073709551615 : Nat) : Int) := by
 unfold addS
 split <;> omega
def OutIs (E : Nat) (acc : List UInt8) (o : List OB) (v : Option AV) : Prop := (acc = [] ∧ o = [] ∧ v = some .nil) ∨ (∃ g, o = [.orow E 1 g acc.length (byA acc)] ∧ v = some (.orow 0 g))
section
variable [Tabs Tryd.prog] {objs : List OB} {K : List OB → AV → Prop}
theorem nAdd_k (a b : Nat) (ha : a ≤ 18446744073709551615) (hb : b ≤ 18446744073709551615) (hk : K objs (.i .u64 ((min (a + b) 18446744073709551615 : Nat) : Int))) : CallOk Tryd.prog 39 [.i .u64 a, .i .u64 b] objs K :=
 convs (vs := [.int .u64 a, .int .u64 b]) rfl rfl (fun w => by have := Add_any a b w (by omega) (by omega) (by omega) (by omega); rwa [addS_nat] at this) hk
set_option maxRecDepth 100000 in
theorem chunked_k (s : List UInt8) (most : Int) (hs : s.length ≤ 100000000000) (hm0 : -9223372036854775808 ≤ most) (hm1 : most ≤ 9223372036854775807) (hk : K objs (.tup [.s (chunkedE s most).2, .i .i64 (chunkedE s most).1])) : CallOk Tryd.prog 18 [.s s, .i .i64 most] objs K := by
 refine fn_rn is_body_Chunked rfl fun C _ => ?_
 rw [c_body_Chunked]
 refine rn_hide fun Y hY => ?_
 simp only [sxZ, evs, evp, setd, SV.ev, AV.flat, AV.one, AV.cells, resAs, resA, tupA, pub, pubs, AV.plain, plains, srcOf, splice, fillA, eqA, eqAs, z6, z7, z8, j2, j3, j4, j5, j6, j7, j8, j9, x0, x3, x4, x5, x6, reduceCtorEq, ↓reduceIte]
 subst hY
 refine rn_hide fun Y hY => ?_
 simp only [sxZ, evs, evp, setd, SV.ev, AV.flat, AV.one, AV.cells, resAs, resA, tupA, pub, pubs, AV.plain, plains, srcOf, splice, fillA, eqA, eqAs, z6, z7, z8, j2, j3, j4, j5, j6, j7, j8, j9, x0, x3, x4, x5, x6, reduceCtorEq, ↓reduceIte]
 subst hY
 refine rn_hide fun Y hY => ?_
 simp only [sxZ, evs, evp, setd, SV.ev, AV.flat, AV.one, AV.cells, resAs, resA, tupA, pub, pubs, AV.plain, plains, srcOf, splice, fillA, eqA, eqAs, z6, z7, z8, j2, j3, j4, j5, j6, j7, j8, j9, x0, x3, x4, x5, x6, reduceCtorEq, ↓reduceIte]
 subst hY
 refine rn_hide fun Y hY => ?_
 simp only [sxZ, evs, evp, setd, SV.ev, AV.flat, AV.one, AV.cells, resAs, resA, tupA, pub, pubs, AV.plain, plains, srcOf, splice, fillA, eqA, eqAs, z6, z7, z8, j2, j3, j4, j5, j6, j7, j8, j9, x0, x3, x4, x5, x6, reduceCtorEq, ↓reduceIte]
 subst hY
 refine rn_hide fun Y hY => ?_
 obtain ⟨R, hR⟩ : ∃ R, R = chunkE most (s.length + 1) 0 s := ⟨_, rfl⟩
 have hce : chunkedE s most = if R.1 = 0 then R else (R.1, []) := by unfold chunkedE; rw [← hR]
 refine rn_cut (fun o t => t.length = 76 ∧ t[0]? = some (.s s) ∧ ∃ (j : Nat) (acc : List UInt8), j ≤ s.length ∧ t[7]? = some (.i .i64 j) ∧ R = (trailE ((s.drop j).length + 1) (s.drop j), acc) ∧ OutIs 5 acc o t[6]?) ?_ ?_
 ·simp only [sxZ, evs, evp, setd, SV.ev, AV.flat, AV.one, AV.cells, resAs, resA, tupA, pub, pubs, AV.plain, plains, srcOf, splice, fillA, eqA, eqAs, z6, z7, z8, j2, j3, j4, j5, j6, j7, j8, j9, x0, x3, x4, x5, x6, reduceCtorEq, ↓reduceIte]
  refine rn_loop (fun n objs tm => ∃ (i tot : Nat) (acc : List UInt8), i ≤ s.length ∧ n = s.length - i ∧ tot ≤ 18446744073709551615 ∧ acc.length ≤ s.length ∧ acc.length ≤ i ∧ R = ((chunkE most ((s.drop i).length + 1) tot (s.drop i)).1, acc ++ (chunkE most ((s.drop i).length + 1) tot (s.drop i)).2) ∧ tm.length = 76 ∧ tm[0]? = some (.s s) ∧ tm[1]? = some (.i .i64 most) ∧ tm[7]? = some (.i .i64 i) ∧ tm[8]? = some (.i .u64 tot) ∧ OutIs 5 acc objs tm[6]?) s.length ⟨0, 0, [], by omega, rfl, by omega, by simp, by simp, by rw [hR]; rfl, rfl, rfl, rfl, rfl, rfl, .inl ⟨rfl, rfl, rfl⟩⟩ ?_
  rintro n o tm ⟨i, tot, acc, hi, rfl, htot, hal, hai, hr, hlen, t0, t1, t7, t8, hout⟩
  simp only [sxZ, evs, evp, setd, SV.ev, AV.flat, AV.one, AV.cells, resAs, resA, tupA, pub, pubs, AV.plain, plains, srcOf, splice, fillA, eqA, eqAs, z6, z7, z8, j2, j3, j4, j5, j6, j7, j8, j9, x0, x3, x4, x5, x6, reduceCtorEq, ↓reduceIte, List.getElem?_set, hlen, t0, t1, t7, t8]
  refine kcall (sizeLine_k s i hi (by omega) ?_)
  obtain ⟨z, hz⟩ : ∃ z, z = sizeE (s.drop i) := ⟨_, rfl⟩
  obtain ⟨tq, hto⟩ : ∃ tq, tq = sizeTo s i := ⟨_, rfl⟩
  have hzl : z.2.1 ≤ 18446744073709551615 := by rw [hz]; exact size_le _
  have hrest := fun h => sizeTo_ok (s := s) (i := i) h
  rw [chunkE] at hr
  rw [← hz, ← hto] at hrest
  rw [← hz] at hr
  rw [← hz, ← hto]
  simp only [sxZ, evs, evp, setd, SV.ev, AV.flat, AV.one, AV.cells, resAs, resA, tupA, pub, pubs, AV.plain, plains, srcOf, splice, fillA, eqA, eqAs, z6, z7, z8, j2, j3, j4, j5, j6, j7, j8, j9, x0, x3, x4, x5, x6, reduceCtorEq, ↓reduceIte, List.getElem?_set, hlen, t0, t1, t7, t8]
  refine kcall (nAdd_k tot z.2.1 htot hzl ?_)
  obtain ⟨m, hm⟩ : ∃ m, m = min (tot + z.2.1) 18446744073709551615 := ⟨_, rfl⟩
  have hml : m ≤ 18446744073709551615 := by omega
  rw [← hm] at hr
  rw [← hm]
  by_cases c1 : z.1 = 0
  ·obtain ⟨hr1, hr2, hr3⟩ := hrest c1
   rw [if_pos c1] at hr
   have hrl : z.2.2.length = s.length - tq := by rw [hr1, List.length_drop]
   by_cases c2 : most < 0
   ·rw [if_pos (.inl c2)] at hr
    rw [show chunkedE s most = (142, []) by rw [hce, hr]; rfl] at hk
    simp only [sxZ, evs, evp, setd, SV.ev, AV.flat, AV.one, AV.cells, resAs, resA, tupA, pub, pubs, AV.plain, plains, srcOf, splice, fillA, eqA, eqAs, z6, z7, z8, j2, j3, j4, j5, j6, j7, j8, j9, x0, x3, x4, x5, x6, reduceCtorEq, ↓reduceIte, List.getElem?_set, hlen, t0, t1, t7, t8, c1, c2, cutF_ret, loopF_ret]
    exact hk
   ·have hw : IntKind.u64.wrap most = most := wrap_u64 _ (by omega) (by omega)
    by_cases c3 : most < (m : Nat)
    ·rw [if_pos (.inr c3)] at hr
     rw [show chunkedE s most = (142, []) by rw [hce, hr]; rfl] at hk
     simp only [sxZ, evs, evp, setd, SV.ev, AV.flat, AV.one, AV.cells, resAs, resA, tupA, pub, pubs, AV.plain, plains, srcOf, splice, fillA, eqA, eqAs, z6, z7, z8, j2, j3, j4, j5, j6, j7, j8, j9, x0, x3, x4, x5, x6, reduceCtorEq, ↓reduceIte, List.getElem?_set, hlen, t0, t1, t7, t8, c1, c2, hw, c3, cutF_ret, loopF_ret]
     exact hk
    ·rw [if_neg (by omega)] at hr
     by_cases c4 : ((z.2.1 : Nat) : Int) = 0
     ·rw [if_pos (by omega)] at hr
      simp only [sxZ, evs, evp, setd, SV.ev, AV.flat, AV.one, AV.cells, resAs, resA, tupA, pub, pubs, AV.plain, plains, srcOf, splice, fillA, eqA, eqAs, z6, z7, z8, j2, j3, j4, j5, j6, j7, j8, j9, x0, x3, x4, x5, x6, reduceCtorEq, ↓reduceIte, List.getElem?_set, hlen, t0, t1, t7, t8, c1, c2, hw, c3, c4, cutF_normal, loopF_exit]
      exact ⟨tq, acc, hr3, rfl, by rw [hr, hr1]; simp, hout⟩
     ·rw [if_neg (by omega)] at hr
      have hsub : ((s.length : Nat) : Int) - ((tq : Nat) : Int) = ((s.length - tq : Nat) : Int) := by omega
      have hw2 : IntKind.u64.wrap ((s.length - tq : Nat) : Int) = ((s.length - tq : Nat) : Int) := wrap_u64 _ (by omega) (by omega)
      by_cases c5 : ((s.length - tq : Nat) : Int) < ((z.2.1 : Nat) : Int)
      ·rw [if_pos (by omega)] at hr
       rw [show chunkedE s most = (191, []) by rw [hce, hr]; rfl] at hk
       simp only [sxZ, evs, evp, setd, SV.ev, AV.flat, AV.one, AV.cells, resAs, resA, tupA, pub, pubs, AV.plain, plains, srcOf, splice, fillA, eqA, eqAs, z6, z7, z8, j2, j3, j4, j5, j6, j7, j8, j9, x0, x3, x4, x5, x6, reduceCtorEq, ↓reduceIte, List.getElem?_set, hlen, t0, t1, t7, t8, c1, c2, hw, c3, c4, hsub, hw2, c5, cutF_ret, loopF_ret]
       exact ⟨by omega, hk⟩
      ·rw [if_neg (by omega)] at hr
       have hw3 : IntKind.i64.wrap ((z.2.1 : Nat) : Int) = ((z.2.1 : Nat) : Int) := IntWalk.i64_in _ (by omega)
       have hadd : ((tq : Nat) : Int) + ((z.2.1 : Nat) : Int) = ((tq + z.2.1 : Nat) : Int) := by omega
       rw [hr1, List.drop_drop, List.drop_drop, ← Nat.add_assoc] at hr
       simp only [sxZ, evs, evp, setd, SV.ev, AV.flat, AV.one, AV.cells, resAs, resA, tupA, pub, pubs, AV.plain, plains, srcOf, splice, fillA, eqA, eqAs, z6, z7, z8, j2, j3, j4, j5, j6, j7, j8, j9, x0, x3, x4, x5, x6, reduceCtorEq, ↓reduceIte, List.getElem?_set, hlen, t0, t1, t7, t8, c1, c2, hw, c3, c4, hsub, hw2, c5, hw3, hadd]
       refine ⟨by omega, by omega, kcall (cle_k s (tq + z.2.1) (by omega) (by omega) ?_)⟩
       by_cases c6 : crlfE (s.drop (tq + z.2.1)) = 0
       ·rw [if_pos c6] at hr
        have hcl := crlf_len c6
        rw [List.length_drop] at hcl
        have htl : ((s.drop tq).take z.2.1).length = z.2.1 := by rw [List.length_take, List.length_drop]; omega
        have hbl := byA_append acc ((s.drop tq).take z.2.1)
        have hfu := chunk_fuel most (s.drop i).length ((s.drop (tq + z.2.1 + 2)).length + 1) m (s.drop (tq + z.2.1 + 2)) (by simp only [List.length_drop]; omega) (by omega)
        rcases hout with ⟨rfl, rfl, t6⟩ | ⟨g, rfl, t6⟩
        ·simp only [sxZ, evs, evp, setd, SV.ev, AV.flat, AV.one, AV.cells, resAs, resA, tupA, pub, pubs, AV.plain, plains, srcOf, splice, fillA, eqA, eqAs, z6, z7, z8, j2, j3, j4, j5, j6, j7, j8, j9, x0, x3, x4, x5, x6, reduceCtorEq, ↓reduceIte, List.getElem?_set, hlen, t0, t1, t6, t7, t8, Int.toNat_natCast, drop_take_len, c6]
         exact ⟨by omega, by omega, by omega, _, by omega, tq + z.2.1 + 2, m, (s.drop tq).take z.2.1, by omega, rfl, hml, by omega, by omega, by rw [hr, hfu]; simp, biv (by omega), rfl, .inr ⟨0, rfl, rfl⟩⟩
        ·simp only [sxZ, evs, evp, setd, SV.ev, AV.flat, AV.one, AV.cells, resAs, resA, tupA, pub, pubs, AV.plain, plains, srcOf, splice, fillA, eqA, eqAs, z6, z7, z8, j2, j3, j4, j5, j6, j7, j8, j9, x0, x3, x4, x5, x6, reduceCtorEq, ↓reduceIte, List.getElem?_set, hlen, t0, t1, t6, t7, t8, Int.toNat_natCast, drop_take_len, c6]
         exact ⟨by omega, by omega, by omega, _, by omega, tq + z.2.1 + 2, m, acc ++ (s.drop tq).take z.2.1, by omega, rfl, hml, by rw [List.length_append]; omega, by rw [List.length_append]; omega, by rw [hr, hfu]; simp, biv (by omega), rfl, .inr ⟨g + 1, by rw [List.length_append, hbl], rfl⟩⟩
       ·rw [if_neg c6] at hr
        rw [show chunkedE s most = (crlfE (s.drop (tq + z.2.1)), []) by rw [hce, hr]; exact if_neg c6] at hk
        simp only [sxZ, evs, evp, setd, SV.ev, AV.flat, AV.one, AV.cells, resAs, resA, tupA, pub, pubs, AV.plain, plains, srcOf, splice, fillA, eqA, eqAs, z6, z7, z8, j2, j3, j4, j5, j6, j7, j8, j9, x0, x3, x4, x5, x6, reduceCtorEq, ↓reduceIte, List.getElem?_set, hlen, t0, t1, t7, t8, c6, cutF_ret, loopF_ret]
        exact hk
  ·rw [if_neg c1] at hr
   rw [show chunkedE s most = (z.1, []) by rw [hce, hr]; exact if_neg c1] at hk
   simp only [sxZ, evs, evp, setd, SV.ev, AV.flat, AV.one, AV.cells, resAs, resA, tupA, pub, pubs, AV.plain, plains, srcOf, splice, fillA, eqA, eqAs, z6, z7, z8, j2, j3, j4, j5, j6, j7, j8, j9, x0, x3, x4, x5, x6, reduceCtorEq, ↓reduceIte, List.getElem?_set, hlen, t0, t1, t7, t8, c1, cutF_ret, loopF_ret]
   exact hk
 ·rintro o t ⟨hlen, t0, j, acc, hj, t7, hr, hout⟩
  subst hY
  simp only [sxZ, evs, evp, setd, SV.ev, AV.flat, AV.one, AV.cells, resAs, resA, tupA, pub, pubs, AV.plain, plains, srcOf, splice, fillA, eqA, eqAs, z6, z7, z8, j2, j3, j4, j5, j6, j7, j8, j9, x0, x3, x4, x5, x6, reduceCtorEq, ↓reduceIte, List.getElem?_set, hlen, t0, t7]
  refine kcall (trailer_k s j hj (by omega) ?_)
  by_cases c1 : trailE ((s.drop j).length + 1) (s.drop j) = 0
  ·rw [show chunkedE s most = (0, acc) by rw [hce, hr, c1]; rfl] at hk
   rcases hout with ⟨rfl, rfl, t6⟩ | ⟨g, rfl, t6⟩
   ·simp only [sxZ, evs, evp, setd, SV.ev, AV.flat, AV.one, AV.cells, resAs, resA, tupA, pub, pubs, AV.plain, plains, srcOf, splice, fillA, eqA, eqAs, z6, z7, z8, j2, j3, j4, j5, j6, j7, j8, j9, x0, x3, x4, x5, x6, reduceCtorEq, ↓reduceIte, List.getElem?_set, hlen, t0, t6, t7, c1]
    exact hk
   ·simp only [sxZ, evs, evp, setd, SV.ev, AV.flat, AV.one, AV.cells, resAs, resA, tupA, pub, pubs, AV.plain, plains, srcOf, splice, fillA, eqA, eqAs, z6, z7, z8, j2, j3, j4, j5, j6, j7, j8, j9, x0, x3, x4, x5, x6, reduceCtorEq, ↓reduceIte, List.getElem?_set, hlen, t0, t6, t7, c1]
    refine kCb2_o _ _ _ acc ?_
    simp only [sxZ, evs, evp, setd, SV.ev, AV.flat, AV.one, AV.cells, resAs, resA, tupA, pub, pubs, AV.plain, plains, srcOf, splice, fillA, eqA, eqAs, z6, z7, z8, j2, j3, j4, j5, j6, j7, j8, j9, x0, x3, x4, x5, x6, reduceCtorEq, ↓reduceIte, List.getElem?_set, hlen]
    exact hk
  ·rw [show chunkedE s most = (trailE ((s.drop j).length + 1) (s.drop j), []) by rw [hce, hr]; exact if_neg c1] at hk
   simp only [sxZ, evs, evp, setd, SV.ev, AV.flat, AV.one, AV.cells, resAs, resA, tupA, pub, pubs, AV.plain, plains, srcOf, splice, fillA, eqA, eqAs, z6, z7, z8, j2, j3, j4, j5, j6, j7, j8, j9, x0, x3, x4, x5, x6, reduceCtorEq, ↓reduceIte, List.getElem?_set, hlen, t0, t7, c1]
   exact hk
end
end
set_option maxHeartbeats 1000000 in
set_option maxRecDepth 100000 in
theorem copyCheck_used (b : Nat) (w : World) (h0 : w.cell? ⟨b, 0, none⟩ = some (.pointer (some ⟨b, 0, none⟩))) :
  Calls Tryd.prog 66 #[.pointer (some ⟨b, 0, none⟩)] w fun e w' => e = .returned (.tuple #[]) ∧ w' = w := by
 obtain ⟨j, hj, _⟩ := Option.map_eq_some_iff.1 (show ((Tryd.prog).info? 79).map (·.size) = some 2 by kernel_rfl)
 have t1 : (Tryd.prog).underlying 76 = some (.pointer 79) := by kernel_rfl
 go_enter Tryd.func66, Tryd.ntmps66
 go_wp2
 rw [Lib.run_neq_ptr_same w _ t1 hj]
 go_wp2
 go_end0
 exact ⟨rfl, rfl⟩
set_option maxHeartbeats 1000000 in
set_option maxRecDepth 100000 in
theorem copyCheck_fresh (T : TypeId) (b : Nat) (w : World) (h0 : w.cell? ⟨b, 0, none⟩ = some (.pointer none)) (hsh : w.shape? b = some (T, 2)) (hfz : w.frozen? ⟨b, 0, none⟩ = false) (hT : liesAt Tryd.prog (Tryd.prog).depth T (2 / (Tryd.prog).cellsOf T) 0 79 1 = true) :
  Calls Tryd.prog 66 #[.pointer (some ⟨b, 0, none⟩)] w fun e w' => e = .returned (.tuple #[]) ∧ w' = w.setCell ⟨b, 0, none⟩ (.pointer (some ⟨b, 0, none⟩)) := by
 obtain ⟨j, hj, hjs⟩ := Option.map_eq_some_iff.1 (show ((Tryd.prog).info? 79).map (·.size) = some 2 by kernel_rfl)
 have t1 : (Tryd.prog).underlying 76 = some (.pointer 79) := by kernel_rfl
 have t2 : (Tryd.prog).underlying 141 = some .unsafePointer := by kernel_rfl
 go_enter Tryd.func66, Tryd.ntmps66
 go_wp2
 rw [Lib.run_to_unsafe w ⟨b, 0, none⟩ t1 t2 hj (by rw [hjs]; decide) hsh (Nat.zero_lt_succ 1)]
 simp only [Result.andThen]
 rw [Oper.upon_value]
 go_wp2
 rw [run_callFunc_extern Tryd.func93 (by kernel_rfl) (by kernel_rfl) (by kernel_rfl) (e := Extern.AbiNoEscape.same) (by kernel_rfl)]
 rw [Lib.run_noEscape]
 simp only [Result.andThen]
 rw [Oper.upon_value]
 go_wp2
 rw [Lib.run_from_unsafe w ⟨b, 0, none⟩ t2 t1 hj hsh hT]
 simp only [Result.andThen]
 rw [Oper.upon_value]
 go_wp2
 go_end0
 exact ⟨rfl, rfl⟩
theorem get_lt {α : Type} {l : List α} {b : Nat} {x : α} (h : l[b]? = some x) : b < l.length := by
 rcases Nat.lt_or_ge b l.length with h0 | h0
 ·exact h0
 ·rw [List.getElem?_eq_none h0] at h; cases h
theorem set_same {α : Type} {l : List α} {b : Nat} {x : α} (h : l[b]? = some x) : l.set b x = l := by
 apply List.ext_getElem?
 intro i
 rw [List.getElem?_set]
 split
 ·rename_i e; subst e; rw [if_pos (get_lt h), h]
 ·rfl
theorem MemOk.kill {objs : List OB} {G : Gh} {I : Imm} {w w' : World} (h : MemOk G I objs w) (r : Nat) {row : Option Nat} (hrow : ∀ k, row = some k → G.own r = some k) (hg : w.grownBy w' row) : MemOk G I (objs.set r .dead) w' := by
 have hne : ∀ b g, b ≠ r → G.own b = some g → some g ≠ row := fun b g hb h1 e => hb (h.inj b r g h1 (hrow g e.symm))
 have hold : ∀ (b : Nat) ob, (objs.set r .dead)[b]? = some ob → (ob = .dead ∨ (b ≠ r ∧ objs[b]? = some ob)) := by
  intro b ob hb
  rw [List.getElem?_set] at hb
  split at hb
  ·split at hb
   ·injection hb with hb; exact .inl hb.symm
   ·cases hb
  ·rename_i e; exact .inr ⟨fun e' => e e'.symm, hb⟩
 refine ⟨fun g o v hi => ?_, fun b T cs hb => ?_, fun b E sz gen n xs hb => ?_, h.inj, fun b g hb => Nat.lt_of_lt_of_le (h.lt b g hb) hg.size, h.apart, fun b hb => h.fresh b (by simpa using hb)⟩
 ·rw [← h.imm g o v hi]
  exact cell_block (hg.block g (World.block_lt_of_cell? (h := h.imm g o v hi)) (fun e => h.apart r g o v (hrow g e.symm) hi))
 ·rcases hold b _ hb with h1 | ⟨h1, h2⟩
  ·cases h1
  ·obtain ⟨g, ys, k1, k2, k3⟩ := h.box b T cs h2
   exact ⟨g, ys, k1, (hg.block g (h.lt b g (own_of_blk k1)) (hne b g h1 (own_of_blk k1))).trans k2, k3⟩
 ·rcases hold b _ hb with h1 | ⟨h1, h2⟩
  ·cases h1
  ·obtain ⟨v, ys, k1, k2, k3, k4, k5⟩ := h.row b E sz gen n xs h2
   refine ⟨v, ys, k1, World.ownsRow.kept k2 hg ?_, k3, k4, k5⟩
   rcases hv : v.ownBlock with _ | g
   ·exact .inl rfl
   ·have := hne b g h1 (by rw [own_of_cur k5 k1, hv])
    first | exact .inr this | exact .inr (fun e => this e.symm)
section
variable [Tabs Tryd.prog] {objs : List OB} {K : List OB → AV → Prop}
def BT (T : TypeId) : Prop := liesAt Tryd.prog (Tryd.prog).depth T (2 / (Tryd.prog).cellsOf T) 0 79 1 = true
theorem copyCheck_k (T : TypeId) (b : Nat) (x y : AV) (hT : BT T) (hb : objs[b]? = some (.box T [x, y])) (hx : x = .o (.pointer none) ∨ x = .p b 0) (hk : K (objs.set b (.box T [.p b 0, y])) (.tup [])) : CallOk Tryd.prog 66 [.p b 0] objs K := by
 intro C _ G I w hin hm ys hd
 simp only [Dens] at hd
 obtain ⟨v, _, rfl, hv, rfl⟩ := hd
 simp only [Den] at hv
 obtain ⟨g, hg, rfl⟩ := hv
 obtain ⟨g', zs, k1, k2, k3, k4⟩ := hm.box b T _ hb
 obtain rfl : g = g' := Option.some.inj (hg.symm.trans k1)
 simp only [Dens] at k3
 obtain ⟨z1, _, rfl, d1, z2, _, rfl, d2, rfl⟩ := k3
 have hcell : w.cell? ⟨g, 0, none⟩ = some z1 := by rw [cell_of_row w g 0 _ T (0, 0) k2]; rfl
 rcases hx with rfl | rfl
 ·simp only [Den] at d1; subst d1
  refine (copyCheck_fresh T g w hcell (by simp [World.shape?, k2]) (by simp [World.frozen?, k2]) hT).mono ?_
  rintro e w' ⟨rfl, rfl⟩
  obtain ⟨s1, s2⟩ := setbox hin hm b g 0 T [.o (.pointer none), y] [.p b 0] [.pointer (some ⟨g, 0, none⟩)] hb hg (Dens.cons (by simp only [Den]; exact ⟨g, hg, rfl⟩) Dens.nil) (by simp [Value.oneCell']) (by simp)
  exact ⟨_, _, .tup [], G, I, rfl, hk, Gh.le.refl G, Imm.le.refl I, s1, s2, by simp only [Den]; exact ⟨[], rfl, Dens.nil⟩⟩
 ·simp only [Den] at d1
  obtain ⟨g2, e2, rfl⟩ := d1
  obtain rfl : g = g2 := Option.some.inj (hg.symm.trans e2)
  refine (copyCheck_used g w hcell).mono ?_
  rintro e w' ⟨rfl, rfl⟩
  rw [set_same hb] at hk
  exact ⟨_, objs, .tup [], G, I, rfl, hk, Gh.le.refl G, Imm.le.refl I, hin, hm, by simp only [Den]; exact ⟨[], rfl, Dens.nil⟩⟩
end
theorem drew_grown (w : World) : w.grownBy w.drew none := by
 have h := Below.drew (Below.refl w.heap.size w)
 exact ⟨h.os, h.tape, h.output, h.size, fun k hk _ => h.block k hk⟩
theorem grown_freeze {w w' : World} (h : w.grownBy w' none) (g n : Nat) : w.grownBy (w'.freeze ⟨g, 0, none⟩ n) (some g) := by
 unfold World.freeze
 split
 ·exact ⟨h.os, h.tape, h.output, h.size, fun k hk _ => h.block k hk (by simp)⟩
 ·refine ⟨h.os, h.tape, h.output, by simpa using h.size, fun k hk hne => ?_⟩
  rw [Array.getElem?_modify, if_neg (by rintro rfl; exact hne rfl)]
  exact h.block k hk (by simp)
theorem grown_alloc {w w' : World} (h : w.grownBy w' none) (o : Obj) (row : Option Nat) : w.grownBy (w'.alloc o) row :=
 ⟨h.os, h.tape, h.output, by simp; have := h.size; omega, fun k hk _ => (Below.heap_alloc w' o k (Nat.lt_of_lt_of_le hk h.size)).trans (h.block k hk (by simp))⟩
set_option maxHeartbeats 1000000 in
set_option maxRecDepth 100000 in
theorem bString_full (b g cap : Nat) (l : List UInt8) (p : Value) (cur : Array Value) (T : TypeId) (w : World) (h0 : l ≠ []) (hbk : w.heap[b]? = some (.cells #[p, .slice (some ⟨g, 0, none⟩) l.length cap] T (0, 0))) (hg : w.heap[g]? = some (.cells cur 5 (0, 0)))
  (hnc : l.length ≤ cap) (hcm : cap ≤ maxLen) (hcs : cur.size = cap) (hcell : ∀ j x, l[j]? = some x → w.cell? ((⟨g, 0, none⟩ : Addr).add j) = some (.int .u8 x.toNat)) :
  Calls Tryd.prog 37 #[.pointer (some ⟨b, 0, none⟩)] w fun e w' => e = .returned (.string ⟨l.toArray⟩) ∧ w.grownBy w' (some g) := by
 have hl0 : l.length ≠ 0 := by simpa using h0
 have c1 : w.drew.cell? ⟨b, 1, none⟩ = some (.slice (some ⟨g, 0, none⟩) l.length cap) := by
  have : w.drew.heap[b]? = some (.cells #[p, .slice (some ⟨g, 0, none⟩) l.length cap] T (0, 0)) := hbk
  rw [Lib.cell_of_heap this]; rfl
 have hSD : (Builtin.unsafeSliceData_ #[77] 115 #[.slice (some ⟨g, 0, none⟩) l.length cap]).run Tryd.prog w.drew = .ok (.pointer (some ⟨g, 0, none⟩)) w.drew :=
  Lib.run_unsafeSliceData_row _ _ _ _ _ _ (by omega)
 have hUS : (Builtin.unsafeString_ #[115, 3] 9 #[.pointer (some ⟨g, 0, none⟩), .int .i64 l.length]).run Tryd.prog w.drew = .ok (.string ⟨l.toArray⟩) (w.drew.freeze ⟨g, 0, none⟩ l.length) := by
  refine Lib.run_unsafeString_row w.drew _ _ _ 5 (by kernel_rfl) (by kernel_rfl) g cur.size (by have hg' : w.drew.heap[g]? = some (.cells cur 5 (0, 0)) := hg; simp [World.shape?, hg']) l h0 (by omega) (by unfold maxLen at hcm; omega) ?_
  intro j x hx
  exact hcell j x hx
 clear hl0
 have mixed : (Tryd.prog).follows .mixedOrders = true := by kernel_rfl
 go_enter Tryd.func37, Tryd.ntmps37
 go_wp2
 go_region_o
 all_goals (go_wp2; go_ret; exact ⟨rfl, grown_freeze (drew_grown w) g _⟩)
set_option maxHeartbeats 1000000 in
set_option maxRecDepth 100000 in
theorem bString_nil (b : Nat) (p : Value) (T : TypeId) (w : World) (hbk : w.heap[b]? = some (.cells #[p, .slice none 0 0] T (0, 0))) :
  Calls Tryd.prog 37 #[.pointer (some ⟨b, 0, none⟩)] w fun e w' => e = .returned (.string ⟨#[]⟩) ∧ w.grownBy w' none := by
 have hUS : ∀ (W : World) (q : Option Addr), (Builtin.unsafeString_ #[115, 3] 9 #[.pointer q, .int .i64 0]).run Tryd.prog W = .ok (.string .empty) W := fun W q => Lib.run_unsafeString_none W _ _ _ q
 have c1 : w.drew.cell? ⟨b, 1, none⟩ = some (.slice none 0 0) := by
  have : w.drew.heap[b]? = some (.cells #[p, .slice none 0 0] T (0, 0)) := hbk
  rw [Lib.cell_of_heap this]; rfl
 have hSD : (Builtin.unsafeSliceData_ #[77] 115 #[.slice none 0 0]).run Tryd.prog w.drew = .ok (.pointer none) w.drew := rfl
 have mixed : (Tryd.prog).follows .mixedOrders = true := by kernel_rfl
 go_enter Tryd.func37, Tryd.ntmps37
 go_wp2
 go_region_o
 all_goals (go_wp2; go_ret; exact ⟨rfl, drew_grown w⟩)
set_option maxHeartbeats 1000000 in
set_option maxRecDepth 100000 in
theorem bString_noroom (b g : Nat) (p : Value) (cur : Array Value) (T : TypeId) (w : World) (hbk : w.heap[b]? = some (.cells #[p, .slice (some ⟨g, 0, none⟩) 0 0] T (0, 0))) (hg : w.heap[g]? = some (.cells cur 5 (0, 0))) :
  Calls Tryd.prog 37 #[.pointer (some ⟨b, 0, none⟩)] w fun e w' => e = .returned (.string ⟨#[]⟩) ∧ w.grownBy w' (some g) := by
 have hUS : ∀ (W : World) (q : Option Addr), (Builtin.unsafeString_ #[115, 3] 9 #[.pointer q, .int .i64 0]).run Tryd.prog W = .ok (.string .empty) W := fun W q => Lib.run_unsafeString_none W _ _ _ q
 have hlt : b < w.heap.size := by
  rcases Nat.lt_or_ge b w.heap.size with h' | h'
  ·exact h'
  ·simp [Array.getElem?_eq_none h'] at hbk
 have c1 : w.drew.cell? ⟨b, 1, none⟩ = some (.slice (some ⟨g, 0, none⟩) 0 0) := by
  have : w.drew.heap[b]? = some (.cells #[p, .slice (some ⟨g, 0, none⟩) 0 0] T (0, 0)) := hbk
  rw [Lib.cell_of_heap this]; rfl
 have hSD : (Builtin.unsafeSliceData_ #[77] 115 #[.slice (some ⟨g, 0, none⟩) 0 0]).run Tryd.prog w.drew = .ok (.pointer (some ⟨w.drew.heap.size, 0, none⟩)) (w.drew.alloc (.view ⟨g, 0, none⟩ 5)) :=
  Lib.run_unsafeSliceData_zero w.drew _ _ 5 (by kernel_rfl) ⟨g, 0, none⟩ 0 (5, cur.size) (by have hg' : w.drew.heap[g]? = some (.cells cur 5 (0, 0)) := hg; simp [World.shape?, hg'])
 have c2 : (w.drew.alloc (.view ⟨g, 0, none⟩ 5)).cell? ⟨b, 1, none⟩ = some (.slice (some ⟨g, 0, none⟩) 0 0) := by
  have : (w.drew.alloc (.view ⟨g, 0, none⟩ 5)).heap[b]? = _ := (Lib.alloc_old w.drew _ b hlt).trans hbk
  rw [Lib.cell_of_heap this]; rfl
 have c3 : (w.alloc (.view ⟨g, 0, none⟩ 5)).drew.cell? ⟨b, 1, none⟩ = some (.slice (some ⟨g, 0, none⟩) 0 0) := c2
 have c0 : w.cell? ⟨b, 1, none⟩ = some (.slice (some ⟨g, 0, none⟩) 0 0) := c1
 have mixed : (Tryd.prog).follows .mixedOrders = true := by kernel_rfl
 go_enter Tryd.func37, Tryd.ntmps37
 go_wp2
 go_region_o
 all_goals (go_wp2; go_ret; exact ⟨rfl, grown_alloc (drew_grown w) _ _⟩)
set_option maxHeartbeats 1000000 in
set_option maxRecDepth 100000 in
theorem bString_room (b g cap : Nat) (p : Value) (T : TypeId) (w : World) (hc0 : cap ≠ 0) (hbk : w.heap[b]? = some (.cells #[p, .slice (some ⟨g, 0, none⟩) 0 cap] T (0, 0))) :
  Calls Tryd.prog 37 #[.pointer (some ⟨b, 0, none⟩)] w fun e w' => e = .returned (.string ⟨#[]⟩) ∧ w.grownBy w' none := by
 have hUS : ∀ (W : World) (q : Option Addr), (Builtin.unsafeString_ #[115, 3] 9 #[.pointer q, .int .i64 0]).run Tryd.prog W = .ok (.string .empty) W := fun W q => Lib.run_unsafeString_none W _ _ _ q
 have c1 : w.drew.cell? ⟨b, 1, none⟩ = some (.slice (some ⟨g, 0, none⟩) 0 cap) := by
  have : w.drew.heap[b]? = some (.cells #[p, .slice (some ⟨g, 0, none⟩) 0 cap] T (0, 0)) := hbk
  rw [Lib.cell_of_heap this]; rfl
 have hSD : (Builtin.unsafeSliceData_ #[77] 115 #[.slice (some ⟨g, 0, none⟩) 0 cap]).run Tryd.prog w.drew = .ok (.pointer (some ⟨g, 0, none⟩)) w.drew :=
  Lib.run_unsafeSliceData_row _ _ _ _ _ _ hc0
 clear hc0
 have mixed : (Tryd.prog).follows .mixedOrders = true := by kernel_rfl
 go_enter Tryd.func37, Tryd.ntmps37
 go_wp2
 go_region_o
 all_goals (go_wp2; go_ret; exact ⟨rfl, drew_grown w⟩)
theorem ownsRow_grown {w w' : World} (h : w.grownBy w' none) (row : Option Nat) : w.grownBy w' row := ⟨h.os, h.tape, h.output, h.size, fun k hk _ => h.block k hk (by simp)⟩
def BldIs (objs : List OB) (b : Nat) (T : TypeId) (l : List UInt8) : Prop :=
 (objs[b]? = some (.box T [.o (.pointer none), .nil]) ∧ l = []) ∨ ∃ r gen, objs[b]? = some (.box T [.p b 0, .orow r gen]) ∧ objs[r]? = some (.orow 5 1 gen l.length (byA l))
def rowOf (objs : List OB) (b : Nat) : Option Nat :=
 match objs[b]? with
 | some (.box _ [_, .orow r _]) => some r
 | _ => none
def Kept (objs : List OB) (b : Nat) (objs' : List OB) : Prop := objs.length ≤ objs'.length ∧ (∀ (j : Nat) ob, objs[j]? = some ob → j ≠ b → rowOf objs b ≠ some j → objs'[j]? = some ob ∧ rowOf objs' b ≠ some j)
theorem Kept.refl (objs : List OB) (b : Nat) : Kept objs b objs := ⟨Nat.le_refl _, fun j ob h _ h2 => ⟨h, h2⟩⟩
theorem Kept.trans {o1 o2 o3 : List OB} {b : Nat} (h : Kept o1 b o2) (k : Kept o2 b o3) : Kept o1 b o3 :=
 ⟨Nat.le_trans h.1 k.1, fun j ob h1 h2 h3 => by
  obtain ⟨a1, a2⟩ := h.2 j ob h1 h2 h3
  exact k.2 j ob a1 h2 a2⟩
theorem BldIs.lt {objs : List OB} {b : Nat} {T : TypeId} {l : List UInt8} (h : BldIs objs b T l) : b < objs.length ∧ ∀ r, rowOf objs b = some r → r < objs.length := by
 rcases h with ⟨h, _⟩ | ⟨r, gen, h, h2⟩
 ·refine ⟨get_lt h, fun r hr => ?_⟩
  unfold rowOf at hr; rw [h] at hr; cases hr
 ·refine ⟨get_lt h, fun r' hr => ?_⟩
  unfold rowOf at hr; rw [h] at hr; injection hr with hr; subst hr; exact get_lt h2
theorem BldIs.app {objs : List OB} {b : Nat} {T : TypeId} {l : List UInt8} (h : BldIs objs b T l) (more : List OB) : BldIs (objs ++ more) b T l ∧ rowOf (objs ++ more) b = rowOf objs b := by
 have hlt := h.lt.1
 have e : (objs ++ more)[b]? = objs[b]? := List.getElem?_append_left hlt
 refine ⟨?_, by unfold rowOf; rw [e]⟩
 rcases h with ⟨h, h2⟩ | ⟨r, gen, h, h2⟩
 ·exact .inl ⟨by rw [e]; exact h, h2⟩
 ·exact .inr ⟨r, gen, by rw [e]; exact h, by rw [List.getElem?_append_left (get_lt h2)]; exact h2⟩
theorem Kept.drop {objs more objs' : List OB} {b : Nat} {T : TypeId} {l : List UInt8} (h : BldIs objs b T l) (k : Kept (objs ++ more) b objs') : Kept objs b objs' := by
 refine ⟨by have := k.1; simp at this; omega, fun j ob h1 h2 h3 => k.2 j ob (by rw [List.getElem?_append_left (get_lt h1)]; exact h1) h2 (by rw [(h.app more).2]; exact h3)⟩
theorem byA_append (a b : List UInt8) : byA (a ++ b) = byA a ++ byA b := by simp [byA]
section
variable [Tabs Tryd.prog] {objs : List OB} {K : List OB → AV → Prop}
set_option maxRecDepth 100000 in
theorem bWrite_k (T : TypeId) (b : Nat) (l0 l : List UInt8) (hT : BT T) (hb : BldIs objs b T l0) (hl : l0.length + l.length ≤ 140737488355328) (hk : ∀ objs', BldIs objs' b T (l0 ++ l) → Kept objs b objs' → K objs' (.tup [.i .i64 l.length, .o .nilIface])) :
  CallOk Tryd.prog 35 [.p b 0, .s l] objs K := by
 rcases hb with ⟨hb, rfl⟩ | ⟨r, gen, hb, hr⟩
 ·have hlt := get_lt hb
  refine fn_rin is_strings_Builder_WriteString fun C _ => ?_
  simp only [c_strings_Builder_WriteString, sxZ, evs, evp, setd, SV.ev, AV.flat, AV.one, AV.cells, resAs, resA, tupA, pub, pubs, AV.plain, plains, srcOf, splice, fillA, eqA, eqAs, z6, z7, z8, j2, j3, j4, j5, j6, j7, j8, j9, x0, x3, x4, x5, x6, reduceCtorEq, ↓reduceIte]
  refine kcall (copyCheck_k T b _ _ hT hb (.inl rfl) ?_)
  have e1 : (objs.set b (OB.box T [.p b 0, .nil]))[b]? = some (.box T [.p b 0, .nil]) := List.getElem?_set_self hlt
  simp only [e1, sxZ, evs, evp, setd, SV.ev, AV.flat, AV.one, AV.cells, resAs, resA, tupA, pub, pubs, AV.plain, plains, srcOf, splice, fillA, eqA, eqAs, z6, z7, z8, j2, j3, j4, j5, j6, j7, j8, j9, x0, x3, x4, x5, x6, reduceCtorEq, ↓reduceIte]
  refine ⟨by simpa using hl, ?_⟩
  have e2 : (objs.set b (OB.box T [.p b 0, .nil]) ++ [OB.orow 5 1 0 l.length (byA l)])[b]? = some (.box T [.p b 0, .nil]) := by
   rw [List.getElem?_append_left (by simpa using hlt)]; exact e1
  simp only [e2, sxZ, evs, evp, setd, SV.ev, AV.flat, AV.one, AV.cells, resAs, resA, tupA, pub, pubs, AV.plain, plains, srcOf, splice, fillA, eqA, eqAs, z6, z7, z8, j2, j3, j4, j5, j6, j7, j8, j9, x0, x3, x4, x5, x6, reduceCtorEq, ↓reduceIte]
  have e3 : (objs.set b (OB.box T [.p b 0, .nil]) ++ [OB.orow 5 1 0 l.length (byA l)]).set b (OB.box T [.p b 0, .orow objs.length 0]) = objs.set b (OB.box T [.p b 0, .orow objs.length 0]) ++ [OB.orow 5 1 0 l.length (byA l)] := by
   rw [List.set_append_left _ _ (by simpa using hlt), List.set_set]
  rw [e3]
  refine hk _ (.inr ⟨objs.length, 0, ?_, ?_⟩) ⟨by simp, fun j ob h1 h2 h3 => ⟨?_, ?_⟩⟩
  ·rw [List.getElem?_append_left (by simpa using hlt)]; exact List.getElem?_set_self hlt
  ·rw [List.getElem?_append_right (by simp)]; simp
  ·rw [List.getElem?_append_left (by simpa using get_lt h1), List.getElem?_set_ne (fun e => h2 e.symm)]; exact h1
  ·unfold rowOf
   rw [List.getElem?_append_left (by simpa using hlt), List.getElem?_set_self hlt]
   have := get_lt h1
   simp; omega
 ·have hlt := get_lt hb
  have hrl := get_lt hr
  have hne : b ≠ r := by rintro rfl; rw [hb] at hr; cases hr
  refine fn_rin is_strings_Builder_WriteString fun C _ => ?_
  simp only [c_strings_Builder_WriteString, sxZ, evs, evp, setd, SV.ev, AV.flat, AV.one, AV.cells, resAs, resA, tupA, pub, pubs, AV.plain, plains, srcOf, splice, fillA, eqA, eqAs, z6, z7, z8, j2, j3, j4, j5, j6, j7, j8, j9, x0, x3, x4, x5, x6, reduceCtorEq, ↓reduceIte]
  refine kcall (copyCheck_k T b _ _ hT hb (.inr rfl) ?_)
  rw [set_same hb]
  simp only [hb, hr, sxZ, evs, evp, setd, SV.ev, AV.flat, AV.one, AV.cells, resAs, resA, tupA, pub, pubs, AV.plain, plains, srcOf, splice, fillA, eqA, eqAs, z6, z7, z8, j2, j3, j4, j5, j6, j7, j8, j9, x0, x3, x4, x5, x6, reduceCtorEq, ↓reduceIte]
  refine ⟨by omega, ?_⟩
  have e2 : (objs.set r (OB.orow 5 1 (gen + 1) (l0.length + l.length) (byA l0 ++ byA l)))[b]? = some (.box T [.p b 0, .orow r gen]) := by
   rw [List.getElem?_set_ne (fun e => hne e.symm)]; exact hb
  simp only [e2, sxZ, evs, evp, setd, SV.ev, AV.flat, AV.one, AV.cells, resAs, resA, tupA, pub, pubs, AV.plain, plains, srcOf, splice, fillA, eqA, eqAs, z6, z7, z8, j2, j3, j4, j5, j6, j7, j8, j9, x0, x3, x4, x5, x6, reduceCtorEq, ↓reduceIte]
  refine hk _ (.inr ⟨r, gen + 1, ?_, ?_⟩) ⟨by simp, fun j ob h1 h2 h3 => ⟨?_, ?_⟩⟩
  ·exact List.getElem?_set_self (by simpa using hlt)
  ·rw [List.getElem?_set_ne hne, List.getElem?_set_self hrl, byA_append, List.length_append]
  ·have h4 : j ≠ r := by
    rintro rfl
    exact h3 (by unfold rowOf; rw [hb])
   rw [List.getElem?_set_ne (fun e => h2 e.symm), List.getElem?_set_ne (fun e => h4 e.symm)]; exact h1
  ·unfold rowOf at h3 ⊢
   rw [hb] at h3
   rw [List.getElem?_set_self (by simpa using hlt)]
   exact h3
theorem bString_k (T : TypeId) (b : Nat) (l : List UInt8) (hb : BldIs objs b T l) (hk : ∀ objs', Kept objs b objs' → K objs' (.s l)) :
  CallOk Tryd.prog 37 [.p b 0] objs K := by
 intro C _ G I w hin hm ys hd
 simp only [Dens] at hd
 obtain ⟨v, _, rfl, hv, rfl⟩ := hd
 simp only [Den] at hv
 obtain ⟨g, hg, rfl⟩ := hv
 have same : ∀ w', w.grownBy w' none → ∀ x : List UInt8, K objs (.s x) → ∃ (y : Value) (objs' : List OB) (r : AV) (G' : Gh) (I' : Imm), Ending.returned (.string ⟨x.toArray⟩) = .returned y ∧ K objs' r ∧ G.le G' ∧ Imm.le I I' ∧ In C G' I' w' ∧ MemOk G' I' objs' w' ∧ Den G' I' r y :=
  fun w' hgr x hx => ⟨_, objs, .s x, G, I, rfl, hx, Gh.le.refl G, Imm.le.refl I, hin.evolve hgr (by simp), hm.evolve hgr, by simp [Den]⟩
 rcases hb with ⟨hb, rfl⟩ | ⟨r, gen, hb, hr⟩
 ·obtain ⟨g', zs, k1, k2, k3, k4⟩ := hm.box b T _ hb
  obtain rfl : g = g' := Option.some.inj (hg.symm.trans k1)
  simp only [Dens] at k3
  obtain ⟨z1, _, rfl, d1, z2, _, rfl, d2, rfl⟩ := k3
  simp only [Den] at d2; subst d2
  refine (bString_nil g z1 T w k2).mono ?_
  rintro e w' ⟨rfl, hgr⟩
  exact same w' hgr [] (hk objs (Kept.refl _ _))
 ·obtain ⟨g', zs, k1, k2, k3, k4⟩ := hm.box b T _ hb
  obtain rfl : g = g' := Option.some.inj (hg.symm.trans k1)
  simp only [Dens] at k3
  obtain ⟨z1, _, rfl, d1, z2, _, rfl, d2, rfl⟩ := k3
  simp only [Den] at d2
  obtain ⟨gn, u, q1, q2, q3, q4⟩ := d2
  obtain ⟨u', vs, m1, m2, m3, m4, m5⟩ := hm.row r _ _ _ _ _ hr
  rw [q1] at m1; injection m1 with m1; injection m1 with m1 m6
  have hz := q3 m1.symm
  subst m1 m6 hz
  have hne : b ≠ r := by rintro rfl; rw [hb] at hr; cases hr
  have kill : ∀ w' row, (∀ k, row = some k → G.own r = some k) → w.grownBy w' row → ∀ x : List UInt8, (x = l) → ∃ (y : Value) (objs' : List OB) (r' : AV) (G' : Gh) (I' : Imm), Ending.returned (.string ⟨x.toArray⟩) = .returned y ∧ K objs' r' ∧ G.le G' ∧ Imm.le I I' ∧ In C G' I' w' ∧ MemOk G' I' objs' w' ∧ Den G' I' r' y := by
   rintro w' row hrow hgr x rfl
   refine ⟨_, objs.set r .dead, .s x, G, I, rfl, hk _ ⟨by simp, fun j ob h1 h2 h3 => ⟨?_, ?_⟩⟩, Gh.le.refl G, Imm.le.refl I, hin.evolve hgr (fun k hk => hin.blk r k (hrow k hk)), MemOk.kill hm r hrow hgr, by simp [Den]⟩
   ·have h4 : j ≠ r := by
     rintro rfl
     exact h3 (by unfold rowOf; rw [hb])
    rw [List.getElem?_set_ne (fun e => h4 e.symm)]; exact h1
   ·unfold rowOf at h3 ⊢
    rw [hb] at h3
    rw [List.getElem?_set_ne (fun e => hne e.symm), hb]; exact h3
  have hown := own_of_cur m5 q1
  have hvs := dens_byA_inv m3
  rcases m2.2 with ⟨rfl, hl0⟩ | ⟨gr, cap, cur, rfl, _, hgc, hnc, hcm, hcs, htake⟩
  ·have hl : l = [] := List.eq_nil_of_length_eq_zero hl0
   subst hl
   refine (bString_nil g z1 T w k2).mono ?_
   rintro e w' ⟨rfl, hgr⟩
   exact kill w' none (by simp) hgr [] rfl
  ·have hrow : ∀ k, some gr = some k → G.own r = some k := by
    intro k hk'
    injection hk' with hk'; subst hk'
    rw [hown]; rfl
   by_cases hl : l = []
   ·subst hl
    by_cases hc : cap = 0
    ·subst hc
     refine (bString_noroom g gr z1 cur T w k2 hgc).mono ?_
     rintro e w' ⟨rfl, hgr⟩
     exact kill w' (some gr) hrow hgr [] rfl
    ·refine (bString_room g gr cap z1 T w hc k2).mono ?_
     rintro e w' ⟨rfl, hgr⟩
     exact kill w' (some gr) hrow (ownsRow_grown hgr _) [] rfl
   ·refine (bString_full g gr cap l z1 cur T w hl k2 hgc hnc hcm (by omega) ?_).mono ?_
    ·intro j x hx
     exact m2.cells (g := gr) rfl j (.int .u8 x.toNat) (by rw [hvs]; simp [hx])
    ·rintro e w' ⟨rfl, hgr⟩
     exact kill w' (some gr) hrow hgr l rfl
end
section
attribute [local irreducible] run
theorem encL_fuel (k : Nat) (hk : 1 ≤ k) : ∀ (n m : Nat) (s : List UInt8), s.length ≤ n → s.length ≤ m → encL k n s = encL k m s
 | n, m, [], _, _ => by cases n <;> cases m <;> rfl
 | 0, _, c :: s, h, _ => by simp at h
 | _, 0, c :: s, _, h => by simp at h
 | n + 1, m + 1, c :: s, h1, h2 => by
  rw [encL, encL, if_neg (by simp), if_neg (by simp)]
  simp only [List.length_cons] at h1 h2
  rw [encL_fuel k hk n m _ (by rw [List.length_drop, List.length_cons]; omega) (by rw [List.length_drop, List.length_cons]; omega)]
theorem encL_step {k : Nat} (hk : 1 ≤ k) {l : List UInt8} (h : l ≠ []) : encL k l.length l = hexL (min k l.length) ++ (13 :: 10 :: (l.take k ++ 13 :: 10 :: encL k (l.drop k).length (l.drop k))) := by
 obtain ⟨n, hn⟩ : ∃ n, l.length = n + 1 := ⟨l.length - 1, by have := List.length_pos_iff.2 h; omega⟩
 conv => lhs; rw [hn, encL, if_neg h]
 rw [encL_fuel k hk n (l.drop k).length (l.drop k) (by rw [List.length_drop]; omega) (Nat.le_refl _)]
theorem take_min (l : List UInt8) (k : Nat) : l.take (min k l.length) = l.take k ∧ l.drop (min k l.length) = l.drop k := by
 rcases Nat.le_total k l.length with h | h
 ·rw [Nat.min_eq_left h]; exact ⟨rfl, rfl⟩
 ·rw [Nat.min_eq_right h, List.take_of_length_le (Nat.le_refl _), List.take_of_length_le h, List.drop_eq_nil_of_le (Nat.le_refl _), List.drop_eq_nil_of_le h]; exact ⟨rfl, rfl⟩
theorem bbt : BT 79 := by unfold BT; kernel_rfl
theorem dig16 : ∀ n : Fin 16, List.drop n.val (List.take (n.val + 1) ([48, 49, 50, 51, 52, 53, 54, 55, 56, 57, 97, 98, 99, 100, 101, 102] : List UInt8)) = [hexc n.val] := by decide +kernel
section
variable [Tabs Tryd.prog] [Brn Tryd.prog] {objs : List OB} {K : List OB → AV → Prop}
set_option maxRecDepth 100000 in
theorem bEncode_k (s : List UInt8) (size : Int) (hs : s.length ≤ 4000) (h0 : -9223372036854775808 ≤ size) (h1 : size ≤ 9223372036854775807) (hk : K objs (.s (encodeL s size))) : CallOk Tryd.prog 17 [.s s, .i .i64 size] objs K := by
 refine fn_rn is_body_Encode rfl fun C _ => ?_
 obtain ⟨k, hkk⟩ : ∃ k, k = (max size 1).toNat := ⟨_, rfl⟩
 have hk1 : 1 ≤ k := by omega
 have hE : encodeL s size = encL k s.length s := by unfold encodeL; rw [hkk]
 have hlen0 := encL_le k hk1 s.length s (by omega) (Nat.le_refl _)
 simp only [c_body_Encode, sxZ, evs, evp, setd, SV.ev, AV.flat, AV.one, AV.cells, resAs, resA, tupA, pub, pubs, AV.plain, plains, srcOf, splice, fillA, eqA, eqAs, z6, z7, z8, j2, j3, j4, j5, j6, j7, j8, j9, x0, x3, x4, x5, x6, reduceCtorEq, ↓reduceIte]
 refine rn_loop (fun n objs tm => ∃ (l pre : List UInt8), n = l.length ∧ l.length ≤ s.length ∧ encodeL s size = pre ++ encL k l.length l ∧ BldIs objs 0 79 pre ∧ tm.length = 30 ∧ tm[1]? = some (.i .i64 size) ∧ tm[5]? = some (.p 0 0) ∧ tm[6]? = some (.s l)) s.length ⟨s, [], rfl, Nat.le_refl _, hE, .inl ⟨rfl, rfl⟩, rfl, rfl, rfl, rfl⟩ ?_
 rintro n o tm ⟨l, pre, rfl, hll, hpre, hb, hlen, t1, t5, t6⟩
 have hpl := congrArg List.length hpre
 rw [List.length_append, hE] at hpl
 by_cases c1 : l = []
 ·subst c1
  simp only [sxZ, evs, evp, setd, SV.ev, AV.flat, AV.one, AV.cells, resAs, resA, tupA, pub, pubs, AV.plain, plains, srcOf, splice, fillA, eqA, eqAs, z6, z7, z8, j2, j3, j4, j5, j6, j7, j8, j9, x0, x3, x4, x5, x6, reduceCtorEq, ↓reduceIte, List.getElem?_set, hlen, t1, t5, t6]
  refine kcall (bWrite_k 79 0 pre [48, 13, 10, 13, 10] bbt hb (by simp only [List.length_cons, List.length_nil]; omega) fun o' k1 k2 => ?_)
  simp only [sxZ, evs, evp, setd, SV.ev, AV.flat, AV.one, AV.cells, resAs, resA, tupA, pub, pubs, AV.plain, plains, srcOf, splice, fillA, eqA, eqAs, z6, z7, z8, j2, j3, j4, j5, j6, j7, j8, j9, x0, x3, x4, x5, x6, reduceCtorEq, ↓reduceIte, List.getElem?_set, hlen, t1, t5, t6]
  refine kcall (bString_k 79 0 _ k1 fun o2 k3 => ?_)
  simp only [sxZ, evs, evp, setd, SV.ev, AV.flat, AV.one, AV.cells, resAs, resA, tupA, pub, pubs, AV.plain, plains, srcOf, splice, fillA, eqA, eqAs, z6, z7, z8, j2, j3, j4, j5, j6, j7, j8, j9, x0, x3, x4, x5, x6, reduceCtorEq, ↓reduceIte, List.getElem?_set, hlen]
  rw [hpre] at hk
  exact hk
 ·have hst := encL_step hk1 c1
  have hlp : 0 < l.length := List.length_pos_iff.2 c1
  have hx1 : (if size < 1 then 1 else size) = ((k : Nat) : Int) := by split <;> omega
  have hx2 : (if ((l.length : Nat) : Int) < ((k : Nat) : Int) then ((l.length : Nat) : Int) else ((k : Nat) : Int)) = ((min k l.length : Nat) : Int) := by split <;> omega
  obtain ⟨hm1, hm2⟩ := take_min l k
  have hxl := hexL_len (n := min k l.length) (by omega)
  have htl : (l.take k).length ≤ l.length := by rw [List.length_take]; omega
  simp only [sxZ, evs, evp, setd, SV.ev, AV.flat, AV.one, AV.cells, resAs, resA, tupA, pub, pubs, AV.plain, plains, srcOf, splice, fillA, eqA, eqAs, z6, z7, z8, j2, j3, j4, j5, j6, j7, j8, j9, x0, x3, x4, x5, x6, reduceCtorEq, ↓reduceIte, List.getElem?_set, hlen, t1, t5, t6, c1, hx1, hx2]
  refine kdcall (fmtHex_k (min k l.length) (by omega) ⟨rfl, rfl⟩) ?_
  simp only [sxZ, evs, evp, setd, SV.ev, AV.flat, AV.one, AV.cells, resAs, resA, tupA, pub, pubs, AV.plain, plains, srcOf, splice, fillA, eqA, eqAs, z6, z7, z8, j2, j3, j4, j5, j6, j7, j8, j9, x0, x3, x4, x5, x6, reduceCtorEq, ↓reduceIte, List.getElem?_set, hlen, t1, t5, t6, Int.toNat_natCast, hm1, hm2]
  refine ⟨by omega, ⟨by omega, by omega⟩, by omega, by omega, kcall (bWrite_k 79 0 pre _ bbt hb (by simp only [List.length_append, List.length_cons, List.length_nil]; omega) fun o' k1 k2 => ?_)⟩
  have hdl : (l.drop k).length < l.length := by rw [List.length_drop]; omega
  simp only [sxZ, evs, evp, setd, SV.ev, AV.flat, AV.one, AV.cells, resAs, resA, tupA, pub, pubs, AV.plain, plains, srcOf, splice, fillA, eqA, eqAs, z6, z7, z8, j2, j3, j4, j5, j6, j7, j8, j9, x0, x3, x4, x5, x6, reduceCtorEq, ↓reduceIte, List.getElem?_set, hlen, t1, t5, t6, Int.toNat_natCast, List.take_length, hm2]
  refine ⟨⟨by omega, by omega⟩, _, hdl, l.drop k, _, rfl, by omega, ?_, k1, rfl⟩
  rw [hpre, hst]; simp
omit [Brn Tryd.prog] in
set_option maxRecDepth 100000 in
theorem rhex_k (n : Nat) (hn : n < 4096) (hk : K objs (.s (hexL n))) : CallOk Tryd.prog 42 [.i .i64 n] objs K := by
 refine fn_rn is_ref19_hex rfl fun C _ => ?_
 simp only [c_ref19_hex, sxZ, evs, evp, setd, SV.ev, AV.flat, AV.one, AV.cells, resAs, resA, tupA, pub, pubs, AV.plain, plains, srcOf, splice, fillA, eqA, eqAs, z6, z7, z8, j2, j3, j4, j5, j6, j7, j8, j9, x0, x3, x4, x5, x6, reduceCtorEq, ↓reduceIte]
 refine rn_loop (fun m objs tm => ∃ (v : Nat) (ds : List UInt8), m = v + 1 ∧ v < 4096 ∧ ds.length ≤ 8 ∧ objs = [] ∧ hexL n = hexL v ++ ds ∧ tm.length = 17 ∧ tm[0]? = some (.i .i64 v) ∧ tm[3]? = some (.s ds)) (n + 1) ⟨n, [], rfl, hn, by simp, rfl, by simp, rfl, rfl, rfl⟩ ?_
 rintro m _ tm ⟨v, ds, rfl, hv, hdl, rfl, hh, hlen, t0, t3⟩
 have hl3 := hexL_len hn
 rw [hh, List.length_append] at hl3
 have hvl : 0 < (hexL v).length := List.length_pos_iff.2 (hexL_ne v)
 have ht : ((v : Nat) : Int).tmod 16 = ((v % 16 : Nat) : Int) := by rw [Int.tmod_eq_emod_of_nonneg (by omega)]; omega
 have hq : ((v : Nat) : Int).tdiv 16 = ((v / 16 : Nat) : Int) := by rw [Int.tdiv_eq_ediv_of_nonneg (by omega)]; omega
 have h1 : (((v % 16 : Nat) : Int) + 1).toNat = v % 16 + 1 := by omega
 have hd : List.drop (v % 16) (48 :: List.take (v % 16) ([49, 50, 51, 52, 53, 54, 55, 56, 57, 97, 98, 99, 100, 101, 102] : List UInt8)) = [hexc (v % 16)] := dig16 ⟨v % 16, by omega⟩
 by_cases c1 : ((v / 16 : Nat) : Int) = 0
 ·have e : hexL n = hexc (v % 16) :: ds := by rw [hh, hexL_len' (n := v) (by omega), show v % 16 = v by omega]; rfl
  rw [e] at hk
  simp only [sxZ, evs, evp, setd, SV.ev, AV.flat, AV.one, AV.cells, resAs, resA, tupA, pub, pubs, AV.plain, plains, srcOf, splice, fillA, eqA, eqAs, z6, z7, z8, j2, j3, j4, j5, j6, j7, j8, j9, x0, x3, x4, x5, x6, reduceCtorEq, ↓reduceIte, List.getElem?_set, hlen, t0, t3, ht, hq, h1, Int.toNat_natCast, hd, c1, List.singleton_append]
  exact ⟨⟨by omega, by omega⟩, ⟨by omega, by omega, by omega⟩, by omega, hk⟩
 ·have e : hexL n = hexL (v / 16) ++ (hexc (v % 16) :: ds) := by
   rw [hh]
   conv => lhs; arg 1; rw [hexL, dif_neg (show ¬ v < 16 by omega)]
   simp
  simp only [sxZ, evs, evp, setd, SV.ev, AV.flat, AV.one, AV.cells, resAs, resA, tupA, pub, pubs, AV.plain, plains, srcOf, splice, fillA, eqA, eqAs, z6, z7, z8, j2, j3, j4, j5, j6, j7, j8, j9, x0, x3, x4, x5, x6, reduceCtorEq, ↓reduceIte, List.getElem?_set, hlen, t0, t3, ht, hq, h1, Int.toNat_natCast, hd, c1, List.singleton_append]
  exact ⟨⟨by omega, by omega⟩, ⟨by omega, by omega, by omega⟩, by omega, ⟨by omega, by omega⟩, _, by omega, v / 16, _, rfl, by omega, by rw [List.length_cons]; omega, e, rfl, rfl⟩
omit [Brn Tryd.prog] in
set_option maxRecDepth 100000 in
theorem rbEncode_k (s : List UInt8) (size : Int) (hs : s.length ≤ 4000) (h0 : -9223372036854775808 ≤ size) (h1 : size ≤ 9223372036854775807) (hk : K objs (.s (encodeL s size))) : CallOk Tryd.prog 19 [.s s, .i .i64 size] objs K := by
 refine fn_rn is_ref19_Encode rfl fun C _ => ?_
 obtain ⟨k, hkk⟩ : ∃ k, k = (max size 1).toNat := ⟨_, rfl⟩
 have hk1 : 1 ≤ k := by omega
 have hE : encodeL s size = encL k s.length s := by unfold encodeL; rw [hkk]
 have hlen0 := encL_le k hk1 s.length s (by omega) (Nat.le_refl _)
 simp only [c_ref19_Encode, sxZ, evs, evp, setd, SV.ev, AV.flat, AV.one, AV.cells, resAs, resA, tupA, pub, pubs, AV.plain, plains, srcOf, splice, fillA, eqA, eqAs, z6, z7, z8, j2, j3, j4, j5, j6, j7, j8, j9, x0, x3, x4, x5, x6, reduceCtorEq, ↓reduceIte]
 refine rn_loop (fun n objs tm => ∃ (l pre : List UInt8), n = l.length ∧ l.length ≤ s.length ∧ objs = [] ∧ encodeL s size = pre ++ encL k l.length l ∧ tm.length = 29 ∧ tm[0]? = some (.s l) ∧ tm[1]? = some (.i .i64 size) ∧ tm[5]? = some (.s pre)) s.length ⟨s, [], rfl, Nat.le_refl _, rfl, hE, rfl, rfl, rfl, rfl⟩ ?_
 rintro n o tm ⟨l, pre, rfl, hll, rfl, hpre, hlen, t0, t1, t5⟩
 have hpl := congrArg List.length hpre
 rw [List.length_append, hE] at hpl
 by_cases c1 : l = []
 ·subst c1
  rw [hpre] at hk
  simp only [sxZ, evs, evp, setd, SV.ev, AV.flat, AV.one, AV.cells, resAs, resA, tupA, pub, pubs, AV.plain, plains, srcOf, splice, fillA, eqA, eqAs, z6, z7, z8, j2, j3, j4, j5, j6, j7, j8, j9, x0, x3, x4, x5, x6, reduceCtorEq, ↓reduceIte, List.getElem?_set, hlen, t0, t1, t5]
  exact ⟨by omega, hk⟩
 ·have hst := encL_step hk1 c1
  have hlp : 0 < l.length := List.length_pos_iff.2 c1
  have hx1 : (if 1 < size then size else 1) = ((k : Nat) : Int) := by split <;> omega
  have hx2 : (if ((l.length : Nat) : Int) < ((k : Nat) : Int) then ((l.length : Nat) : Int) else ((k : Nat) : Int)) = ((min k l.length : Nat) : Int) := by split <;> omega
  obtain ⟨hm1, hm2⟩ := take_min l k
  have hxl := hexL_len (n := min k l.length) (by omega)
  have htl : (l.take k).length ≤ l.length := by rw [List.length_take]; omega
  have hdl : (l.drop k).length < l.length := by rw [List.length_drop]; omega
  simp only [sxZ, evs, evp, setd, SV.ev, AV.flat, AV.one, AV.cells, resAs, resA, tupA, pub, pubs, AV.plain, plains, srcOf, splice, fillA, eqA, eqAs, z6, z7, z8, j2, j3, j4, j5, j6, j7, j8, j9, x0, x3, x4, x5, x6, reduceCtorEq, ↓reduceIte, List.getElem?_set, hlen, t0, t1, t5, c1, hx1, hx2]
  refine kdcall (rhex_k (min k l.length) (by omega) ⟨rfl, rfl⟩) ?_
  simp only [sxZ, evs, evp, setd, SV.ev, AV.flat, AV.one, AV.cells, resAs, resA, tupA, pub, pubs, AV.plain, plains, srcOf, splice, fillA, eqA, eqAs, z6, z7, z8, j2, j3, j4, j5, j6, j7, j8, j9, x0, x3, x4, x5, x6, reduceCtorEq, ↓reduceIte, List.getElem?_set, hlen, t0, t1, t5, Int.toNat_natCast, hm1, hm2, List.take_length]
  exact ⟨by omega, by omega, ⟨by omega, by omega⟩, by omega, by omega, ⟨by omega, by omega, by omega⟩, _, hdl, l.drop k, _, rfl, by omega, by rw [hpre, hst]; simp, rfl, rfl⟩
end
end
end Go.Proofs.YtecphoceobgncaaDoor
namespace Go.Proofs.YtecphoceobgncaaDoor
open Go.RowKit Sx
section
variable [Tabs Tryd.prog] {objs : List OB} {K : List OB → AV → Prop}
end
end Go.Proofs.YtecphoceobgncaaDoor
namespace Go.Proofs.YtecphoceobgncaaDoor
open Go.RowKit Sx
section
variable [Tabs Tryd.prog] {objs : List OB} {K : List OB → AV → Prop}
theorem hLower_k (s : List UInt8) (hs : s.length ≤ 140737488351232) (hk : K objs (.s (lowL s))) : CallOk Tryd.prog 45 [.s s] objs K :=
 conv (vs := [.string (S s)]) rfl rfl (fun w => Lower_any (S s) w (by rw [S_size]; exact hs)) hk
theorem hTrim_k (s : List UInt8) (hs : s.length ≤ maxLen) (hk : K objs (.s (trimL s))) : CallOk Tryd.prog 75 [.s s] objs K :=
 convs (vs := [.string (S s)]) rfl rfl (fun w => Trim_any (S s) w (by rw [S_size]; exact hs)) hk
end
end Go.Proofs.YtecphoceobgncaaDoor
namespace Go.Proofs.YtecphoceobgncaaDoor
open Go.RowKit Sx
end Go.Proofs.YtecphoceobgncaaDoor
namespace Go.Proofs.YtecphoceobgncaaDoor
open Go.RowKit Sx
section
variable [Tabs Tryd.prog] {objs : List OB} {K : List OB → AV → Prop}
end
end Go.Proofs.YtecphoceobgncaaDoor
namespace Go.Proofs.YtecphoceobgncaaDoor
open Go.RowKit Sx
theorem sv_dens (G : Gh) (I : Imm) : ∀ l : List (List UInt8), Dens G I (l.map .s) (sv l)
 | [] => Dens.nil
 | x :: l => by
  show Dens G I (AV.s x :: l.map .s) (.string (S x) :: sv l)
  exact Dens.cons (by simp [Den]) (sv_dens G I l)
section
variable [Tabs Tryd.prog] {objs : List OB} {K : List OB → AV → Prop}
end
end Go.Proofs.YtecphoceobgncaaDoor
namespace Go.Proofs.YtecphoceobgncaaDoor
open Go.RowKit Sx
theorem split_cells2 (p s : List UInt8) : (Lib.splitB (S p) 0 (Lib.countB (S s) (S p)) (S s)).map Value.string = sv (Lib.split s p) := by
 have h : (Lib.splitB (S p) 0 (Lib.countB (S s) (S p)) (S s)).map (·.data.toList) = Lib.split s p := Lib.splitB_data (S p) 0 (Lib.countB (S s) (S p)) (S s)
 rw [← h]
 unfold sv
 rw [List.map_map]
 apply List.map_congr_left
 intro x _
 simp [S]
theorem split_num2 (p s : List UInt8) (hp : 1 ≤ p.length) : Lib.countB (S s) (S p) + 1 = (Lib.split s p).length := by
 have h : (Lib.splitB (S p) 0 (Lib.countB (S s) (S p)) (S s)).map (·.data.toList) = Lib.split s p := Lib.splitB_data (S p) 0 (Lib.countB (S s) (S p)) (S s)
 rw [← h, List.length_map, Lib.splitB_all (S p) (by rw [S_size]; exact hp) 0 _ _ rfl]
section
variable [Tabs Tryd.prog] {objs : List OB} {K : List OB → AV → Prop}
theorem hSplit_k [Shp Tryd.prog] (s p : List UInt8) (hp : 1 ≤ p.length) (hs : s.length ≤ 1000000) (hk : K objs (.row (Lib.split s p).length ((Lib.split s p).map .s))) : CallOk Tryd.prog 74 [.s s, .s p] objs K := by
 intro C _ G I w hin hm ys hd
 have hT := hin.tab (P := Tryd.prog)
 rw [(vals_den G I [.s s, .s p] [.string (S s), .string (S p)] rfl ys).1 hd]
 refine (Tryd.strings_Split_shaped (S s) (S p) w (Shp.sh w hT) (by rw [S_size]; omega) (by rw [S_size]; exact hp)).mono ?_
 rintro e w' ⟨rfl, rfl⟩
 have hn := split_num2 p s hp
 have hc := split_cells2 p s
 have hg : w.grownBy (w.alloc (.cells ((Lib.splitB (S p) 0 (Lib.countB (S s) (S p)) (S s)).map Value.string).toArray 9)) none := grown_alloc (World.grownBy.refl w _) _ _
 obtain ⟨I', s1, s2, s3, s4⟩ := newimm_at hin hm hg w.heap.size (Lib.split s p).length (Lib.split s p).length ((Lib.split s p).map .s) (sv (Lib.split s p)) (Nat.le_refl _) (Nat.le_refl _) (sv_dens G I _) (sv_one _) (fun j u hj => by
  rw [World.cell?_alloc_new, hc]; simpa using hj)
 rw [hn]
 exact ⟨_, objs, .row (Lib.split s p).length ((Lib.split s p).map .s), G, I', rfl, hk, Gh.le.refl G, s1, s2, s3, s4⟩
end
end Go.Proofs.YtecphoceobgncaaDoor
namespace Go.Proofs.YtecphoceobgncaaDoor
open Go.RowKit Sx
def fcells (l : List (List UInt8 × List UInt8)) : List AV := l.flatMap fun p => [.s p.1, .s p.2]
theorem fcells_len (l : List (List UInt8 × List UInt8)) : (fcells l).length = l.length * 2 := by
 induction l with
 | nil => rfl
 | cons p l ih => simp [fcells] at ih ⊢; omega
section
variable [Tabs Tryd.prog] {objs : List OB} {K : List OB → AV → Prop}
end
end Go.Proofs.YtecphoceobgncaaDoor
namespace Go.Proofs.YtecphoceobgncaaDoor
open Go.RowKit Sx
section
variable [Tabs Tryd.prog] {objs : List OB} {K : List OB → AV → Prop}
end
end Go.Proofs.YtecphoceobgncaaDoor
namespace Go.Proofs.YtecphoceobgncaaDoor
open Go.RowKit Sx
section
variable [Tabs Tryd.prog] {objs : List OB} {K : List OB → AV → Prop}
end
end Go.Proofs.YtecphoceobgncaaDoor
namespace Go.Proofs.YtecphoceobgncaaDoor
open Go.RowKit Sx
theorem hrdw_len (l : List UInt8) : (rdw l).length ≤ l.length := by
 unfold rdw
 rw [List.length_reverse]
 have := (List.dropWhile_sublist (p := blank) (l := l.reverse)).length_le
 simpa using this
theorem htrim_len (l : List UInt8) : (trimL l).length ≤ l.length := Nat.le_trans (hrdw_len _) (List.dropWhile_sublist (p := blank) (l := l)).length_le
end Go.Proofs.YtecphoceobgncaaDoor
namespace Go.Proofs.YtecphoceobgncaaDoor
open Go.RowKit
end Go.Proofs.YtecphoceobgncaaDoor
namespace Go.Proofs.YtecphoceobgncaaDoor
open Go.RowKit
end Go.Proofs.YtecphoceobgncaaDoor
namespace Go.Proofs.YtecphoceobgncaaDoor
open Go.RowKit
theorem Brow.cap {w : World} {B g n cap : Nat} {l : List UInt8} (h : Brow w B (.slice (some ⟨g, 0, none⟩) n cap) l) : n = l.length ∧ n ≤ cap ∧ cap ≤ maxLen := by
 rcases h.2 with ⟨e, _⟩ | ⟨g', cap', cur, e, hb, hg, hnc, hcm, _⟩
 ·simp at e
 ·simp only [Value.slice.injEq] at e
  obtain ⟨_, rfl, rfl⟩ := e
  exact ⟨rfl, hnc, hcm⟩
theorem Brow.pre {w : World} {B g n cap : Nat} {l : List UInt8} (h : Brow w B (.slice (some ⟨g, 0, none⟩) n cap) l) (k : Nat) (hk : k ≤ l.length) : Brow w B (.slice (some ⟨g, 0, none⟩) k cap) (l.take k) := by
 rcases h.2 with ⟨e, _⟩ | ⟨g', cap', cur, e, hb, hg, hnc, hcm, hcs, ht⟩
 ·simp at e
 ·simp only [Value.slice.injEq] at e
  obtain ⟨hgg, rfl, rfl⟩ := e
  obtain rfl : g = g' := by simpa using hgg
  have hlen : (l.take k).length = k := by rw [List.length_take]; omega
  refine ⟨by rw [bv_length]; simp, .inr ⟨g, cap, cur, by rw [hlen], hb, hg, by rw [hlen]; omega, hcm, hcs, ?_⟩⟩
  rw [hlen]
  have := congrArg (List.take k) ht
  rw [Nat.mul_one] at this ⊢
  rw [List.take_take, Nat.min_eq_left hk] at this
  rw [this]
  simp [bv, List.map_take]
end Go.Proofs.YtecphoceobgncaaDoor
namespace Go.Proofs.YtecphoceobgncaaDoor
open Go.RowKit
end Go.Proofs.YtecphoceobgncaaDoor
namespace Go.Proofs.YtecphoceobgncaaDoor
open Go.RowKit
attribute [local go_sem ↓] Go.wp_at_zero Go.wp_at_succ
end Go.Proofs.YtecphoceobgncaaDoor
namespace Go.Proofs.YtecphoceobgncaaDoor
open Go.RowKit Sx
theorem strs_den (G : Gh) (I : Imm) : ∀ (xs : List (List UInt8)) (ys : List Value), Dens G I (xs.map .s) ys → ys = xs.map fun l => .string ⟨l.toArray⟩
 | [], ys, h => by simpa [Dens] using h
 | x :: xs, ys, h => by
  simp only [List.map_cons, Dens, Den] at h
  obtain ⟨y, ys', rfl, rfl, h2⟩ := h
  rw [strs_den G I xs ys' h2]; rfl
section
variable [Tabs Tryd.prog] {objs : List OB} {K : List OB → AV → Prop}
theorem sJoin_k (xs : List (List UInt8)) (sep : List UInt8) (hN : xs.length ≤ 140737488355328) (hl : (Lib.join xs sep).length ≤ 140737488355328) (hk : K objs (.s (Lib.join xs sep))) : CallOk Tryd.prog 72 [.row xs.length (xs.map .s), .s sep] objs K := by
 refine callok_pure (.s (Lib.join xs sep)) hk fun G I w ys hm hd => ?_
 simp only [Dens, Den] at hd
 obtain ⟨y, ys', rfl, ⟨a, c, zs, rfl, ⟨hc, _⟩, hz, _, hi⟩, y2, ys2, rfl, rfl, rfl⟩ := hd
 have hz := strs_den G I xs zs hz
 subst hz
 refine ⟨_, ?_, rfl⟩
 cases xs with
 | nil =>
  refine (Tryd.strings_Join_none a c (S sep) w).mono ?_
  rintro e w' ⟨rfl, rfl⟩
  exact ⟨by rw [show Lib.join [] sep = [] from rfl], Qb.refl _⟩
 | cons x xs =>
  obtain ⟨g, off, rfl, h0⟩ := hi 0 _ rfl
  have hcell : ∀ (j : Nat) z, ((x :: xs).map (fun l : List UInt8 => (⟨l.toArray⟩ : ByteArray)))[j]? = some z → w.cell? ⟨g, off + j, none⟩ = some (.string z) := by
   intro j z hj
   rw [List.getElem?_map] at hj
   obtain ⟨l, hl, rfl⟩ := Option.map_eq_some_iff.1 hj
   obtain ⟨g', off', e, h1⟩ := hi j _ (by rw [List.getElem?_map, hl]; rfl)
   cases e
   exact hm.imm _ _ _ h1
  have e1 : ((x :: xs).map (fun l : List UInt8 => (⟨l.toArray⟩ : ByteArray))).map (·.data.toList) = x :: xs := by
   rw [List.map_map]; simp [Function.comp_def]
  have := Tryd.strings_Join g off c ((x :: xs).map fun l => ⟨l.toArray⟩) (S sep) w hcell (World.block_lt_of_cell? (h := hcell 0 _ rfl)) (by simpa using hN) (by simpa using hc) (by rw [e1, S_list]; exact hl)
  rw [e1, S_list, List.length_map] at this
  exact this
end
end Go.Proofs.YtecphoceobgncaaDoor
namespace Go.Proofs.YtecphoceobgncaaDoor
open List renaming replicate → z6
open Nat renaming reduceAdd → z7, reduceSub → z8, reduceLeDiff → j2, reduceLT → j3, reduceMul → j4, reduceEqDiff → j5
open Int renaming reduceToNat → j6, reduceAdd → j7, reduceSub → j8, reduceMul → j9, reduceNeg → x0, reduceLT → x3, reduceLE → x4, reduceEq → x5, reduceNe → x6
open Go.RowKit Sx
theorem callok_res {P : Program} [Tabs P] {f : FuncId} {args : List AV} {objs : List OB} {K : List OB → AV → Prop} (r' : AV) (hc : CallOk P f args objs (fun o r => (∀ G I y, Den G I r y → Den G I r' y) ∧ K o r')) : CallOk P f args objs K := by
 intro C _ G I w hin hm ys hd
 refine (hc C G I w hin hm ys hd).mono ?_
 rintro e w' ⟨y, objs', r, G', I', he, ⟨hr, hk⟩, h1, h2, h3, h4, hy⟩
 exact ⟨y, objs', r', G', I', he, hk, h1, h2, h3, h4, hr _ _ _ hy⟩
theorem den_nil_row {G : Gh} {I : Imm} {y : Value} (h : Den G I .nil y) : Den G I (.row 0 []) y := by
 simp only [Den] at h ⊢
 exact ⟨none, 0, [], h, ⟨Nat.le_refl _, fun ad h => by cases h⟩, Dens.nil, by simp, by simp⟩
def hdAV (mi st : Int) (l : List (List UInt8 × List UInt8)) : AV := .agg [.i .i64 mi, .i .i64 st, .row l.length (fcells l)]
theorem fc_plain : ∀ l : List (List UInt8 × List UInt8), plains (fcells l) = true
 | [] => rfl
 | p :: l => fc_plain l
theorem strs_plain : ∀ l : List (List UInt8), plains (l.map AV.s) = true
 | [] => rfl
 | x :: l => strs_plain l
theorem fc_at {l : List (List UInt8 × List UInt8)} {i : Nat} (h : i < l.length) : ((fcells l).drop (i * 2)).take 2 = [.s l[i].1, .s l[i].2] := by
 induction l generalizing i with
 | nil => simp at h
 | cons p l ih =>
  cases i with
  | zero => rfl
  | succ i =>
   have e : (i + 1) * 2 = i * 2 + 1 + 1 := by omega
   rw [e]
   show ((fcells l).drop (i * 2)).take 2 = _
   rw [ih (by simpa using h)]
   rfl
def strsAV (l : List (List UInt8)) : AV := if l = [] then .nil else .row l.length (l.map .s)
theorem den_strs {G : Gh} {I : Imm} {y : Value} (l : List (List UInt8)) (h : Den G I (strsAV l) y) : Den G I (.row l.length (l.map .s)) y := by
 unfold strsAV at h
 split at h
 ·rename_i e; subst e; exact den_nil_row h
 ·exact h
theorem hpubs_strs (objs : List OB) (d : Nat) : ∀ l : List (List UInt8), pubs objs d (l.map .s) = some (l.map .s)
 | [] => by simp [pubs]
 | x :: l => by
  have h := hpubs_strs objs d l
  have h1 : pub objs d (AV.s x) = some (AV.s x) := by cases d <;> simp [pub, AV.plain]
  simp only [List.map_cons, pubs, h1, h]
def valsL (l : List (List UInt8 × List UInt8)) (name : List UInt8) : List (List UInt8) := (l.filter fun p => eqL p.1 name).map (·.2)
theorem vals_snoc (l : List (List UInt8 × List UInt8)) (i : Nat) (h : i < l.length) (name : List UInt8) : valsL (l.take (i + 1)) name = if eqL l[i].1 name = true then valsL (l.take i) name ++ [l[i].2] else valsL (l.take i) name := by
 unfold valsL
 rw [List.take_succ_eq_append_getElem h, List.filter_append, List.map_append, List.filter_cons, List.filter_nil]
 split <;> simp_all
theorem vals_len (l : List (List UInt8 × List UInt8)) (i : Nat) (name : List UInt8) : (valsL (l.take i) name).length ≤ l.length := by
 unfold valsL
 rw [List.length_map]
 refine Nat.le_trans (List.length_filter_le _ _) ?_
 rw [List.length_take]; omega
theorem own_new (objs : List OB) (b x : OB) (more : List OB) : (objs ++ [b] ++ [x] ++ more)[objs.length + 1]? = some x := by simp
theorem own_set (objs : List OB) (r : Nat) (x : OB) (h : r < objs.length) (more : List OB) : (objs.set r x ++ more)[r]? = some x := by
 rw [List.getElem?_append_left (by simpa using h), List.getElem?_set_self h]
theorem lens_le (b : Nat) : ∀ xs : List (List UInt8), (∀ x ∈ xs, x.length ≤ b) → Lib.lens xs ≤ b * xs.length
 | [], _ => by simp [Lib.lens]
 | x :: xs, h => by
  have h1 := lens_le b xs (fun y hy => h y (List.mem_cons_of_mem _ hy))
  have h2 := h x (List.mem_cons_self ..)
  have : Lib.lens (x :: xs) = x.length + Lib.lens xs := by simp [Lib.lens]
  rw [this, List.length_cons, Nat.mul_succ]
  omega
theorem join_le (b : Nat) (xs : List (List UInt8)) (h : ∀ x ∈ xs, x.length ≤ b) (sep : List UInt8) : (Lib.join xs sep).length ≤ (sep.length + b) * xs.length := by
 cases xs with
 | nil => simp [Lib.join_nil]
 | cons y r =>
  have h1 := lens_le b (y :: r) h
  rw [Lib.join_length]
  have h2 : sep.length * r.length ≤ sep.length * (y :: r).length := Nat.mul_le_mul (Nat.le_refl _) (by simp)
  rw [Nat.add_mul]
  omega
def getL (l : List (List UInt8 × List UInt8)) (name : List UInt8) : List UInt8 := Lib.join (valsL l name) [44, 32]
structure Few (l : List (List UInt8 × List UInt8)) : Prop where
 num : l.length ≤ 100
 len : ∀ p ∈ l, p.1.length + p.2.length ≤ 20000
theorem vals_few {l : List (List UInt8 × List UInt8)} (h : Few l) (name : List UInt8) : (valsL l name).length ≤ 100 ∧ ∀ x ∈ valsL l name, x.length ≤ 20000 := by
 refine ⟨?_, fun x hx => ?_⟩
 ·unfold valsL
  rw [List.length_map]
  exact Nat.le_trans (List.length_filter_le _ _) h.num
 ·obtain ⟨p, hp, rfl⟩ := List.mem_map.1 hx
  have := h.len p (List.mem_filter.1 hp).1
  omega
theorem get_few {l : List (List UInt8 × List UInt8)} (h : Few l) (name : List UInt8) : (getL l name).length ≤ 2000200 := by
 have h1 := vals_few h name
 have h2 := join_le 20000 _ h1.2 [44, 32]
 have h3 : ([44, 32] : List UInt8).length = 2 := rfl
 rw [h3] at h2
 have h4 : (2 + 20000) * (valsL l name).length ≤ (2 + 20000) * 100 := Nat.mul_le_mul (Nat.le_refl _) h1.1
 unfold getL
 omega
section
variable [Tabs Tryd.prog] {objs : List OB} {K : List OB → AV → Prop}
set_option maxRecDepth 100000 in
theorem hVals_any (mi st : Int) (l : List (List UInt8 × List UInt8)) (name : List UInt8) (hl : l.length ≤ 1000000) (hp : ∀ p ∈ l, p.1.length ≤ 140737488351232) (hn : name.length ≤ 140737488351232) (hk : K objs (strsAV (valsL l name))) : CallOk Tryd.prog 71 [hdAV mi st l, .s name] objs K := by
 refine fn_rn is_head_Values (by simp [hdAV, plains, AV.plain, fc_plain]) fun C _ => ?_
 have hm : maxLen = 2 ^ 63 - 1 := rfl
 simp only [hdAV, c_head_Values, sxZ, evs, evp, setd, SV.ev, AV.flat, AV.one, AV.cells, resAs, resA, tupA, pub, pubs, AV.plain, plains, srcOf, splice, fillA, eqA, eqAs, z6, z7, z8, j2, j3, j4, j5, j6, j7, j8, j9, x0, x3, x4, x5, x6, reduceCtorEq, ↓reduceIte]
 refine rn_loop (fun n objs tm => ∃ i : Nat, i ≤ l.length ∧ n = l.length - i ∧ tm.length = 26 ∧ tm[1]? = some (.s name) ∧ tm[9]? = some (.row l.length (fcells l)) ∧ tm[10]? = some (.i .i64 l.length) ∧ tm[11]? = some (.i .i64 i) ∧
  ((valsL (l.take i) name = [] ∧ tm[5]? = some .nil) ∨ (valsL (l.take i) name ≠ [] ∧ ∃ r g, tm[5]? = some (.orow r g) ∧ ∀ more, (objs ++ more)[r]? = some (.orow 9 1 g (valsL (l.take i) name).length ((valsL (l.take i) name).map .s))))) l.length ⟨0, Nat.zero_le _, rfl, rfl, rfl, rfl, rfl, rfl, .inl ⟨rfl, rfl⟩⟩ ?_
 rintro n objs tm ⟨i, hi, rfl, hlen, t1, t9, t10, t11, hO⟩
 by_cases hlt : (i : Int) < l.length
 ·have hlt' : i < l.length := by omega
  have hat := fc_at hlt'
  have hfl := fcells_len l
  have hv := vals_snoc l i hlt' name
  have hpl := hp _ (List.getElem_mem hlt')
  simp only [sxZ, evs, evp, setd, SV.ev, AV.flat, AV.one, AV.cells, resAs, resA, tupA, pub, pubs, AV.plain, plains, srcOf, splice, fillA, eqA, eqAs, z6, z7, z8, j2, j3, j4, j5, j6, j7, j8, j9, x0, x3, x4, x5, x6, reduceCtorEq, ↓reduceIte, List.getElem?_set, hlen, t1, t9, t10, t11, hlt, Int.toNat_natCast, hat, gn1, sn1]
  refine ⟨by omega, by omega, ?_⟩
  refine kcall (aEqual_k _ _ (by omega) (by omega) ?_)
  by_cases he : eqL l[i].1 name = true
  ·rw [if_pos he] at hv
   rcases hO with ⟨h0, t5⟩ | ⟨h0, r, g, t5, hr⟩
   ·rw [h0, List.nil_append] at hv
    simp only [he, sxZ, evs, evp, setd, SV.ev, AV.flat, AV.one, AV.cells, resAs, resA, tupA, pub, pubs, AV.plain, plains, srcOf, splice, fillA, eqA, eqAs, z6, z7, z8, j2, j3, j4, j5, j6, j7, j8, j9, x0, x3, x4, x5, x6, reduceCtorEq, ↓reduceIte, List.getElem?_set, hlen, t1, t9, t10, t11, t5, gn1, sn1]
    exact ⟨⟨by omega, by omega⟩, l.length - (i + 1), by omega, i + 1, by omega, rfl, rfl, .inr ⟨by rw [hv]; simp, objs.length + 1, 0, rfl, fun more => by rw [hv]; exact own_new ..⟩⟩
   ·have hr0 := hr []
    rw [List.append_nil] at hr0
    simp only [he, sxZ, evs, evp, setd, SV.ev, AV.flat, AV.one, AV.cells, resAs, resA, tupA, pub, pubs, AV.plain, plains, srcOf, splice, fillA, eqA, eqAs, z6, z7, z8, j2, j3, j4, j5, j6, j7, j8, j9, x0, x3, x4, x5, x6, reduceCtorEq, ↓reduceIte, List.getElem?_set, hlen, t1, t9, t10, t11, t5, gn1, sn1, hr]
    have hvl := vals_len l i name
    exact ⟨⟨by omega, by omega⟩, ⟨by omega, by omega⟩, l.length - (i + 1), by omega, i + 1, by omega, rfl, rfl, .inr ⟨by rw [hv]; simp, r, g + 1, rfl, fun more => by rw [hv, List.length_append, List.map_append]; exact own_set _ _ _ (by have := get_lt hr0; simp; omega) more⟩⟩
  ·rw [if_neg he] at hv
   simp only [Bool.not_eq_true] at he
   simp only [he, sxZ, evs, evp, setd, SV.ev, AV.flat, AV.one, AV.cells, resAs, resA, tupA, pub, pubs, AV.plain, plains, srcOf, splice, fillA, eqA, eqAs, z6, z7, z8, j2, j3, j4, j5, j6, j7, j8, j9, x0, x3, x4, x5, x6, reduceCtorEq, ↓reduceIte, List.getElem?_set, hlen, t1, t9, t10, t11, gn1, sn1]
   refine ⟨⟨by omega, by omega⟩, l.length - (i + 1), by omega, i + 1, by omega, rfl, rfl, ?_⟩
   rw [hv]
   rcases hO with ⟨h0, t5⟩ | ⟨h0, r, g, t5, hr⟩
   ·exact .inl ⟨h0, t5⟩
   ·exact .inr ⟨h0, r, g, t5, fun more => by rw [List.append_assoc]; exact hr _⟩
 ·obtain rfl : i = l.length := by omega
  rw [List.take_of_length_le (Nat.le_refl _)] at hO
  unfold strsAV at hk
  rcases hO with ⟨h0, t5⟩ | ⟨h0, r, g, t5, hr⟩
  ·rw [if_pos h0] at hk
   simp only [sxZ, evs, evp, setd, SV.ev, AV.flat, AV.one, AV.cells, resAs, resA, tupA, pub, pubs, AV.plain, plains, srcOf, splice, fillA, eqA, eqAs, z6, z7, z8, j2, j3, j4, j5, j6, j7, j8, j9, x0, x3, x4, x5, x6, reduceCtorEq, ↓reduceIte, List.getElem?_set, hlen, t1, t9, t10, t11, hlt, t5]
   exact hk
  ·rw [if_neg h0] at hk
   have hr0 := hr []
   rw [List.append_nil] at hr0
   simp only [sxZ, evs, evp, setd, SV.ev, AV.flat, AV.one, AV.cells, resAs, resA, tupA, pub, pubs, AV.plain, plains, srcOf, splice, fillA, eqA, eqAs, z6, z7, z8, j2, j3, j4, j5, j6, j7, j8, j9, x0, x3, x4, x5, x6, reduceCtorEq, ↓reduceIte, List.getElem?_set, hlen, t1, t9, t10, t11, hlt, t5, hr0]
   rw [hpubs_strs]
   simp only [Option.map_some, sxZ, evs, evp, setd, SV.ev, AV.flat, AV.one, AV.cells, resAs, resA, tupA, pub, pubs, AV.plain, plains, srcOf, splice, fillA, eqA, eqAs, z6, z7, z8, j2, j3, j4, j5, j6, j7, j8, j9, x0, x3, x4, x5, x6, reduceCtorEq, ↓reduceIte]
   exact hk
end
section
variable [Tabs Tryd.prog] {objs : List OB} {K : List OB → AV → Prop}
set_option maxRecDepth 100000 in
theorem hGet_k (mi st : Int) (l : List (List UInt8 × List UInt8)) (name : List UInt8) (hf : Few l) (hn : name.length ≤ 140737488351232) (hk : K objs (.tup [.s (getL l name), .b (decide (valsL l name ≠ []))])) : CallOk Tryd.prog 44 [hdAV mi st l, .s name] objs K := by
 refine fn_rn is_head_Get (by simp [hdAV, plains, AV.plain, fc_plain]) fun C _ => ?_
 have hv := vals_few hf name
 have hg := get_few hf name
 have hnum := hf.num
 unfold getL at hk hg
 have hne : decide (valsL l name ≠ []) = decide ((0 : Int) < (valsL l name).length) := by
  cases valsL l name <;> simp
 rw [hne] at hk
 simp only [hdAV, c_head_Get, sxZ, evs, evp, setd, SV.ev, AV.flat, AV.one, AV.cells, resAs, resA, tupA, pub, pubs, AV.plain, plains, srcOf, splice, fillA, eqA, eqAs, z6, z7, z8, j2, j3, j4, j5, j6, j7, j8, j9, x0, x3, x4, x5, x6, reduceCtorEq, ↓reduceIte]
 refine kcall (callok_res _ (hVals_any mi st l name (by omega) (fun p hp => by have := hf.len p hp; omega) hn ⟨fun G I y => den_strs _, ?_⟩))
 simp only [sxZ, evs, evp, setd, SV.ev, AV.flat, AV.one, AV.cells, resAs, resA, tupA, pub, pubs, AV.plain, plains, srcOf, splice, fillA, eqA, eqAs, z6, z7, z8, j2, j3, j4, j5, j6, j7, j8, j9, x0, x3, x4, x5, x6, reduceCtorEq, ↓reduceIte]
 refine kcall (sJoin_k _ _ (by omega) (by omega) ?_)
 simp only [sxZ, evs, evp, setd, SV.ev, AV.flat, AV.one, AV.cells, resAs, resA, tupA, pub, pubs, AV.plain, plains, srcOf, splice, fillA, eqA, eqAs, z6, z7, z8, j2, j3, j4, j5, j6, j7, j8, j9, x0, x3, x4, x5, x6, reduceCtorEq, ↓reduceIte]
 exact hk
end
section
attribute [local irreducible] run
def noBody (st : Int) : Bool := decide (100 ≤ st) && decide (st ≤ 199) || decide (st = 204) || decide (st = 304)
def teL : List UInt8 := [116, 114, 97, 110, 115, 102, 101, 114, 45, 101, 110, 99, 111, 100, 105, 110, 103]
def clL : List UInt8 := [99, 111, 110, 116, 101, 110, 116, 45, 108, 101, 110, 103, 116, 104]
def lenE (v rest : List UInt8) (most : Int) : Int × List UInt8 :=
 if (Lib.split v [44]).all (fun w => trimL w == trimL ((Lib.split v [44]).headD [])) = false then (190, [])
 else if digitsL (trimL ((Lib.split v [44]).headD [])) = false then (190, [])
 else if (numOf isDigit 10 most.toNat (trimL ((Lib.split v [44]).headD []))).1 ≠ 0 then (142, [])
 else if rest.length < (numOf isDigit 10 most.toNat (trimL ((Lib.split v [44]).headD []))).2 then (191, [])
 else (0, rest.take (numOf isDigit 10 most.toNat (trimL ((Lib.split v [44]).headD []))).2)
def readE (st : Int) (l : List (List UInt8 × List UInt8)) (rest : List UInt8) (most : Int) : Int × List UInt8 :=
 if most < 0 then (4, [])
 else if noBody st = true then (0, [])
 else if valsL l teL ≠ [] then (if valsL l clL ≠ [] ∨ lowL (getL l teL) ≠ [99, 104, 117, 110, 107, 101, 100] then (190, []) else chunkedE rest most)
 else if valsL l clL ≠ [] then lenE (getL l clL) rest most
 else if most < rest.length then (142, [])
 else (0, rest)
theorem bsplitK_le (p : List UInt8) : ∀ (n : Nat) (s : List UInt8), Lib.splitK p 0 n s ≠ [] ∧ ∀ w ∈ Lib.splitK p 0 n s, w.length ≤ s.length
 | 0, s => ⟨by simp [Lib.splitK], by intro w hw; simp [Lib.splitK] at hw; rw [hw]; exact Nat.le_refl _⟩
 | n + 1, s => by
  rw [Lib.splitK]
  split
  ·exact ⟨by simp, by intro w hw; simp at hw; rw [hw]; exact Nat.le_refl _⟩
  ·refine ⟨by simp, fun w hw => ?_⟩
   rcases List.mem_cons.1 hw with rfl | hw
   ·rw [List.length_take]; omega
   ·have := (bsplitK_le p n _).2 w hw
    rw [List.length_drop] at this; omega
theorem bsplit_le (s p : List UInt8) : Lib.split s p ≠ [] ∧ ∀ w ∈ Lib.split s p, w.length ≤ s.length := bsplitK_le p _ s
theorem bsplitK_num (p : List UInt8) : ∀ (n : Nat) (s : List UInt8), (Lib.splitK p 0 n s).length ≤ n + 1
 | 0, s => by simp [Lib.splitK]
 | n + 1, s => by
  rw [Lib.splitK]
  split
  ·simp
  ·have := bsplitK_num p n (s.drop ((Lib.index s p).toNat + p.length))
   simp only [List.length_cons]; omega
theorem btrim_le (l : List UInt8) : (trimL l).length ≤ l.length := htrim_len l
section
variable [Tabs Tryd.prog] {objs : List OB} {K : List OB → AV → Prop}
set_option maxRecDepth 100000 in
theorem noBody_k (st : Int) (hk : K objs (.b (noBody st))) : CallOk Tryd.prog 43 [.i .i64 st] objs K := by
 refine fn_rn is_body_hasNoBody rfl fun C _ => ?_
 unfold noBody at hk
 by_cases c1 : (100 : Int) ≤ st
 ·by_cases c2 : st ≤ 199
  ·simp only [c1, c2, decide_true, Bool.and_true, Bool.true_or] at hk
   simp only [c_body_hasNoBody, sxZ, evs, evp, setd, SV.ev, AV.flat, AV.one, AV.cells, resAs, resA, tupA, pub, pubs, AV.plain, plains, srcOf, splice, fillA, eqA, eqAs, z6, z7, z8, j2, j3, j4, j5, j6, j7, j8, j9, x0, x3, x4, x5, x6, reduceCtorEq, ↓reduceIte, c1, c2]
   exact hk
  ·by_cases c3 : st = 204
   ·subst c3
    simp only [c_body_hasNoBody, sxZ, evs, evp, setd, SV.ev, AV.flat, AV.one, AV.cells, resAs, resA, tupA, pub, pubs, AV.plain, plains, srcOf, splice, fillA, eqA, eqAs, z6, z7, z8, j2, j3, j4, j5, j6, j7, j8, j9, x0, x3, x4, x5, x6, reduceCtorEq, ↓reduceIte]
    exact hk
   ·by_cases c4 : st = 304
    ·subst c4
     simp only [c_body_hasNoBody, sxZ, evs, evp, setd, SV.ev, AV.flat, AV.one, AV.cells, resAs, resA, tupA, pub, pubs, AV.plain, plains, srcOf, splice, fillA, eqA, eqAs, z6, z7, z8, j2, j3, j4, j5, j6, j7, j8, j9, x0, x3, x4, x5, x6, reduceCtorEq, ↓reduceIte]
     exact hk
    ·simp only [c1, c2, c3, c4, decide_true, decide_false, Bool.and_false, Bool.or_false, Bool.false_or] at hk
     simp only [c_body_hasNoBody, sxZ, evs, evp, setd, SV.ev, AV.flat, AV.one, AV.cells, resAs, resA, tupA, pub, pubs, AV.plain, plains, srcOf, splice, fillA, eqA, eqAs, z6, z7, z8, j2, j3, j4, j5, j6, j7, j8, j9, x0, x3, x4, x5, x6, reduceCtorEq, ↓reduceIte, c1, c2, c3, c4]
     exact hk
 ·have c3 : ¬ st = 204 := by omega
  have c4 : ¬ st = 304 := by omega
  simp only [c1, c3, c4, decide_false, Bool.false_and, Bool.or_false] at hk
  simp only [c_body_hasNoBody, sxZ, evs, evp, setd, SV.ev, AV.flat, AV.one, AV.cells, resAs, resA, tupA, pub, pubs, AV.plain, plains, srcOf, splice, fillA, eqA, eqAs, z6, z7, z8, j2, j3, j4, j5, j6, j7, j8, j9, x0, x3, x4, x5, x6, reduceCtorEq, ↓reduceIte, c1, c3, c4]
  exact hk
theorem aDigits_k (s : List UInt8) (hs : s.length ≤ maxLen) (hk : K objs (.b (digitsL s))) : CallOk Tryd.prog 76 [.s s] objs K :=
 convs (vs := [.string (S s)]) rfl rfl (fun w => Digits_any (S s) w (by rw [S_size]; exact hs)) hk
set_option maxRecDepth 100000 in
theorem readLen_k [Shp Tryd.prog] (v rest : List UInt8) (most : Int) (hv : v.length ≤ 1000000) (hs : rest.length ≤ 100000000000) (h0 : 0 ≤ most) (h1 : most ≤ 9223372036854775807) (hk : K objs (.tup [.s (lenE v rest most).2, .i .i64 (lenE v rest most).1])) : CallOk Tryd.prog 46 [.s v, .s rest, .i .i64 most] objs K := by
 have hm : maxLen = 2 ^ 63 - 1 := rfl
 refine fn_rn is_body_readLength rfl fun C _ => ?_
 obtain ⟨hne, hle⟩ := bsplit_le v [44]
 unfold lenE at hk
 have hnum : (Lib.split v [44]).length ≤ 1000002 := by
  have h := bsplitK_num [44] (Lib.count v [44]) v
  have h2 := Lib.count_le v [44]
  unfold Lib.split; omega
 generalize hels : Lib.split v [44] = els at *
 obtain ⟨d, hd⟩ : ∃ d, d = trimL (els.headD []) := ⟨_, rfl⟩
 rw [← hd] at hk
 have hlp : 0 < els.length := List.length_pos_iff.2 hne
 have h00 : els[0] = els.headD [] := by cases els with
  | nil => exact absurd rfl hne
  | cons a l => rfl
 have hat0 : (els.map AV.s)[0]? = some (.s (els.headD [])) := by rw [List.getElem?_map, List.getElem?_eq_getElem hlp, h00]; rfl
 have hd0 : (els.headD []).length ≤ v.length := by rw [← h00]; exact hle _ (List.getElem_mem hlp)
 have hdl : d.length ≤ v.length := by rw [hd]; have := btrim_le (els.headD []); omega
 rw [c_body_readLength]
 refine rn_hide fun Y hY => ?_
 simp only [sxZ, evs, evp, setd, SV.ev, AV.flat, AV.one, AV.cells, resAs, resA, tupA, pub, pubs, AV.plain, plains, srcOf, splice, fillA, eqA, eqAs, z6, z7, z8, j2, j3, j4, j5, j6, j7, j8, j9, x0, x3, x4, x5, x6, reduceCtorEq, ↓reduceIte]
 subst hY
 refine rn_hide fun Y hY => ?_
 simp only [sxZ, evs, evp, setd, SV.ev, AV.flat, AV.one, AV.cells, resAs, resA, tupA, pub, pubs, AV.plain, plains, srcOf, splice, fillA, eqA, eqAs, z6, z7, z8, j2, j3, j4, j5, j6, j7, j8, j9, x0, x3, x4, x5, x6, reduceCtorEq, ↓reduceIte]
 refine kcall (hSplit_k v [44] (by simp) hv ?_)
 rw [hels]
 simp only [sxZ, evs, evp, setd, SV.ev, AV.flat, AV.one, AV.cells, resAs, resA, tupA, pub, pubs, AV.plain, plains, srcOf, splice, fillA, eqA, eqAs, z6, z7, z8, j2, j3, j4, j5, j6, j7, j8, j9, x0, x3, x4, x5, x6, reduceCtorEq, ↓reduceIte]
 subst hY
 refine rn_hide fun Y hY => ?_
 simp only [sxZ, evs, evp, setd, SV.ev, AV.flat, AV.one, AV.cells, resAs, resA, tupA, pub, pubs, AV.plain, plains, srcOf, splice, fillA, eqA, eqAs, z6, z7, z8, j2, j3, j4, j5, j6, j7, j8, j9, x0, x3, x4, x5, x6, reduceCtorEq, ↓reduceIte, hat0, List.length_map]
 refine ⟨by omega, kcall (hTrim_k (els.headD []) (by omega) ?_)⟩
 rw [← hd]
 simp only [sxZ, evs, evp, setd, SV.ev, AV.flat, AV.one, AV.cells, resAs, resA, tupA, pub, pubs, AV.plain, plains, srcOf, splice, fillA, eqA, eqAs, z6, z7, z8, j2, j3, j4, j5, j6, j7, j8, j9, x0, x3, x4, x5, x6, reduceCtorEq, ↓reduceIte]
 subst hY
 refine rn_hide fun Y hY => ?_
 refine rn_cut (fun o t => (o = [] ∧ t.length = 51 ∧ t[1]? = some (.s rest) ∧ t[2]? = some (.i .i64 most) ∧ t[9]? = some (.s d)) ∧ (els.all fun w => trimL w == d) = true) ?_ ?_
 ·simp only [sxZ, evs, evp, setd, SV.ev, AV.flat, AV.one, AV.cells, resAs, resA, tupA, pub, pubs, AV.plain, plains, srcOf, splice, fillA, eqA, eqAs, z6, z7, z8, j2, j3, j4, j5, j6, j7, j8, j9, x0, x3, x4, x5, x6, reduceCtorEq, ↓reduceIte]
  refine rn_loop (fun n objs tm => ∃ i : Nat, i ≤ els.length ∧ n = els.length - i ∧ objs = [] ∧ tm.length = 51 ∧ tm[1]? = some (.s rest) ∧ tm[2]? = some (.i .i64 most) ∧ tm[9]? = some (.s d) ∧ tm[20]? = some (.row els.length (els.map .s)) ∧ tm[21]? = some (.i .i64 els.length) ∧ tm[22]? = some (.i .i64 i) ∧ (els.all fun w => trimL w == d) = ((els.drop i).all fun w => trimL w == d)) els.length ⟨0, by omega, rfl, rfl, rfl, rfl, rfl, rfl, rfl, rfl, rfl, rfl⟩ ?_
  rintro n _ tm ⟨i, hi, rfl, rfl, hlen, t1, t2, t9, t20, t21, t22, hall⟩
  by_cases hlt : (i : Int) < els.length
  ·have hlt' : i < els.length := by omega
   have hat : (els.map AV.s)[i]? = some (.s els[i]) := by simp [hlt']
   have hwl := hle _ (List.getElem_mem hlt')
   rw [List.drop_eq_getElem_cons hlt', List.all_cons] at hall
   simp only [sxZ, evs, evp, setd, SV.ev, AV.flat, AV.one, AV.cells, resAs, resA, tupA, pub, pubs, AV.plain, plains, srcOf, splice, fillA, eqA, eqAs, z6, z7, z8, j2, j3, j4, j5, j6, j7, j8, j9, x0, x3, x4, x5, x6, reduceCtorEq, ↓reduceIte, List.getElem?_set, hlen, t1, t2, t9, t20, t21, t22, hlt, Int.toNat_natCast, Nat.mul_one, hat, List.length_map]
   refine ⟨by omega, kcall (hTrim_k els[i] (by omega) ?_)⟩
   by_cases c1 : trimL els[i] = d
   ·rw [show (trimL els[i] == d) = true by rw [c1]; simp, Bool.true_and] at hall
    simp only [sxZ, evs, evp, setd, SV.ev, AV.flat, AV.one, AV.cells, resAs, resA, tupA, pub, pubs, AV.plain, plains, srcOf, splice, fillA, eqA, eqAs, z6, z7, z8, j2, j3, j4, j5, j6, j7, j8, j9, x0, x3, x4, x5, x6, reduceCtorEq, ↓reduceIte, List.getElem?_set, hlen, t1, t2, t9, t20, t21, t22, c1]
    exact ⟨⟨by omega, by omega⟩, _, by omega, i + 1, by omega, rfl, rfl, hall⟩
   ·rw [show (trimL els[i] == d) = false by simpa using c1, Bool.false_and] at hall
    rw [if_pos hall] at hk
    simp only [sxZ, evs, evp, setd, SV.ev, AV.flat, AV.one, AV.cells, resAs, resA, tupA, pub, pubs, AV.plain, plains, srcOf, splice, fillA, eqA, eqAs, z6, z7, z8, j2, j3, j4, j5, j6, j7, j8, j9, x0, x3, x4, x5, x6, reduceCtorEq, ↓reduceIte, List.getElem?_set, hlen, t1, t2, t9, t20, t21, t22, c1, cutF_ret, loopF_ret]
    exact hk
  ·obtain rfl : i = els.length := by omega
   rw [List.drop_length, List.all_nil] at hall
   simp only [sxZ, evs, evp, setd, SV.ev, AV.flat, AV.one, AV.cells, resAs, resA, tupA, pub, pubs, AV.plain, plains, srcOf, splice, fillA, eqA, eqAs, z6, z7, z8, j2, j3, j4, j5, j6, j7, j8, j9, x0, x3, x4, x5, x6, reduceCtorEq, ↓reduceIte, List.getElem?_set, hlen, t1, t2, t9, t20, t21, t22, hlt, cutF_normal, loopF_exit]
   exact hall
 ·rintro o t ⟨⟨rfl, hlen, t1, t2, t9⟩, hall⟩
  rw [if_neg (by rw [hall]; simp)] at hk
  subst hY
  simp only [sxZ, evs, evp, setd, SV.ev, AV.flat, AV.one, AV.cells, resAs, resA, tupA, pub, pubs, AV.plain, plains, srcOf, splice, fillA, eqA, eqAs, z6, z7, z8, j2, j3, j4, j5, j6, j7, j8, j9, x0, x3, x4, x5, x6, reduceCtorEq, ↓reduceIte, List.getElem?_set, hlen, t1, t2, t9]
  refine kcall (aDigits_k d (by omega) ?_)
  by_cases c1 : digitsL d = true
  ·rw [if_neg (by rw [c1]; simp)] at hk
   have hw : IntKind.u64.wrap most = ((most.toNat : Nat) : Int) := by rw [wrap_u64 _ (by omega) (by omega)]; omega
   simp only [sxZ, evs, evp, setd, SV.ev, AV.flat, AV.one, AV.cells, resAs, resA, tupA, pub, pubs, AV.plain, plains, srcOf, splice, fillA, eqA, eqAs, z6, z7, z8, j2, j3, j4, j5, j6, j7, j8, j9, x0, x3, x4, x5, x6, reduceCtorEq, ↓reduceIte, List.getElem?_set, hlen, t1, t2, t9, c1, hw]
   refine kcall (nParse_k d most.toNat (by omega) (by omega) ?_)
   have hnl := numOf_le isDigit 10 most.toNat d
   by_cases c2 : (numOf isDigit 10 most.toNat d).1 = 0
   ·rw [if_neg (by rw [c2]; simp)] at hk
    have hw2 : IntKind.u64.wrap ((rest.length : Nat) : Int) = ((rest.length : Nat) : Int) := wrap_u64 _ (by omega) (by omega)
    by_cases c3 : ((rest.length : Nat) : Int) < (((numOf isDigit 10 most.toNat d).2 : Nat) : Int)
    ·rw [if_pos (by omega)] at hk
     simp only [sxZ, evs, evp, setd, SV.ev, AV.flat, AV.one, AV.cells, resAs, resA, tupA, pub, pubs, AV.plain, plains, srcOf, splice, fillA, eqA, eqAs, z6, z7, z8, j2, j3, j4, j5, j6, j7, j8, j9, x0, x3, x4, x5, x6, reduceCtorEq, ↓reduceIte, List.getElem?_set, hlen, t1, t2, t9, c2, hw2, c3]
     exact hk
    ·rw [if_neg (by omega)] at hk
     simp only [sxZ, evs, evp, setd, SV.ev, AV.flat, AV.one, AV.cells, resAs, resA, tupA, pub, pubs, AV.plain, plains, srcOf, splice, fillA, eqA, eqAs, z6, z7, z8, j2, j3, j4, j5, j6, j7, j8, j9, x0, x3, x4, x5, x6, reduceCtorEq, ↓reduceIte, List.getElem?_set, hlen, t1, t2, t9, c2, hw2, c3, Int.toNat_natCast]
     exact ⟨⟨by omega, by omega⟩, hk⟩
   ·rw [if_pos c2] at hk
    simp only [sxZ, evs, evp, setd, SV.ev, AV.flat, AV.one, AV.cells, resAs, resA, tupA, pub, pubs, AV.plain, plains, srcOf, splice, fillA, eqA, eqAs, z6, z7, z8, j2, j3, j4, j5, j6, j7, j8, j9, x0, x3, x4, x5, x6, reduceCtorEq, ↓reduceIte, List.getElem?_set, hlen, t1, t2, t9, c2]
    exact hk
  ·simp only [Bool.not_eq_true] at c1
   rw [if_pos c1] at hk
   simp only [sxZ, evs, evp, setd, SV.ev, AV.flat, AV.one, AV.cells, resAs, resA, tupA, pub, pubs, AV.plain, plains, srcOf, splice, fillA, eqA, eqAs, z6, z7, z8, j2, j3, j4, j5, j6, j7, j8, j9, x0, x3, x4, x5, x6, reduceCtorEq, ↓reduceIte, List.getElem?_set, hlen, t1, t2, t9, c1]
   exact hk
set_option maxRecDepth 100000 in
theorem bRead_k [Shp Tryd.prog] (mi st : Int) (l : List (List UInt8 × List UInt8)) (rest : List UInt8) (most : Int) (hf : Few l) (hgl : (getL l clL).length ≤ 1000000) (hs : rest.length ≤ 100000000000) (h0 : -9223372036854775808 ≤ most) (h1 : most ≤ 9223372036854775807) (hk : K objs (.tup [.s (readE st l rest most).2, .i .i64 (readE st l rest most).1])) : CallOk Tryd.prog 20 [hdAV mi st l, .s rest, .i .i64 most] objs K := by
 refine fn_rn is_body_Read (by simp [hdAV, plains, AV.plain, fc_plain]) fun C _ => ?_
 have hgt := get_few hf teL
 unfold readE at hk
 by_cases c1 : most < 0
 ·rw [if_pos c1] at hk
  simp only [hdAV, c_body_Read, sxZ, evs, evp, setd, SV.ev, AV.flat, AV.one, AV.cells, resAs, resA, tupA, pub, pubs, AV.plain, plains, srcOf, splice, fillA, eqA, eqAs, z6, z7, z8, j2, j3, j4, j5, j6, j7, j8, j9, x0, x3, x4, x5, x6, reduceCtorEq, ↓reduceIte, c1]
  exact hk
 rw [if_neg c1] at hk
 simp only [hdAV, c_body_Read, sxZ, evs, evp, setd, SV.ev, AV.flat, AV.one, AV.cells, resAs, resA, tupA, pub, pubs, AV.plain, plains, srcOf, splice, fillA, eqA, eqAs, z6, z7, z8, j2, j3, j4, j5, j6, j7, j8, j9, x0, x3, x4, x5, x6, reduceCtorEq, ↓reduceIte, c1]
 refine kcall (noBody_k st ?_)
 by_cases c2 : noBody st = true
 ·rw [if_pos c2] at hk
  simp only [sxZ, evs, evp, setd, SV.ev, AV.flat, AV.one, AV.cells, resAs, resA, tupA, pub, pubs, AV.plain, plains, srcOf, splice, fillA, eqA, eqAs, z6, z7, z8, j2, j3, j4, j5, j6, j7, j8, j9, x0, x3, x4, x5, x6, reduceCtorEq, ↓reduceIte, c2]
  exact hk
 rw [if_neg c2] at hk
 simp only [Bool.not_eq_true] at c2
 simp only [sxZ, evs, evp, setd, SV.ev, AV.flat, AV.one, AV.cells, resAs, resA, tupA, pub, pubs, AV.plain, plains, srcOf, splice, fillA, eqA, eqAs, z6, z7, z8, j2, j3, j4, j5, j6, j7, j8, j9, x0, x3, x4, x5, x6, reduceCtorEq, ↓reduceIte, c2]
 refine kcall (hGet_k mi st l teL hf (by decide) ?_)
 simp only [sxZ, evs, evp, setd, SV.ev, AV.flat, AV.one, AV.cells, resAs, resA, tupA, pub, pubs, AV.plain, plains, srcOf, splice, fillA, eqA, eqAs, z6, z7, z8, j2, j3, j4, j5, j6, j7, j8, j9, x0, x3, x4, x5, x6, reduceCtorEq, ↓reduceIte]
 refine kcall (hGet_k mi st l clL hf (by decide) ?_)
 by_cases c3 : valsL l teL ≠ []
 ·rw [if_pos c3] at hk
  by_cases c4 : valsL l clL ≠ []
  ·rw [if_pos (.inl c4)] at hk
   simp only [sxZ, evs, evp, setd, SV.ev, AV.flat, AV.one, AV.cells, resAs, resA, tupA, pub, pubs, AV.plain, plains, srcOf, splice, fillA, eqA, eqAs, z6, z7, z8, j2, j3, j4, j5, j6, j7, j8, j9, x0, x3, x4, x5, x6, reduceCtorEq, ↓reduceIte, decide_eq_true c3, decide_eq_true c4]
   exact hk
  ·simp only [sxZ, evs, evp, setd, SV.ev, AV.flat, AV.one, AV.cells, resAs, resA, tupA, pub, pubs, AV.plain, plains, srcOf, splice, fillA, eqA, eqAs, z6, z7, z8, j2, j3, j4, j5, j6, j7, j8, j9, x0, x3, x4, x5, x6, reduceCtorEq, ↓reduceIte, decide_eq_true c3, decide_eq_false c4]
   refine kcall (hLower_k (getL l teL) (by omega) ?_)
   by_cases c5 : lowL (getL l teL) = [99, 104, 117, 110, 107, 101, 100]
   ·rw [if_neg (fun h => h.elim c4 (fun h => h c5))] at hk
    simp only [sxZ, evs, evp, setd, SV.ev, AV.flat, AV.one, AV.cells, resAs, resA, tupA, pub, pubs, AV.plain, plains, srcOf, splice, fillA, eqA, eqAs, z6, z7, z8, j2, j3, j4, j5, j6, j7, j8, j9, x0, x3, x4, x5, x6, reduceCtorEq, ↓reduceIte, c5]
    refine kcall (chunked_k rest most hs (by omega) h1 ?_)
    simp only [sxZ, evs, evp, setd, SV.ev, AV.flat, AV.one, AV.cells, resAs, resA, tupA, pub, pubs, AV.plain, plains, srcOf, splice, fillA, eqA, eqAs, z6, z7, z8, j2, j3, j4, j5, j6, j7, j8, j9, x0, x3, x4, x5, x6, reduceCtorEq, ↓reduceIte]
    exact hk
   ·rw [if_pos (.inr c5)] at hk
    simp only [sxZ, evs, evp, setd, SV.ev, AV.flat, AV.one, AV.cells, resAs, resA, tupA, pub, pubs, AV.plain, plains, srcOf, splice, fillA, eqA, eqAs, z6, z7, z8, j2, j3, j4, j5, j6, j7, j8, j9, x0, x3, x4, x5, x6, reduceCtorEq, ↓reduceIte, c5]
    exact hk
 ·rw [if_neg c3] at hk
  by_cases c4 : valsL l clL ≠ []
  ·rw [if_pos c4] at hk
   simp only [sxZ, evs, evp, setd, SV.ev, AV.flat, AV.one, AV.cells, resAs, resA, tupA, pub, pubs, AV.plain, plains, srcOf, splice, fillA, eqA, eqAs, z6, z7, z8, j2, j3, j4, j5, j6, j7, j8, j9, x0, x3, x4, x5, x6, reduceCtorEq, ↓reduceIte, decide_eq_false c3, decide_eq_true c4]
   refine kcall (readLen_k (getL l clL) rest most hgl hs (by omega) h1 ?_)
   simp only [sxZ, evs, evp, setd, SV.ev, AV.flat, AV.one, AV.cells, resAs, resA, tupA, pub, pubs, AV.plain, plains, srcOf, splice, fillA, eqA, eqAs, z6, z7, z8, j2, j3, j4, j5, j6, j7, j8, j9, x0, x3, x4, x5, x6, reduceCtorEq, ↓reduceIte]
   exact hk
  ·rw [if_neg c4] at hk
   by_cases c5 : most < rest.length
   ·rw [if_pos c5] at hk
    simp only [sxZ, evs, evp, setd, SV.ev, AV.flat, AV.one, AV.cells, resAs, resA, tupA, pub, pubs, AV.plain, plains, srcOf, splice, fillA, eqA, eqAs, z6, z7, z8, j2, j3, j4, j5, j6, j7, j8, j9, x0, x3, x4, x5, x6, reduceCtorEq, ↓reduceIte, decide_eq_false c3, decide_eq_false c4, c5]
    exact hk
   ·rw [if_neg c5] at hk
    simp only [sxZ, evs, evp, setd, SV.ev, AV.flat, AV.one, AV.cells, resAs, resA, tupA, pub, pubs, AV.plain, plains, srcOf, splice, fillA, eqA, eqAs, z6, z7, z8, j2, j3, j4, j5, j6, j7, j8, j9, x0, x3, x4, x5, x6, reduceCtorEq, ↓reduceIte, decide_eq_false c3, decide_eq_false c4, c5]
    exact hk
end
end
end Go.Proofs.YtecphoceobgncaaDoor
namespace Go.Proofs.YtecphoceobgncaaDoor.Sx
open Go.RowKit Go.WideShapes Go.ChangeShapes Go.ChangeAt
inductive TT where
 | s
 | b
 | i (k : IntKind)
 | st (ts : List TT)
 | sl (t : TT)
mutual
def ShT : TT → List AV → Prop
 | .s, xs => ∃ l : List UInt8, xs = [.s l] ∧ l.length ≤ 140737488351232
 | .b, xs => ∃ b, xs = [.b b]
 | .i k, xs => ∃ n, xs = [.i k n] ∧ (Lit.int k n).wf = true
 | .st ts, xs => ShTs ts xs
 | .sl t, xs => ∃ gs : List (List AV), xs = [.row gs.length gs.flatten] ∧ gs.length ≤ 140737488351232 ∧ ∀ g ∈ gs, ShT t g
def ShTs : List TT → List AV → Prop
 | [], xs => xs = []
 | t :: ts, xs => ∃ a b, xs = a ++ b ∧ ShT t a ∧ ShTs ts b
end
def ShA : TT → AV → Prop
 | .st ts, x => ∃ cs, x = .agg cs ∧ ShTs ts cs
 | t, x => ShT t [x]
def ShAs : List TT → List AV → Prop
 | [], xs => xs = []
 | t :: ts, xs => ∃ x ys, xs = x :: ys ∧ ShA t x ∧ ShAs ts ys
def trTs (P : Program) (rc : TypeId → Option TT) : Nat → List Field → Option (List TT)
 | o, [] => some []
 | o, f :: fs => match rc f.type, trTs P rc (o + P.cellsOf f.type) fs with
  | some t, some ts => if f.offset = o then some (t :: ts) else none
  | _, _ => none
def cellsTs (P : Program) : List Field → Nat
 | [] => 0
 | f :: fs => P.cellsOf f.type + cellsTs P fs
def trT (P : Program) : Nat → TypeId → Option TT
 | 0, _ => none
 | d + 1, t => match P.underlying t with
  | some .string => some .s
  | some .bool => some .b
  | some (.int k) => some (.i k)
  | some (.struct fs) => if P.cellsOf t = cellsTs P fs.toList then (trTs P (trT P d) 0 fs.toList).map .st else none
  | some (.slice e) => if 0 < P.cellsOf e ∧ 0 < P.bytesOf e then (trT P d e).map .sl else none
  | _ => none
theorem weights_mem_all {H : Type} {P : Program} {e : TypeId} : ∀ {ds : List (DataW H)} {d : DataW H}, d ∈ ds → ∀ n ∈ d.weights P e, n ∈ DataW.weightsAll P e ds
 | [], d, hd, n, hn => by cases hd
 | d0 :: ds, d, hd, n, hn => by
  simp only [DataW.weightsAll, List.mem_append]
  rcases List.mem_cons.1 hd with rfl | hd
  ·exact .inl hn
  ·exact .inr (weights_mem_all hd n hn)
theorem rows_den {w : World} {G : Gh} {I : Imm} {t : TT} (a : Addr) (c : Nat) (hI : ∀ g o v, w.cell? ⟨g, o, none⟩ = some v → I g o v) : ∀ k : Nat,
  (∀ i, i < k → ∃ (g : List AV) (ys : List Value), ys.length = c ∧ (∀ j, j < c → w.cell? ((a.add (i * c)).add j) = ys[j]?) ∧ Dens G I g ys ∧ ShT t g ∧ ∀ u ∈ ys, u.oneCell' = true) →
  ∃ (gs : List (List AV)) (ys : List Value), gs.length = k ∧ ys.length = k * c ∧ Dens G I gs.flatten ys ∧ (∀ g ∈ gs, ShT t g) ∧ (∀ u ∈ ys, u.oneCell' = true) ∧ ∀ j, j < k * c → w.cell? (a.add j) = ys[j]?
 | 0, _ => ⟨[], [], rfl, by simp, Dens.nil, by simp, by simp, fun j hj => by simp at hj⟩
 | k + 1, h => by
  obtain ⟨gs, ys, h1, h2, h3, h4, h5, h6⟩ := rows_den a c hI k (fun i hi => h i (by omega))
  obtain ⟨g, zs, k1, k2, k3, k4, k5⟩ := h k (by omega)
  have hm : (k + 1) * c = k * c + c := Nat.succ_mul k c
  refine ⟨gs ++ [g], ys ++ zs, by simp [h1], by rw [List.length_append, h2, k1, hm], ?_, ?_, ?_, ?_⟩
  ·rw [List.flatten_append, List.flatten_cons, List.flatten_nil, List.append_nil]
   exact Dens.append h3 k3
  ·intro x hx
   rcases List.mem_append.1 hx with hx | hx
   ·exact h4 x hx
   ·rw [List.mem_singleton] at hx; subst hx; exact k4
  ·intro u hu
   rcases List.mem_append.1 hu with hu | hu
   ·exact h5 u hu
   ·exact k5 u hu
  ·intro j hj
   by_cases hjk : j < k * c
   ·rw [h6 j hjk, List.getElem?_append_left (by omega)]
   ·have := k2 (j - k * c) (by omega)
    rw [Addr.add_add, show k * c + (j - k * c) = j by omega] at this
    rw [this, List.getElem?_append_right (by omega), h2]
theorem add_flat {a : Addr} {j : Nat} (ha : a.spot = none) : a.add j = ⟨a.block, a.off + j, none⟩ := by
 cases a
 simp only at ha
 subst ha
 unfold Addr.add
 split
 ·rename_i h; subst h; rfl
 ·rfl
section
variable {H : Type} {enc : TypeId × Value → H} {P : Program} {w : World} {base : Nat} {spare : Nat → Bool} {held : Bool} {G : Gh} {I : Imm}
theorem open_trods (d : Nat) (ih : ∀ (t : TypeId) (tt : TT) (fuel : Nat) (cs : List Value) (x : DataW H × List MemPlace), trT P d t = some tt → DataW.trod enc P w base spare held fuel t cs = some x → (∀ n ∈ x.1.weights P t, n ≤ reachBytes) → ∃ xs, Dens G I xs cs ∧ ShT tt xs ∧ ∀ u ∈ cs, u.oneCell' = true) (n : Nat) :
  ∀ (fs : List Field) (ts : List TT) (o : Nat) (cs : List Value), trTs P (trT P d) o fs = some ts → cs.length = o + cellsTs P fs → (∀ f ∈ fs, ∃ x, DataW.trod enc P w base spare held n f.type ((cs.drop f.offset).take (P.cellsOf f.type)) = some x ∧ ∀ m ∈ x.1.weights P f.type, m ≤ reachBytes) →
   ∃ xs, Dens G I xs (cs.drop o) ∧ ShTs ts xs ∧ ∀ u ∈ cs.drop o, u.oneCell' = true
 | [], ts, o, cs, ht, hl, hf => by
  simp only [trTs, Option.some.injEq] at ht; subst ht
  have : cs.drop o = [] := List.drop_eq_nil_of_le (by simp [cellsTs] at hl; omega)
  rw [this]
  exact ⟨[], Dens.nil, rfl, by simp⟩
 | f :: fs, ts, o, cs, ht, hl, hf => by
  simp only [trTs] at ht
  split at ht
  ·rename_i t ts' h1 h2
   split at ht
   ·rename_i ho
    injection ht with ht; subst ht
    obtain ⟨x, hx, hxw⟩ := hf f (List.mem_cons_self ..)
    rw [ho] at hx
    obtain ⟨xs, k1, k2, k3⟩ := ih _ _ _ _ _ h1 hx hxw
    simp only [cellsTs] at hl
    obtain ⟨ys, m1, m2, m3⟩ := open_trods d ih n fs ts' (o + P.cellsOf f.type) cs h2 (by omega) (fun f' hf' => hf f' (List.mem_cons_of_mem _ hf'))
    have e : cs.drop o = (cs.drop o).take (P.cellsOf f.type) ++ cs.drop (o + P.cellsOf f.type) := by
     rw [← List.drop_drop, List.take_append_drop]
    refine ⟨xs ++ ys, ?_, ?_, ?_⟩
    ·rw [e]; exact Dens.append k1 m1
    ·exact ⟨xs, ys, rfl, k2, m2⟩
    ·rw [e]; intro u hu
     rcases List.mem_append.1 hu with hu | hu
     ·exact k3 u hu
     ·exact m3 u hu
   ·cases ht
  ·cases ht
theorem open_trod (hI : ∀ g o v, w.cell? ⟨g, o, none⟩ = some v → I g o v) (hspa : ∀ b, spare b = true) : ∀ (d : Nat) (t : TypeId) (tt : TT) (fuel : Nat) (cs : List Value) (x : DataW H × List MemPlace), trT P d t = some tt → DataW.trod enc P w base spare held fuel t cs = some x → (∀ n ∈ x.1.weights P t, n ≤ reachBytes) → ∃ xs, Dens G I xs cs ∧ ShT tt xs ∧ ∀ u ∈ cs, u.oneCell' = true := by
 intro d
 induction d with
 | zero => intro t tt fuel cs x ht; simp [trT] at ht
 | succ d ih =>
  intro t tt fuel cs x ht h hwt
  simp only [trT] at ht
  split at ht
  ·rename_i hu
   injection ht with ht; subst ht
   obtain ⟨s, rfl, rfl, hs⟩ := DataW.trod_string hu h
   refine ⟨[.s s.data.toList], Dens.cons (by simp [Den]) Dens.nil, ⟨_, rfl, ?_⟩, by simp; rfl⟩
   exact hwt _ (by simp [DataW.weights])
  ·rename_i hu
   injection ht with ht; subst ht
   obtain ⟨b, rfl, _⟩ := DataW.trod_bool hu h
   exact ⟨[.b b], Dens.cons (by simp [Den]) Dens.nil, ⟨_, rfl⟩, by simp; rfl⟩
  ·rename_i k hu
   injection ht with ht; subst ht
   obtain ⟨n, rfl, _, hw⟩ := DataW.trod_int hu h
   exact ⟨[.i k n], Dens.cons (by simp [Den]) Dens.nil, ⟨_, rfl, hw⟩, by simp; rfl⟩
  ·rename_i fs hu
   split at ht
   ·rename_i hc
    cases hts : trTs P (trT P d) 0 fs.toList with
    | none => rw [hts] at ht; cases ht
    | some ts =>
     rw [hts] at ht; injection ht with ht; subst ht
     obtain ⟨xs, n, _, rfl, hlen, hxl, hf⟩ := DataW.trod_struct hu h
     have hall : ∀ f ∈ fs.toList, ∃ x, DataW.trod enc P w base spare held n f.type ((cs.drop f.offset).take (P.cellsOf f.type)) = some x ∧ ∀ m ∈ x.1.weights P f.type, m ≤ reachBytes := by
      intro f hfm
      obtain ⟨j, hj⟩ := List.mem_iff_getElem?.1 hfm
      have h1 := hf j f (by simpa using hj)
      have hjl : j < xs.length := by
       rw [hxl]
       have := (List.getElem?_eq_some_iff.1 hj).1
       simpa using this
      rw [List.getElem?_eq_getElem hjl] at h1
      refine ⟨_, h1, fun m hm => hwt m ?_⟩
      have hj2 : (fs.toList.map (·.type))[j]? = some f.type := by rw [List.getElem?_map, hj]; rfl
      have := DataW.weights_mem_each hj2 (show (xs.map (·.1))[j]? = some xs[j].1 by rw [List.getElem?_map, List.getElem?_eq_getElem hjl]; rfl) m hm
      simpa [DataW.weights, hu] using this
     obtain ⟨ys, k1, k2, k3⟩ := open_trods d ih n fs.toList ts 0 cs hts (by rw [hlen, hc]; omega) hall
     exact ⟨ys, by simpa using k1, k2, by simpa using k3⟩
   ·cases ht
  ·rename_i e hu
   split at ht
   ·rename_i hc
    cases hte : trT P d e with
    | none => rw [hte] at ht; cases ht
    | some te =>
     rw [hte] at ht; injection ht with ht; subst ht
     rcases DataW.trod_slice hu h with ⟨rfl, rfl⟩ | ⟨a, len, cap, elems, rest, n, _, rfl, rfl, hb, hl, hm, hlen, hel, hsr, _⟩
     ·exact ⟨[.row 0 []], Dens.cons (by simp only [Den]; exact ⟨none, 0, [], rfl, ⟨Nat.le_refl _, fun ad h => by cases h⟩, Dens.nil, by simp, by simp⟩) Dens.nil, ⟨[], rfl, by simp, by simp⟩, by simp; rfl⟩
     ·have hw2 : (elems.length + rest.length) * P.bytesOf e ≤ reachBytes := by
       have := hwt ((elems.map (·.1)).length + (rest.map (·.1)).length |> (· * P.bytesOf e)) (by simp [DataW.weights, hu])
       simpa using this
      have hel2 : elems.length ≤ 140737488351232 := by
       have h1 : elems.length * 1 ≤ (elems.length + rest.length) * P.bytesOf e := Nat.mul_le_mul (by omega) hc.2
       have : reachBytes = 140737488351232 := rfl
       omega
      have hel3 : ∀ i, i < len → ∃ (g : List AV) (ys : List Value), ys.length = P.cellsOf e ∧ (∀ j, j < P.cellsOf e → w.cell? ((a.add (i * P.cellsOf e)).add j) = ys[j]?) ∧ Dens G I g ys ∧ ShT te g ∧ ∀ u ∈ ys, u.oneCell' = true := by
       intro i hi
       have h1 := hel i hi
       have hil : i < elems.length := by omega
       rw [List.getElem?_eq_getElem hil, Option.bind_eq_some_iff] at h1
       obtain ⟨ys, y1, y2⟩ := h1
       obtain ⟨_, z1, z2⟩ := World.cells?_some y1
       obtain ⟨g, g1, g2, g3⟩ := ih e te n ys _ hte y2 (fun m hm => hwt m (by
        simp only [DataW.weights, hu, List.mem_cons, List.mem_append]
        exact .inr (.inl (weights_mem_all (List.mem_map.2 ⟨_, List.getElem_mem hil, rfl⟩) m hm))))
       exact ⟨g, ys, z1, z2, g1, g2, g3⟩
      obtain ⟨gs, ys, k1, k2, k3, k4, k5, k6⟩ := rows_den (G := G) a (P.cellsOf e) hI len hel3
      have hsp0 : cap ≠ 0 → a.spot = none := by
       intro hcap
       by_cases hl0 : 0 < len
       ·have hp : 0 < len * P.cellsOf e := Nat.mul_pos hl0 hc.1
        have h2 := k6 0 hp
        rw [List.getElem?_eq_getElem (by omega)] at h2
        have := World.cell?_spot h2
        simpa [Addr.add] using this
       ·have hr := (hsr (hspa _)).2 0 (by omega)
        have hrl := (hsr (hspa _)).1
        rw [List.getElem?_eq_getElem (by omega), Option.bind_eq_some_iff] at hr
        obtain ⟨zs, y1, _⟩ := hr
        obtain ⟨_, z1, z2⟩ := World.cells?_some y1
        have h2 := z2 0 hc.1
        rw [List.getElem?_eq_getElem (by omega)] at h2
        have := World.cell?_spot h2
        have hl1 : len = 0 := by omega
        subst hl1
        simpa [Addr.add] using this
      refine ⟨[.row gs.length gs.flatten], Dens.cons ?_ Dens.nil, ⟨gs, rfl, by omega, k4⟩, by simp; rfl⟩
      simp only [Den]
      refine ⟨some a, cap, ys, by rw [k1], ⟨by omega, fun ad h hc0 => by injection h with h; subst h; exact hsp0 hc0⟩, k3, k5, fun j u hj => ?_⟩
      have hjl := (List.getElem?_eq_some_iff.1 hj).1
      have hlp : len ≠ 0 := by rintro rfl; rw [k2, Nat.zero_mul] at hjl; omega
      have hs := hsp0 (by omega)
      refine ⟨a.block, a.off, by cases a; simp only at hs; subst hs; rfl, hI _ _ _ ?_⟩
      have h2 := k6 j (k2 ▸ hjl)
      rw [add_flat hs] at h2
      rw [h2, hj]
   ·cases ht
  ·cases ht
theorem open_arg (hI : ∀ g o v, w.cell? ⟨g, o, none⟩ = some v → I g o v) (hspa : ∀ b, spare b = true) {r : Reach} {b0 : Nat} {t : TypeId} {tt : TT} {v : Value} {dd : DataW H} {ps : List MemPlace} (ht : trT P 20 t = some tt) (hv : Value.okWide P w r b0 t v) (h : DataW.Trod enc P w base spare held t v dd ps) (hwt : ∀ n ∈ dd.weights P t, n ≤ reachBytes) : ∃ x, Den G I x v ∧ ShA tt x := by
 obtain ⟨fuel, hf⟩ := h
 obtain ⟨xs, h1, h2, h3⟩ := open_trod hI hspa 20 t tt fuel _ _ ht hf hwt
 have ht' := ht
 unfold trT at ht
 cases tt with
 | st ts =>
  split at ht <;> first | (injection ht with ht; cases ht; done) | skip
  ·rename_i fs hu
   obtain ⟨cs, rfl, _⟩ := okWide_struct hu hv
   refine ⟨.agg xs, ?_, ⟨xs, rfl, h2⟩⟩
   simp only [Den]
   exact ⟨cs.toList, by simp, h1, h3⟩
  ·split at ht
   ·cases hq : trT P 19 _ with
    | none => rw [hq] at ht; cases ht
    | some q => rw [hq] at ht; injection ht with ht; cases ht
   ·cases ht
  ·cases ht
 | sl t =>
  split at ht <;> first | (injection ht with ht; cases ht; done) | skip
  ·split at ht
   ·cases hq : trTs P (trT P 19) 0 _ with
    | none => rw [hq] at ht; cases ht
    | some q => rw [hq] at ht; injection ht with ht; cases ht
   ·cases ht
  ·rename_i e hu
   obtain ⟨a, len, cap, rfl⟩ := okWide_slice hu hv
   obtain ⟨gs, rfl, hl, hg⟩ := h2
   simp only [Dens] at h1
   obtain ⟨y, ys, e1, k1, k2⟩ := h1
   subst k2
   have e2 : [Value.slice a len cap] = [y] := e1
   injection e2 with e2 _
   subst e2
   exact ⟨.row gs.length gs.flatten, k1, ⟨gs, rfl, hl, hg⟩⟩
  ·cases ht
 | s =>
  split at ht <;> first | (injection ht with ht; cases ht; done) | skip
  ·rename_i hu
   obtain ⟨s, rfl⟩ := okWide_string hu hv
   obtain ⟨l, rfl, hl⟩ := h2
   simp only [Dens] at h1
   obtain ⟨y, ys, e, k1, k2⟩ := h1
   subst k2
   have e2 : [Value.string s] = [y] := e
   injection e2 with e2 _
   subst e2
   exact ⟨.s l, k1, ⟨l, rfl, hl⟩⟩
  ·split at ht
   ·cases hq : trTs P (trT P 19) 0 _ with
    | none => rw [hq] at ht; cases ht
    | some q => rw [hq] at ht; injection ht with ht; cases ht
   ·cases ht
  ·split at ht
   ·cases hq : trT P 19 _ with
    | none => rw [hq] at ht; cases ht
    | some q => rw [hq] at ht; injection ht with ht; cases ht
   ·cases ht
  ·cases ht
 | b =>
  split at ht <;> first | (injection ht with ht; cases ht; done) | skip
  ·rename_i hu
   obtain ⟨s, rfl⟩ := okWide_bool hu hv
   obtain ⟨l, rfl⟩ := h2
   simp only [Dens] at h1
   obtain ⟨y, ys, e, k1, k2⟩ := h1
   subst k2
   have e2 : [Value.bool s] = [y] := e
   injection e2 with e2 _
   subst e2
   exact ⟨.b l, k1, ⟨l, rfl⟩⟩
  ·split at ht
   ·cases hq : trTs P (trT P 19) 0 _ with
    | none => rw [hq] at ht; cases ht
    | some q => rw [hq] at ht; injection ht with ht; cases ht
   ·cases ht
  ·split at ht
   ·cases hq : trT P 19 _ with
    | none => rw [hq] at ht; cases ht
    | some q => rw [hq] at ht; injection ht with ht; cases ht
   ·cases ht
  ·cases ht
 | i k =>
  split at ht <;> first | (injection ht with ht; cases ht; done) | skip
  ·rename_i k' hu
   injection ht with ht; injection ht with ht; subst ht
   obtain ⟨s, rfl⟩ := okWide_int hu hv
   obtain ⟨l, rfl, hl⟩ := h2
   simp only [Dens] at h1
   obtain ⟨y, ys, e, k1, k2⟩ := h1
   subst k2
   have e2 : [Value.int _ s] = [y] := e
   injection e2 with e2 _
   subst e2
   exact ⟨.i _ l, k1, ⟨l, rfl, hl⟩⟩
  ·split at ht
   ·cases hq : trTs P (trT P 19) 0 _ with
    | none => rw [hq] at ht; cases ht
    | some q => rw [hq] at ht; injection ht with ht; cases ht
   ·cases ht
  ·split at ht
   ·cases hq : trT P 19 _ with
    | none => rw [hq] at ht; cases ht
    | some q => rw [hq] at ht; injection ht with ht; cases ht
   ·cases ht
  ·cases ht
theorem open_args (hI : ∀ g o v, w.cell? ⟨g, o, none⟩ = some v → I g o v) (hspa : ∀ b, spare b = true) {r : Reach} {b0 : Nat} : ∀ (ts : List TypeId) (tts : List TT) (vs : List Value) (ds : List (DataW H)) (ps : List MemPlace), ts.mapM (trT P 20) = some tts → (∀ (j : Nat) t v, ts[j]? = some t → vs[j]? = some v → Value.okWide P w r b0 t v) → DataW.TrodAll enc P w base spare held ts vs ds ps → (∀ n ∈ DataW.weightsEach P ts ds, n ≤ reachBytes) → ∃ xs, Dens G I xs vs ∧ ShAs tts xs
 | [], tts, vs, ds, ps, ht, hv, h, hwt => by
  simp at ht; subst ht
  obtain ⟨rfl, _, _⟩ := trodAll_nil h
  exact ⟨[], Dens.nil, rfl⟩
 | t :: ts, tts, vs, ds, ps, ht, hv, h, hwt => by
  simp only [List.mapM_cons, Option.bind_eq_bind, Option.pure_def] at ht
  cases h1 : trT P 20 t with
  | none => simp [h1] at ht
  | some tt =>
   cases h2 : ts.mapM (trT P 20) with
   | none => simp [h1, h2] at ht
   | some tts' =>
    simp [h1, h2] at ht
    subst ht
    obtain ⟨v, vs', d, ds', p, q, rfl, rfl, rfl, k1, k2⟩ := trodAll_cons h
    obtain ⟨x, x1, x2⟩ := open_arg (G := G) (I := I) hI hspa h1 (hv 0 t v rfl rfl) k1 (fun n hn => hwt n (by simp only [DataW.weightsEach, List.mem_append]; exact .inl hn))
    obtain ⟨xs, y1, y2⟩ := open_args hI hspa ts tts' vs' ds' q h2 (fun j t v hj hv' => hv (j + 1) t v (by simpa using hj) (by simpa using hv')) k2 (fun n hn => hwt n (by simp only [DataW.weightsEach, List.mem_append]; exact .inr hn))
    exact ⟨x :: xs, Dens.cons x1 y1, ⟨x, xs, rfl, x2, y2⟩⟩
theorem trodAll_stays (hl : laidOutB P = true) {W W' : World} {sp' : Nat → Bool} : ∀ (ts : List TypeId) (vs : List Value) (ds : List (DataW H)) (ps : List MemPlace), (∀ t ∈ ts, P.readableRec t = true ∧ t < P.types.size) → DataW.TrodAll enc P W 0 (fun _ => true) true ts vs ds ps → Below W.heap.size W W' → (∀ p ∈ ps, p.block < W.heap.size) → (∀ p ∈ ps, sp' p.block = true) → DataW.TrodAll enc P W' 0 sp' true ts vs ds ps
 | [], vs, ds, ps, hr, h, hb, hlt, hs => by
  obtain ⟨rfl, rfl, rfl⟩ := trodAll_nil h
  exact trodAll_mk0
 | t :: ts, vs, ds, ps, hr, h, hb, hlt, hs => by
  obtain ⟨v, vs', d, ds', p, q, rfl, rfl, rfl, k1, k2⟩ := trodAll_cons h
  have h1 := hr t (List.mem_cons_self ..)
  exact trodAll_cons_mk (WideElems.Trod_stays hl h1.1 h1.2 k1 (fun x hx => hb.same (hlt x (List.mem_append_left _ hx))) (fun x hx => hs x (List.mem_append_left _ hx)))
   (trodAll_stays hl ts vs' ds' q (fun t ht => hr t (List.mem_cons_of_mem _ ht)) k2 hb (fun x hx => hlt x (List.mem_append_right _ hx)) (fun x hx => hs x (List.mem_append_right _ hx)))
end
theorem post_true {H : Type} {enc : TypeId × Value → H} {P : Program} {f : Func} {s : ChangeSpec} {apart fresh handsOn again : Bool} {W W' : World} {args : Array Value} {ds gs : List (DataW H)} {before : List MemPlace}
  (hl : laidOutB P = true) (hts : ∀ t ∈ f.params.toList, P.readableRec t = true ∧ t < P.types.size) {tb : TypeId} (hrt : f.resultTypes = #[tb]) (hub : P.underlying tb = some .bool) (hsv : s.vars = [])
  (hW : DataW.Whole enc P f.params.toList s.vars apart W args.toList ds gs before) (hfn : s.fn H (ds ++ gs) = { results := [.lit (.bool true)], args := ds }) (hb : Below W.heap.size W W') : s.post enc P f apart fresh handsOn again W args (.bool true) W' := by
 have hlt : ∀ p ∈ before, p.block < W.heap.size := fun p hp => hW.lt p hp
 have hold : ∀ p ∈ before, (fun b => decide (b < W.heap.size)) p.block = true := fun p hp => by simpa using hlt p hp
 have hW' := hW
 obtain ⟨p, q, hA, hV, rfl, hz, hn⟩ := hW'
 rw [hsv] at hV
 have hvars : gs = [] ∧ q = [] := by
  cases gs with
  | nil => exact ⟨rfl, hV⟩
  | cons g gs => exact hV.elim
 obtain ⟨rfl, rfl⟩ := hvars
 simp only [List.append_nil] at *
 have hres : ∀ (b : Nat) (sp : Nat → Bool) (hd : Bool), DataW.TrodAll enc P W' b sp hd f.resultTypes.toList ((Value.bool true).resultList f.resultTypes.size) (s.fn H ds).results [] := by
  intro b sp hd
  rw [hfn, hrt]
  exact trodAll_cons_mk (shut_bool hub _) trodAll_mk0
 have hargs : ∀ sp : Nat → Bool, (∀ x ∈ p, sp x.block = true) → DataW.TrodAll enc P W' 0 sp true f.params.toList args.toList (s.fn H ds).args p := by
  intro sp hsp
  rw [hfn]
  exact trodAll_stays hl _ _ _ _ hts hA hb hlt hsp
 have hvs : ∀ sp : Nat → Bool, DataW.TrodVars enc P W' sp s.vars (s.fn H ds).vars [] := by
  intro sp
  rw [hsv, hfn]; rfl
 refine ⟨ds, [], p, [], p, [], hW, by simpa using hres _ _ _, by simpa using hargs _ hold, by simpa using hvs _, World.keptBut_mono (fun x hx => ⟨hx, ?_⟩) (hb.frame (· ∈ p)), fun _ => ?_⟩
 ·exact Or.inr (Or.inl hx)
 ·refine ⟨?_, _, _, ([] ++ p) ++ [], ⟨[] ++ p, [], trodAll_append (by simpa using hargs _ (fun _ _ => rfl)) (by simpa using hres _ _ _), by simpa using hvs _, rfl, ?_, ?_⟩, ?_⟩
  ·intro j t r hj hr
   rw [hrt] at hj hr
   cases j with
   | zero =>
    simp at hj; subst hj
    have : r = .bool true := by simpa [Value.resultList] using hr.symm
    subst this
    exact okWide_bool_mk hub _
   | succ j => simp at hj
  ·intro b off hp
   have hin : MemPlace.cell b off ∈ p := by simpa using hp
   rw [hb.frozen (hlt _ hin)]
   exact hz b off hin
  ·intro ha
   simpa using hn ha
  ·intro x hx _
   simpa using hx
section
variable {H : Type} {enc : TypeId × Value → H}
end
end Go.Proofs.YtecphoceobgncaaDoor.Sx
namespace Go.Proofs.YtecphoceobgncaaDoor
open Sx
theorem sl_wf8 {c : Int} (h : (Lit.int .u8 c).wf = true) : ∃ u : UInt8, c = (u.toNat : Int) := by
 have h' : 0 ≤ c ∧ c ≤ 255 := by simpa [Lit.wf, IntKind.min, IntKind.max, IntKind.signed, IntKind.bits] using h
 exact ⟨UInt8.ofNat c.toNat, by rw [UInt8.toNat_ofNat']; omega⟩
theorem sl_str : ∀ {gs : List (List AV)}, (∀ g ∈ gs, ShT .s g) → ∃ l : List (List UInt8), gs.flatten = l.map .s ∧ gs.length = l.length ∧ ∀ x ∈ l, x.length ≤ 140737488351232
 | [], _ => ⟨[], rfl, rfl, by simp⟩
 | g :: gs, h => by
  obtain ⟨l, h1, h2, h3⟩ := sl_str (fun x hx => h x (List.mem_cons_of_mem _ hx))
  obtain ⟨x, rfl, hw⟩ := h g (List.mem_cons_self ..)
  refine ⟨x :: l, by rw [List.flatten_cons, h1]; rfl, by rw [List.length_cons, List.length_cons, h2], fun y hy => ?_⟩
  rcases List.mem_cons.1 hy with rfl | hy
  ·exact hw
  ·exact h3 y hy
end Go.Proofs.YtecphoceobgncaaDoor
namespace Go.Proofs.YtecphoceobgncaaDoor
open List renaming replicate → z6
open Nat renaming reduceAdd → z7, reduceSub → z8, reduceLeDiff → j2, reduceLT → j3, reduceMul → j4, reduceEqDiff → j5
open Int renaming reduceToNat → j6, reduceAdd → j7, reduceSub → j8, reduceMul → j9, reduceNeg → x0, reduceLT → x3, reduceLE → x4, reduceEq → x5, reduceNe → x6
open Go.RowKit Sx
section
attribute [local irreducible] run
theorem bwf_i64 {n : Int} (h : (Lit.int .i64 n).wf = true) : -9223372036854775808 ≤ n ∧ n ≤ 9223372036854775807 := by
 have h1 : (decide (IntKind.min .i64 ≤ n) && decide (n ≤ IntKind.max .i64)) = true := h
 simp only [Bool.and_eq_true, decide_eq_true_eq] at h1
 have e1 : IntKind.min .i64 = -9223372036854775808 := by decide
 have e2 : IntKind.max .i64 = 9223372036854775807 := by decide
 omega
theorem dig10w : ∀ d : Fin 10, IntKind.u8.wrap ((48 : Int) + ((d.val : Nat) : Int)) = (((UInt8.ofNat (48 + d.val)).toNat : Nat) : Int) := by decide +kernel
theorem hexL_lt {n : Nat} (h : n < 16) : hexL n = [hexc n] := hexL_len' h
theorem saneE1 : chunkedE [51, 13, 10, 97, 98, 99, 13, 10, 48, 13, 10, 13, 10] 9 = (0, [97, 98, 99]) := by decide +kernel
theorem saneE2 : chunkedE [51, 13, 10, 97, 98] 9 = (191, []) := by decide +kernel
theorem saneE3 : chunkedE [103, 13, 10] 9 = (190, []) := by decide +kernel
theorem saneE4 : encodeL [97, 98, 99] 2 = [50, 13, 10, 97, 98, 13, 10, 49, 13, 10, 99, 13, 10, 48, 13, 10, 13, 10] := by
 show encL 2 3 [97, 98, 99] = _
 rw [encL, if_neg (by simp), encL, if_neg (by simp), encL]
 show hexL 2 ++ 13 :: 10 :: ([97, 98] ++ 13 :: 10 :: (hexL 1 ++ 13 :: 10 :: ([99] ++ 13 :: 10 :: endL))) = _
 rw [hexL_lt (n := 2) (by omega), hexL_lt (n := 1) (by omega)]
 rfl
theorem enc_all {s : List UInt8} {size most : Int} (hm : (s.length : Int) ≤ most) (h64 : most < 9223372036854775808) (more : List UInt8) : chunkedE (encodeL s size ++ more) most = (0, s) := by
 refine chunked_of ?_
 unfold encodeL
 have h := encL_len (max size 1).toNat (by omega) s.length s (Nat.le_refl _)
 exact enc_ok _ (by omega) more most h64 s.length s _ 0 (Nat.le_refl _) (by omega) (by rw [List.length_append]; omega)
theorem enc_big {s : List UInt8} {size most : Int} (hs : s.length < 1000000) (hm : most < s.length) : chunkedE (encodeL s size) most = (142, []) := by
 have h := encL_len (max size 1).toNat (by omega) s.length s (Nat.le_refl _)
 have h2 : (chunkE most ((encodeL s size).length + 1) 0 (encodeL s size)).1 = 142 := by
  unfold encodeL
  exact enc_large _ (by omega) most s.length s _ 0 (Nat.le_refl _) (by omega) (by omega) (by omega)
 rw [chunked_err (by rw [h2]; decide), h2]
theorem enc_short {s : List UInt8} {size most : Int} (hm : (s.length : Int) ≤ most) (h64 : most < 9223372036854775808) {q : Nat} (hq : q < (encodeL s size).length) : chunkedE ((encodeL s size).take q) most = (191, []) := by
 have h2 : (chunkE most (((encodeL s size).take q).length + 1) 0 ((encodeL s size).take q)).1 = 191 := by
  unfold encodeL at hq ⊢
  have := enc_cut (max size 1).toNat (by omega) most h64 s.length s ((encL (max size 1).toNat s.length s).length + s.length + 1) 0 q (Nat.le_refl _) (by omega) (by omega) hq
  rw [chunk_fuel most (((encL (max size 1).toNat s.length s).take q).length + 1) ((encL (max size 1).toNat s.length s).length + s.length + 1) 0 _ (Nat.lt_succ_self _) (by rw [List.length_take]; omega)]
  exact this
 rw [chunked_err (by rw [h2]; decide), h2]
/-! ## Decimal digits as a header's value -/
theorem bindex_one (c : UInt8) : ∀ s : List UInt8, Lib.index s [c] = Lib.indexByte s c
 | [] => rfl
 | b :: l => by
  have ih := bindex_one c l
  unfold Lib.index Lib.indexByte
  rw [ih]
  by_cases h : b = c
  ·subst h; simp
  ·have h' : ¬ c = b := fun e => h e.symm
   simp [h, h']
theorem split_none (s : List UInt8) (h : (44 : UInt8) ∉ s) : Lib.split s [44] = [s] := by
 have h1 : Lib.index s [44] = -1 := by
  rw [bindex_one]
  rcases cutL_idx 44 s with ⟨h1, _⟩ | ⟨k, h1, h2, h3⟩
  ·exact h1
  ·exact absurd (List.mem_of_getElem? h3.2) h
 unfold Lib.split
 rw [Lib.count_miss h1]; rfl
theorem rdw_ends {l : List UInt8} (h : ∀ c ∈ l, blank c = false) : trimL l = l := by
 have hd : ∀ m : List UInt8, (∀ c ∈ m, blank c = false) → m.dropWhile blank = m := by
  intro m hm
  cases m with
  | nil => rfl
  | cons c t => rw [List.dropWhile_cons, if_neg (by rw [hm c (List.mem_cons_self ..)]; simp)]
 unfold trimL rdw
 rw [hd l h, hd _ (fun c hc => h c (List.mem_reverse.1 hc)), List.reverse_reverse]
theorem decL_le (n : Nat) (h : n ≤ 1000) : (Lib.decDigits n).length ≤ 4 := by
 rcases Nat.lt_or_ge n 10 with h1 | h1
 ·rw [dec_one h1]; simp
 ·rw [dec_more (by omega)]
  rcases Nat.lt_or_ge (n / 10) 10 with h2 | h2
  ·rw [dec_one h2]; simp
  ·rw [dec_more (show ¬ n / 10 < 10 by omega)]
   rcases Nat.lt_or_ge (n / 10 / 10) 10 with h3 | h3
   ·rw [dec_one h3]; simp
   ·rw [dec_more (show ¬ n / 10 / 10 < 10 by omega), dec_one (by omega)]; simp
theorem dec_value (n : Nat) (rest : List UInt8) (hn : n ≤ 1000) : lenE (Lib.decDigits n) rest 1000 = if rest.length < n then (191, []) else (0, rest.take n) := by
 obtain ⟨h1, h2⟩ := dec_all n n (Nat.le_refl _)
 have hnot : (44 : UInt8) ∉ Lib.decDigits n := fun h => by
  have := (List.all_eq_true.1 h1) _ h
  exact absurd this (by decide)
 have htr : trimL (Lib.decDigits n) = Lib.decDigits n := rdw_ends fun c hc => by
  have := (List.all_eq_true.1 h1) c hc
  have h3 := (dvN_digit this).2
  unfold blank
  exact decide_eq_false (by omega)
 have hdig : digitsL (Lib.decDigits n) = true := by
  unfold digitsL; rw [h1]
  cases hd : Lib.decDigits n with
  | nil => exact absurd hd h2
  | cons c t => rfl
 have hp : numOf isDigit 10 (1000 : Int).toNat (Lib.decDigits n) = (0, n) := parse_dec n 1000 hn
 unfold lenE
 rw [split_none _ hnot]
 simp only [List.headD_cons, List.all_cons, List.all_nil, Bool.and_true, beq_self_eq_true, Bool.true_eq_false, if_false, htr, hdig, hp, ne_eq, not_true_eq_false]
theorem read_len (d rest : List UInt8) (most : Int) (hm : 0 ≤ most) : readE 200 [(clL, d)] rest most = lenE d rest most ∧ getL [(clL, d)] clL = d := by
 have h1 : eqL clL teL = false := by decide +kernel
 have h2 : eqL clL clL = true := by decide +kernel
 have hv1 : valsL [(clL, d)] teL = [] := by unfold valsL; simp [h1]
 have hv2 : valsL [(clL, d)] clL = [d] := by unfold valsL; simp [h2]
 have hg : getL [(clL, d)] clL = d := by unfold getL; rw [hv2]; simp [Lib.join]
 refine ⟨?_, hg⟩
 unfold readE
 rw [if_neg (by omega), if_neg (by decide), hv1, hv2, hg, if_neg (by simp), if_pos (by simp)]
section
variable [Tabs Tryd.prog] [Brn Tryd.prog] {objs : List OB} {K : List OB → AV → Prop}
set_option maxRecDepth 100000 in
theorem sane19_k (hk : K objs (.b true)) : CallOk Tryd.prog 16 [] objs K := by
 refine fn_rn is_law19_sane rfl fun C _ => ?_
 simp only [c_law19_sane, sxZ, evs, evp, setd, SV.ev, AV.flat, AV.one, AV.cells, resAs, resA, tupA, pub, pubs, AV.plain, plains, srcOf, splice, fillA, eqA, eqAs, z6, z7, z8, j2, j3, j4, j5, j6, j7, j8, j9, x0, x3, x4, x5, x6, reduceCtorEq, ↓reduceIte]
 refine kcall (chunked_k _ 9 (by decide) (by omega) (by omega) ?_)
 rw [saneE1]
 simp only [sxZ, evs, evp, setd, SV.ev, AV.flat, AV.one, AV.cells, resAs, resA, tupA, pub, pubs, AV.plain, plains, srcOf, splice, fillA, eqA, eqAs, z6, z7, z8, j2, j3, j4, j5, j6, j7, j8, j9, x0, x3, x4, x5, x6, reduceCtorEq, ↓reduceIte]
 refine kcall (chunked_k _ 9 (by decide) (by omega) (by omega) ?_)
 rw [saneE2]
 simp only [sxZ, evs, evp, setd, SV.ev, AV.flat, AV.one, AV.cells, resAs, resA, tupA, pub, pubs, AV.plain, plains, srcOf, splice, fillA, eqA, eqAs, z6, z7, z8, j2, j3, j4, j5, j6, j7, j8, j9, x0, x3, x4, x5, x6, reduceCtorEq, ↓reduceIte]
 refine kcall (chunked_k _ 9 (by decide) (by omega) (by omega) ?_)
 rw [saneE3]
 simp only [sxZ, evs, evp, setd, SV.ev, AV.flat, AV.one, AV.cells, resAs, resA, tupA, pub, pubs, AV.plain, plains, srcOf, splice, fillA, eqA, eqAs, z6, z7, z8, j2, j3, j4, j5, j6, j7, j8, j9, x0, x3, x4, x5, x6, reduceCtorEq, ↓reduceIte]
 refine kcall (bEncode_k _ 2 (by decide) (by omega) (by omega) ?_)
 rw [saneE4]
 simp only [sxZ, evs, evp, setd, SV.ev, AV.flat, AV.one, AV.cells, resAs, resA, tupA, pub, pubs, AV.plain, plains, srcOf, splice, fillA, eqA, eqAs, z6, z7, z8, j2, j3, j4, j5, j6, j7, j8, j9, x0, x3, x4, x5, x6, reduceCtorEq, ↓reduceIte]
 exact hk
set_option maxRecDepth 100000 in
theorem bodyEncodes_c (l0 : List UInt8) (w0 : l0.length ≤ 140737488351232) (l1 : List UInt8) (w1 : l1.length ≤ 140737488351232) (n2 : Int) (w2 : (Lit.int .i64 n2).wf = true) :
  CallOk Tryd.prog 5 [.s l0, .s l1, .i .i64 n2] [] (fun _ r => r = .b true) := by
 obtain ⟨b0, b1⟩ := bwf_i64 w2
 refine fn_rn is_law19_BodyEncodes rfl fun C _ => ?_
 simp only [c_law19_BodyEncodes, sxZ, evs, evp, setd, SV.ev, AV.flat, AV.one, AV.cells, resAs, resA, tupA, pub, pubs, AV.plain, plains, srcOf, splice, fillA, eqA, eqAs, z6, z7, z8, j2, j3, j4, j5, j6, j7, j8, j9, x0, x3, x4, x5, x6, reduceCtorEq, ↓reduceIte]
 refine kcall (sane19_k ?_)
 simp only [sxZ, evs, evp, setd, SV.ev, AV.flat, AV.one, AV.cells, resAs, resA, tupA, pub, pubs, AV.plain, plains, srcOf, splice, fillA, eqA, eqAs, z6, z7, z8, j2, j3, j4, j5, j6, j7, j8, j9, x0, x3, x4, x5, x6, reduceCtorEq, ↓reduceIte]
 by_cases c1 : (500 : Int) < l0.length
 ·simp only [sxZ, evs, evp, setd, SV.ev, AV.flat, AV.one, AV.cells, resAs, resA, tupA, pub, pubs, AV.plain, plains, srcOf, splice, fillA, eqA, eqAs, z6, z7, z8, j2, j3, j4, j5, j6, j7, j8, j9, x0, x3, x4, x5, x6, reduceCtorEq, ↓reduceIte, c1]
 by_cases c2 : (100 : Int) < l1.length
 ·simp only [sxZ, evs, evp, setd, SV.ev, AV.flat, AV.one, AV.cells, resAs, resA, tupA, pub, pubs, AV.plain, plains, srcOf, splice, fillA, eqA, eqAs, z6, z7, z8, j2, j3, j4, j5, j6, j7, j8, j9, x0, x3, x4, x5, x6, reduceCtorEq, ↓reduceIte, c1, c2]
 simp only [sxZ, evs, evp, setd, SV.ev, AV.flat, AV.one, AV.cells, resAs, resA, tupA, pub, pubs, AV.plain, plains, srcOf, splice, fillA, eqA, eqAs, z6, z7, z8, j2, j3, j4, j5, j6, j7, j8, j9, x0, x3, x4, x5, x6, reduceCtorEq, ↓reduceIte, c1, c2]
 refine kcall (bEncode_k l0 n2 (by omega) b0 b1 ?_)
 have hel : (encodeL l0 n2).length ≤ 8 * l0.length + 5 := encL_le _ (by omega) l0.length l0 (by omega) (Nat.le_refl _)
 simp only [sxZ, evs, evp, setd, SV.ev, AV.flat, AV.one, AV.cells, resAs, resA, tupA, pub, pubs, AV.plain, plains, srcOf, splice, fillA, eqA, eqAs, z6, z7, z8, j2, j3, j4, j5, j6, j7, j8, j9, x0, x3, x4, x5, x6, reduceCtorEq, ↓reduceIte]
 refine ⟨by omega, kcall (chunked_k _ _ (by rw [List.length_append]; omega) (by omega) (by omega) ?_)⟩
 rw [enc_all (Int.le_refl _) (by omega)]
 simp only [sxZ, evs, evp, setd, SV.ev, AV.flat, AV.one, AV.cells, resAs, resA, tupA, pub, pubs, AV.plain, plains, srcOf, splice, fillA, eqA, eqAs, z6, z7, z8, j2, j3, j4, j5, j6, j7, j8, j9, x0, x3, x4, x5, x6, reduceCtorEq, ↓reduceIte]
 refine ⟨by omega, kcall (chunked_k _ _ (by omega) (by omega) (by omega) ?_)⟩
 rw [enc_big (by omega) (by omega)]
 simp only [sxZ, evs, evp, setd, SV.ev, AV.flat, AV.one, AV.cells, resAs, resA, tupA, pub, pubs, AV.plain, plains, srcOf, splice, fillA, eqA, eqAs, z6, z7, z8, j2, j3, j4, j5, j6, j7, j8, j9, x0, x3, x4, x5, x6, reduceCtorEq, ↓reduceIte]
 refine kcall (rbEncode_k l0 n2 (by omega) b0 b1 ?_)
 simp only [sxZ, evs, evp, setd, SV.ev, AV.flat, AV.one, AV.cells, resAs, resA, tupA, pub, pubs, AV.plain, plains, srcOf, splice, fillA, eqA, eqAs, z6, z7, z8, j2, j3, j4, j5, j6, j7, j8, j9, x0, x3, x4, x5, x6, reduceCtorEq, ↓reduceIte]
omit [Brn Tryd.prog] in
set_option maxRecDepth 100000 in
theorem digits19_k (n : Nat) (hn : n ≤ 1000000) (hk : K objs (.s (Lib.decDigits n))) : CallOk Tryd.prog 21 [.i .i64 n] objs K := by
 refine fn_rn is_law19_digits rfl fun C _ => ?_
 simp only [c_law19_digits, sxZ, evs, evp, setd, SV.ev, AV.flat, AV.one, AV.cells, resAs, resA, tupA, pub, pubs, AV.plain, plains, srcOf, splice, fillA, eqA, eqAs, z6, z7, z8, j2, j3, j4, j5, j6, j7, j8, j9, x0, x3, x4, x5, x6, reduceCtorEq, ↓reduceIte]
 refine rn_loop (fun m objs tm => ∃ (v : Nat) (ds : List UInt8), m = v + 1 ∧ v ≤ 1000000 ∧ v + ds.length ≤ 1000000 ∧ objs = [] ∧ Lib.decDigits n = Lib.decDigits v ++ ds ∧ tm.length = 17 ∧ tm[0]? = some (.i .i64 v) ∧ tm[3]? = some (.s ds)) (n + 1) ⟨n, [], rfl, hn, by simp; omega, rfl, by simp, rfl, rfl, rfl⟩ ?_
 rintro m _ tm ⟨v, ds, rfl, hv, hdl, rfl, hh, hlen, t0, t3⟩
 have ht : ((v : Nat) : Int).tmod 10 = ((v % 10 : Nat) : Int) := by rw [Int.tmod_eq_emod_of_nonneg (by omega)]; omega
 have hq : ((v : Nat) : Int).tdiv 10 = ((v / 10 : Nat) : Int) := by rw [Int.tdiv_eq_ediv_of_nonneg (by omega)]; omega
 have hw : IntKind.u8.wrap ((48 : Int) + ((v % 10 : Nat) : Int)) = (((UInt8.ofNat (48 + v % 10)).toNat : Nat) : Int) := by
  exact dig10w ⟨v % 10, by omega⟩
 by_cases c1 : ((v / 10 : Nat) : Int) = 0
 ·have e : Lib.decDigits n = UInt8.ofNat (48 + v % 10) :: ds := by rw [hh, dec_one (show v < 10 by omega), show v % 10 = v by omega]; rfl
  rw [e] at hk
  simp only [sxZ, evs, evp, setd, SV.ev, AV.flat, AV.one, AV.cells, resAs, resA, tupA, pub, pubs, AV.plain, plains, srcOf, splice, fillA, eqA, eqAs, z6, z7, z8, j2, j3, j4, j5, j6, j7, j8, j9, x0, x3, x4, x5, x6, reduceCtorEq, ↓reduceIte, List.getElem?_set, hlen, t0, t3, ht, hq, hw, c1]
  refine ⟨by omega, kCb_row [UInt8.ofNat (48 + v % 10)] 1 rfl ?_⟩
  simp only [sxZ, evs, evp, setd, SV.ev, AV.flat, AV.one, AV.cells, resAs, resA, tupA, pub, pubs, AV.plain, plains, srcOf, splice, fillA, eqA, eqAs, z6, z7, z8, j2, j3, j4, j5, j6, j7, j8, j9, x0, x3, x4, x5, x6, reduceCtorEq, ↓reduceIte, List.getElem?_set, hlen, t0, t3, hq, c1, List.singleton_append]
  exact ⟨by omega, hk⟩
 ·have e : Lib.decDigits n = Lib.decDigits (v / 10) ++ (UInt8.ofNat (48 + v % 10) :: ds) := by rw [hh, dec_more (show ¬ v < 10 by omega)]; simp
  simp only [sxZ, evs, evp, setd, SV.ev, AV.flat, AV.one, AV.cells, resAs, resA, tupA, pub, pubs, AV.plain, plains, srcOf, splice, fillA, eqA, eqAs, z6, z7, z8, j2, j3, j4, j5, j6, j7, j8, j9, x0, x3, x4, x5, x6, reduceCtorEq, ↓reduceIte, List.getElem?_set, hlen, t0, t3, ht, hq, hw, c1]
  refine ⟨by omega, kCb_row [UInt8.ofNat (48 + v % 10)] 1 rfl ?_⟩
  simp only [sxZ, evs, evp, setd, SV.ev, AV.flat, AV.one, AV.cells, resAs, resA, tupA, pub, pubs, AV.plain, plains, srcOf, splice, fillA, eqA, eqAs, z6, z7, z8, j2, j3, j4, j5, j6, j7, j8, j9, x0, x3, x4, x5, x6, reduceCtorEq, ↓reduceIte, List.getElem?_set, hlen, t0, t3, hq, c1, List.singleton_append]
  exact ⟨by omega, ⟨by omega, by omega⟩, _, by omega, v / 10, _, rfl, by omega, by rw [List.length_cons]; omega, e, rfl, rfl⟩
set_option maxRecDepth 100000 in
theorem bodyCuts_c [Shp Tryd.prog] (l0 : List UInt8) (w0 : l0.length ≤ 140737488351232) (n1 : Int) (w1 : (Lit.int .u8 n1).wf = true) (n2 : Int) (w2 : (Lit.int .u8 n2).wf = true) :
  CallOk Tryd.prog 6 [.s l0, .i .u8 n1, .i .u8 n2] [] (fun _ r => r = .b true) := by
 obtain ⟨u1, rfl⟩ := sl_wf8 w1
 obtain ⟨u2, rfl⟩ := sl_wf8 w2
 have hu1 := u1.toNat_lt
 have hu2 := u2.toNat_lt
 have hw1 : IntKind.i64.wrap ((u1.toNat : Nat) : Int) = ((u1.toNat : Nat) : Int) := IntWalk.i64_in _ (by omega)
 have hw2 : IntKind.i64.wrap ((u2.toNat : Nat) : Int) = ((u2.toNat : Nat) : Int) := IntWalk.i64_in _ (by omega)
 refine fn_rn is_law19_BodyCuts rfl fun C _ => ?_
 simp only [c_law19_BodyCuts, sxZ, evs, evp, setd, SV.ev, AV.flat, AV.one, AV.cells, resAs, resA, tupA, pub, pubs, AV.plain, plains, srcOf, splice, fillA, eqA, eqAs, z6, z7, z8, j2, j3, j4, j5, j6, j7, j8, j9, x0, x3, x4, x5, x6, reduceCtorEq, ↓reduceIte]
 refine kcall (sane19_k ?_)
 simp only [sxZ, evs, evp, setd, SV.ev, AV.flat, AV.one, AV.cells, resAs, resA, tupA, pub, pubs, AV.plain, plains, srcOf, splice, fillA, eqA, eqAs, z6, z7, z8, j2, j3, j4, j5, j6, j7, j8, j9, x0, x3, x4, x5, x6, reduceCtorEq, ↓reduceIte]
 by_cases c1 : (300 : Int) < l0.length
 ·simp only [sxZ, evs, evp, setd, SV.ev, AV.flat, AV.one, AV.cells, resAs, resA, tupA, pub, pubs, AV.plain, plains, srcOf, splice, fillA, eqA, eqAs, z6, z7, z8, j2, j3, j4, j5, j6, j7, j8, j9, x0, x3, x4, x5, x6, reduceCtorEq, ↓reduceIte, c1]
 by_cases c2 : ((l0.length : Nat) : Int) = 0
 ·simp only [sxZ, evs, evp, setd, SV.ev, AV.flat, AV.one, AV.cells, resAs, resA, tupA, pub, pubs, AV.plain, plains, srcOf, splice, fillA, eqA, eqAs, z6, z7, z8, j2, j3, j4, j5, j6, j7, j8, j9, x0, x3, x4, x5, x6, reduceCtorEq, ↓reduceIte, c1, c2]
 simp only [sxZ, evs, evp, setd, SV.ev, AV.flat, AV.one, AV.cells, resAs, resA, tupA, pub, pubs, AV.plain, plains, srcOf, splice, fillA, eqA, eqAs, z6, z7, z8, j2, j3, j4, j5, j6, j7, j8, j9, x0, x3, x4, x5, x6, reduceCtorEq, ↓reduceIte, c1, c2, hw1]
 refine kcall (bEncode_k l0 u1.toNat (by omega) (by omega) (by omega) ?_)
 have hel : (encodeL l0 ((u1.toNat : Nat) : Int)).length ≤ 8 * l0.length + 5 := encL_le _ (by omega) l0.length l0 (by omega) (Nat.le_refl _)
 have hep : 0 < (encodeL l0 ((u1.toNat : Nat) : Int)).length := by
  have := encL_len (max ((u1.toNat : Nat) : Int) 1).toNat (by omega) l0.length l0 (Nat.le_refl _)
  unfold encodeL; omega
 have hsh := fun q hq => enc_short (s := l0) (size := ((u1.toNat : Nat) : Int)) (most := 1000) (by omega) (by omega) (q := q) hq
 generalize encodeL l0 ((u1.toNat : Nat) : Int) = T at *
 have hr1 : ((u2.toNat : Nat) : Int).tmod ((T.length : Nat) : Int) = ((u2.toNat % T.length : Nat) : Int) := by rw [Int.tmod_eq_emod_of_nonneg (by omega)]; omega
 have hr2 : ((u2.toNat : Nat) : Int).tmod ((l0.length : Nat) : Int) = ((u2.toNat % l0.length : Nat) : Int) := by rw [Int.tmod_eq_emod_of_nonneg (by omega)]; omega
 have hk1 : u2.toNat % T.length < T.length := Nat.mod_lt _ hep
 have hk2 : u2.toNat % l0.length < l0.length := Nat.mod_lt _ (by omega)
 generalize u2.toNat % T.length = q1 at *
 generalize u2.toNat % l0.length = q2 at *
 simp only [sxZ, evs, evp, setd, SV.ev, AV.flat, AV.one, AV.cells, resAs, resA, tupA, pub, pubs, AV.plain, plains, srcOf, splice, fillA, eqA, eqAs, z6, z7, z8, j2, j3, j4, j5, j6, j7, j8, j9, x0, x3, x4, x5, x6, reduceCtorEq, ↓reduceIte, hw2, hr1, Int.toNat_natCast]
 refine ⟨by omega, ⟨by omega, by omega⟩, ?_⟩
 refine kcall (bRead_k 0 200 [(teL, [99, 104, 117, 110, 107, 101, 100])] (T.take q1) 1000 ⟨by simp, by intro p hp; simp at hp; subst hp; decide⟩ (by decide) (by rw [List.length_take]; omega) (by omega) (by omega) ?_)
 have e1 : readE 200 [(teL, [99, 104, 117, 110, 107, 101, 100])] (T.take q1) 1000 = (191, []) := by
  have hv1 : valsL [(teL, [99, 104, 117, 110, 107, 101, 100])] teL = [[99, 104, 117, 110, 107, 101, 100]] := by decide +kernel
  have hv2 : valsL [(teL, [99, 104, 117, 110, 107, 101, 100])] clL = [] := by decide +kernel
  have hg : getL [(teL, [99, 104, 117, 110, 107, 101, 100])] teL = [99, 104, 117, 110, 107, 101, 100] := by decide +kernel
  have hlo : lowL [99, 104, 117, 110, 107, 101, 100] = [99, 104, 117, 110, 107, 101, 100] := by decide +kernel
  unfold readE
  rw [if_neg (by omega), if_neg (by decide), hv1, hv2, hg, hlo, if_pos (by simp), if_neg (by simp)]
  exact hsh q1 hk1
 rw [e1]
 simp only [sxZ, evs, evp, setd, SV.ev, AV.flat, AV.one, AV.cells, resAs, resA, tupA, pub, pubs, AV.plain, plains, srcOf, splice, fillA, eqA, eqAs, z6, z7, z8, j2, j3, j4, j5, j6, j7, j8, j9, x0, x3, x4, x5, x6, reduceCtorEq, ↓reduceIte, hw2, hr2, Int.toNat_natCast]
 have hdl0 := decL_le l0.length (by omega)
 have hdl1 := decL_le q2 (by omega)
 obtain ⟨r1, g1⟩ := read_len (Lib.decDigits l0.length) (l0.take q2) 1000 (by omega)
 obtain ⟨r2, g2⟩ := read_len (Lib.decDigits q2) l0 1000 (by omega)
 rw [dec_value _ _ (by omega), if_pos (by rw [List.length_take]; omega)] at r1
 rw [dec_value _ _ (by omega), if_neg (by omega)] at r2
 refine ⟨by omega, kdcall (digits19_k l0.length (by omega) ⟨rfl, rfl⟩) ?_⟩
 simp only [sxZ, evs, evp, setd, SV.ev, AV.flat, AV.one, AV.cells, resAs, resA, tupA, pub, pubs, AV.plain, plains, srcOf, splice, fillA, eqA, eqAs, z6, z7, z8, j2, j3, j4, j5, j6, j7, j8, j9, x0, x3, x4, x5, x6, reduceCtorEq, ↓reduceIte, hw2, hr2, Int.toNat_natCast]
 refine ⟨by omega, ?_⟩
 refine kdcall (bRead_k 0 200 [(clL, Lib.decDigits l0.length)] (l0.take q2) 1000 ⟨by simp, by intro p hp; simp at hp; subst hp; simp only [show clL.length = 14 from rfl]; omega⟩ (by rw [g1]; omega) (by rw [List.length_take]; omega) (by omega) (by omega) ⟨rfl, rfl⟩) ?_
 rw [r1]
 simp only [sxZ, evs, evp, setd, SV.ev, AV.flat, AV.one, AV.cells, resAs, resA, tupA, pub, pubs, AV.plain, plains, srcOf, splice, fillA, eqA, eqAs, z6, z7, z8, j2, j3, j4, j5, j6, j7, j8, j9, x0, x3, x4, x5, x6, reduceCtorEq, ↓reduceIte, hw2, hr2, Int.toNat_natCast]
 refine kcall (digits19_k q2 (by omega) ?_)
 simp only [sxZ, evs, evp, setd, SV.ev, AV.flat, AV.one, AV.cells, resAs, resA, tupA, pub, pubs, AV.plain, plains, srcOf, splice, fillA, eqA, eqAs, z6, z7, z8, j2, j3, j4, j5, j6, j7, j8, j9, x0, x3, x4, x5, x6, reduceCtorEq, ↓reduceIte]
 refine kcall (bRead_k 0 200 [(clL, Lib.decDigits q2)] l0 1000 ⟨by simp, by intro p hp; simp at hp; subst hp; simp only [show clL.length = 14 from rfl]; omega⟩ (by rw [g2]; omega) (by omega) (by omega) (by omega) ?_)
 rw [r2]
 simp only [sxZ, evs, evp, setd, SV.ev, AV.flat, AV.one, AV.cells, resAs, resA, tupA, pub, pubs, AV.plain, plains, srcOf, splice, fillA, eqA, eqAs, z6, z7, z8, j2, j3, j4, j5, j6, j7, j8, j9, x0, x3, x4, x5, x6, reduceCtorEq, ↓reduceIte, Int.toNat_natCast]
 exact ⟨by omega, by omega⟩
omit [Brn Tryd.prog] in
set_option maxRecDepth 100000 in
theorem size19_k (n : Nat) (hn : n < 256) (hk : K objs (.s (psize n))) : CallOk Tryd.prog 23 [.i .i64 n] objs K := by
 refine fn_rn is_law19_size rfl fun C _ => ?_
 have ht : ((n : Nat) : Int).tmod 16 = ((n % 16 : Nat) : Int) := by rw [Int.tmod_eq_emod_of_nonneg (by omega)]; omega
 have hq : ((n : Nat) : Int).tdiv 16 = ((n / 16 : Nat) : Int) := by rw [Int.tdiv_eq_ediv_of_nonneg (by omega)]; omega
 have ht2 : ((n / 16 : Nat) : Int).tmod 16 = ((n / 16 % 16 : Nat) : Int) := by rw [Int.tmod_eq_emod_of_nonneg (by omega)]; omega
 simp only [c_law19_size, sxZ, evs, evp, setd, SV.ev, AV.flat, AV.one, AV.cells, resAs, resA, tupA, pub, pubs, AV.plain, plains, srcOf, splice, fillA, eqA, eqAs, z6, z7, z8, j2, j3, j4, j5, j6, j7, j8, j9, x0, x3, x4, x5, x6, reduceCtorEq, ↓reduceIte, ht, hq, ht2, Int.toNat_natCast]
 refine ⟨⟨by omega, by omega⟩, ⟨by omega, by omega⟩, ⟨by omega, by omega⟩, kCb_row [pdig.getD (n / 16 % 16) 0, pdig.getD (n % 16) 0] 2 rfl ?_⟩
 simp only [sxZ, evs, evp, setd, SV.ev, AV.flat, AV.one, AV.cells, resAs, resA, tupA, pub, pubs, AV.plain, plains, srcOf, splice, fillA, eqA, eqAs, z6, z7, z8, j2, j3, j4, j5, j6, j7, j8, j9, x0, x3, x4, x5, x6, reduceCtorEq, ↓reduceIte]
 exact hk
omit [Brn Tryd.prog] in
set_option maxRecDepth 100000 in
theorem keepN_k (l : List (List UInt8)) (n m : Int) (hl : l.length ≤ 140737488351232) (hw : ∀ w ∈ l, w.length ≤ 140737488351232) (hk : K objs (.b (decide ((l.length : Int) ≤ n) && l.all fun w => decide ((w.length : Int) ≤ m)))) : CallOk Tryd.prog 22 [.row l.length (l.map .s), .i .i64 n, .i .i64 m] objs K := by
 refine fn_rn is_keep_Strings (by simp [plains, AV.plain, strs_plain]) fun C _ => ?_
 by_cases c1 : n < l.length
 ·rw [decide_eq_false (by omega)] at hk
  simp only [c_keep_Strings, sxZ, evs, evp, setd, SV.ev, AV.flat, AV.one, AV.cells, resAs, resA, tupA, pub, pubs, AV.plain, plains, srcOf, splice, fillA, eqA, eqAs, z6, z7, z8, j2, j3, j4, j5, j6, j7, j8, j9, x0, x3, x4, x5, x6, reduceCtorEq, ↓reduceIte, c1]
  exact hk
 ·rw [decide_eq_true (by omega), Bool.true_and] at hk
  simp only [c_keep_Strings, sxZ, evs, evp, setd, SV.ev, AV.flat, AV.one, AV.cells, resAs, resA, tupA, pub, pubs, AV.plain, plains, srcOf, splice, fillA, eqA, eqAs, z6, z7, z8, j2, j3, j4, j5, j6, j7, j8, j9, x0, x3, x4, x5, x6, reduceCtorEq, ↓reduceIte, c1]
  refine rn_loop (fun k objs tm => ∃ i : Nat, i ≤ l.length ∧ k = l.length - i ∧ tm.length = 24 ∧ tm[2]? = some (.i .i64 m) ∧ tm[13]? = some (.row l.length (l.map .s)) ∧ tm[14]? = some (.i .i64 l.length) ∧ tm[15]? = some (.i .i64 i) ∧ (l.all fun w => decide ((w.length : Int) ≤ m)) = ((l.drop i).all fun w => decide ((w.length : Int) ≤ m))) l.length ⟨0, by omega, rfl, rfl, rfl, rfl, rfl, rfl, rfl⟩ ?_
  rintro k o tm ⟨i, hi, rfl, hlen, t2, t13, t14, t15, hall⟩
  by_cases hlt : (i : Int) < l.length
  ·have hlt' : i < l.length := by omega
   have hat : (l.map AV.s)[i]? = some (.s l[i]) := by simp [hlt']
   rw [List.drop_eq_getElem_cons hlt', List.all_cons] at hall
   by_cases c2 : m < l[i].length
   ·rw [decide_eq_false (by omega), Bool.false_and] at hall
    rw [hall] at hk
    simp only [sxZ, evs, evp, setd, SV.ev, AV.flat, AV.one, AV.cells, resAs, resA, tupA, pub, pubs, AV.plain, plains, srcOf, splice, fillA, eqA, eqAs, z6, z7, z8, j2, j3, j4, j5, j6, j7, j8, j9, x0, x3, x4, x5, x6, reduceCtorEq, ↓reduceIte, List.getElem?_set, hlen, t2, t13, t14, t15, hlt, Int.toNat_natCast, Nat.mul_one, hat, List.length_map, c2]
    exact ⟨by omega, hk⟩
   ·rw [decide_eq_true (by omega), Bool.true_and] at hall
    simp only [sxZ, evs, evp, setd, SV.ev, AV.flat, AV.one, AV.cells, resAs, resA, tupA, pub, pubs, AV.plain, plains, srcOf, splice, fillA, eqA, eqAs, z6, z7, z8, j2, j3, j4, j5, j6, j7, j8, j9, x0, x3, x4, x5, x6, reduceCtorEq, ↓reduceIte, List.getElem?_set, hlen, t2, t13, t14, t15, hlt, Int.toNat_natCast, Nat.mul_one, hat, List.length_map, c2]
    exact ⟨by omega, ⟨by omega, by omega⟩, _, by omega, i + 1, by omega, rfl, rfl, hall⟩
  ·obtain rfl : i = l.length := by omega
   rw [List.drop_length, List.all_nil] at hall
   rw [hall] at hk
   simp only [sxZ, evs, evp, setd, SV.ev, AV.flat, AV.one, AV.cells, resAs, resA, tupA, pub, pubs, AV.plain, plains, srcOf, splice, fillA, eqA, eqAs, z6, z7, z8, j2, j3, j4, j5, j6, j7, j8, j9, x0, x3, x4, x5, x6, reduceCtorEq, ↓reduceIte, List.getElem?_set, hlen, t2, t13, t14, t15, hlt]
   exact hk
set_option maxRecDepth 100000 in
theorem bodyPieces_c (g0 : List (List AV)) (w0 : g0.length ≤ 140737488351232) (h0 : ∀ g ∈ g0, ShT .s g) (b1 b2 : Bool) :
  CallOk Tryd.prog 7 [.row g0.length g0.flatten, .b b1, .b b2] [] (fun _ r => r = .b true) := by
 obtain ⟨l, e1, e2, hw⟩ := sl_str h0
 rw [e1, e2]
 rw [e2] at w0
 refine fn_rn is_law19_BodyPieces (by simp [plains, AV.plain, strs_plain]) fun C _ => ?_
 rw [c_law19_BodyPieces]
 refine rn_hide fun Y hY => ?_
 simp only [sxZ, evs, evp, setd, SV.ev, AV.flat, AV.one, AV.cells, resAs, resA, tupA, pub, pubs, AV.plain, plains, srcOf, splice, fillA, eqA, eqAs, z6, z7, z8, j2, j3, j4, j5, j6, j7, j8, j9, x0, x3, x4, x5, x6, reduceCtorEq, ↓reduceIte]
 subst hY
 refine rn_hide fun Y hY => ?_
 simp only [sxZ, evs, evp, setd, SV.ev, AV.flat, AV.one, AV.cells, resAs, resA, tupA, pub, pubs, AV.plain, plains, srcOf, splice, fillA, eqA, eqAs, z6, z7, z8, j2, j3, j4, j5, j6, j7, j8, j9, x0, x3, x4, x5, x6, reduceCtorEq, ↓reduceIte]
 refine kcall (sane19_k ?_)
 simp only [sxZ, evs, evp, setd, SV.ev, AV.flat, AV.one, AV.cells, resAs, resA, tupA, pub, pubs, AV.plain, plains, srcOf, splice, fillA, eqA, eqAs, z6, z7, z8, j2, j3, j4, j5, j6, j7, j8, j9, x0, x3, x4, x5, x6, reduceCtorEq, ↓reduceIte]
 subst hY
 refine rn_hide fun Y hY => ?_
 simp only [sxZ, evs, evp, setd, SV.ev, AV.flat, AV.one, AV.cells, resAs, resA, tupA, pub, pubs, AV.plain, plains, srcOf, splice, fillA, eqA, eqAs, z6, z7, z8, j2, j3, j4, j5, j6, j7, j8, j9, x0, x3, x4, x5, x6, reduceCtorEq, ↓reduceIte]
 refine kcall (keepN_k l 12 60 w0 hw ?_)
 by_cases hkp : (decide ((l.length : Int) ≤ 12) && l.all fun w => decide ((w.length : Int) ≤ 60)) = true
 ·simp only [hkp, sxZ, evs, evp, setd, SV.ev, AV.flat, AV.one, AV.cells, resAs, resA, tupA, pub, pubs, AV.plain, plains, srcOf, splice, fillA, eqA, eqAs, z6, z7, z8, j2, j3, j4, j5, j6, j7, j8, j9, x0, x3, x4, x5, x6, reduceCtorEq, ↓reduceIte]
  rw [Bool.and_eq_true, List.all_eq_true] at hkp
  have hn := of_decide_eq_true hkp.1
  have hm : ∀ w ∈ l, w.length ≤ 60 := fun w hw => by have := of_decide_eq_true (hkp.2 w hw); omega
  subst hY
  refine rn_hide fun Y hY => ?_
  simp only [sxZ, evs, evp, setd, SV.ev, AV.flat, AV.one, AV.cells, resAs, resA, tupA, pub, pubs, AV.plain, plains, srcOf, splice, fillA, eqA, eqAs, z6, z7, z8, j2, j3, j4, j5, j6, j7, j8, j9, x0, x3, x4, x5, x6, reduceCtorEq, ↓reduceIte]
  subst hY
  refine rn_hide fun Y hY => ?_
  have hfl : l.flatten.length ≤ 60 * l.length := by
   clear hkp hn w0 hw e1 e2
   induction l with
   | nil => simp
   | cons x l ih => have := hm x (List.mem_cons_self ..); have := ih (fun w hw => hm w (List.mem_cons_of_mem _ hw)); simp only [List.flatten_cons, List.length_append, List.length_cons]; omega
  refine rn_cut (fun o t => o = [] ∧ t.length = 78 ∧ t[2]? = some (.b b2) ∧ t[7]? = some (.s (pmany b1 l)) ∧ t[8]? = some (.s l.flatten)) ?_ ?_
  ·simp only [sxZ, evs, evp, setd, SV.ev, AV.flat, AV.one, AV.cells, resAs, resA, tupA, pub, pubs, AV.plain, plains, srcOf, splice, fillA, eqA, eqAs, z6, z7, z8, j2, j3, j4, j5, j6, j7, j8, j9, x0, x3, x4, x5, x6, reduceCtorEq, ↓reduceIte]
   refine rn_loop (fun k objs tm => ∃ i : Nat, i ≤ l.length ∧ k = l.length - i ∧ objs = [] ∧ tm.length = 78 ∧ tm[1]? = some (.b b1) ∧ tm[2]? = some (.b b2) ∧ tm[7]? = some (.s (pmany b1 (l.take i))) ∧ tm[8]? = some (.s (l.take i).flatten) ∧ tm[20]? = some (.row l.length (l.map .s)) ∧ tm[21]? = some (.i .i64 l.length) ∧ tm[22]? = some (.i .i64 i)) l.length ⟨0, by omega, rfl, rfl, rfl, rfl, rfl, rfl, rfl, rfl, rfl, rfl⟩ ?_
   rintro k _ tm ⟨i, hi, rfl, rfl, hlen, t1, t2, t7, t8, t20, t21, t22⟩
   by_cases hlt : (i : Int) < l.length
   ·have hlt' : i < l.length := by omega
    have hat : (l.map AV.s)[i]? = some (.s l[i]) := by simp [hlt']
    have hxl := hm _ (List.getElem_mem hlt')
    have hsn : pmany b1 (l.take (i + 1)) = pmany b1 (l.take i) ++ pone b1 l[i] := by unfold pmany; rw [List.take_succ_eq_append_getElem hlt', List.flatMap_append]; simp
    have hsf : (l.take (i + 1)).flatten = (l.take i).flatten ++ l[i] := by rw [List.take_succ_eq_append_getElem hlt', List.flatten_append]; simp
    have hpl := (pmany_len b1 (l.take i)).2
    have hfl2 : (l.take i).flatten.length ≤ l.flatten.length := by
     conv => rhs; rw [← List.take_append_drop i l, List.flatten_append, List.length_append]
     omega
    have htl : (l.take i).length ≤ l.length := by rw [List.length_take]; omega
    obtain ⟨x, hx⟩ : ∃ x, x = l[i] := ⟨_, rfl⟩
    rw [← hx] at hat hxl hsn hsf
    by_cases c1 : x = []
    ·rw [c1, show pone b1 [] = [] from rfl, List.append_nil] at hsn
     rw [c1, List.append_nil] at hsf
     simp only [sxZ, evs, evp, setd, SV.ev, AV.flat, AV.one, AV.cells, resAs, resA, tupA, pub, pubs, AV.plain, plains, srcOf, splice, fillA, eqA, eqAs, z6, z7, z8, j2, j3, j4, j5, j6, j7, j8, j9, x0, x3, x4, x5, x6, reduceCtorEq, ↓reduceIte, List.getElem?_set, hlen, t1, t2, t7, t8, t20, t21, t22, hlt, Int.toNat_natCast, Nat.mul_one, hat, List.length_map, c1]
     exact ⟨by omega, ⟨by omega, by omega⟩, _, by omega, i + 1, by omega, rfl, by rw [hsn], by rw [hsf], rfl⟩
    ·simp only [sxZ, evs, evp, setd, SV.ev, AV.flat, AV.one, AV.cells, resAs, resA, tupA, pub, pubs, AV.plain, plains, srcOf, splice, fillA, eqA, eqAs, z6, z7, z8, j2, j3, j4, j5, j6, j7, j8, j9, x0, x3, x4, x5, x6, reduceCtorEq, ↓reduceIte, List.getElem?_set, hlen, t1, t2, t7, t8, t20, t21, t22, hlt, Int.toNat_natCast, Nat.mul_one, hat, List.length_map, c1]
     refine ⟨by omega, kcall (size19_k x.length (by omega) ?_)⟩
     have hps : (psize x.length).length = 3 := rfl
     have hpo : pone b1 x = psize x.length ++ (pextL b1 ++ 13 :: 10 :: (x ++ [13, 10])) := by unfold pone; rw [if_neg c1]
     rw [hpo] at hsn
     cases b1
     ·simp only [sxZ, evs, evp, setd, SV.ev, AV.flat, AV.one, AV.cells, resAs, resA, tupA, pub, pubs, AV.plain, plains, srcOf, splice, fillA, eqA, eqAs, z6, z7, z8, j2, j3, j4, j5, j6, j7, j8, j9, x0, x3, x4, x5, x6, reduceCtorEq, ↓reduceIte, List.getElem?_set, hlen, t1, t2, t7, t8, t20, t21, t22]
      exact ⟨by omega, by omega, by omega, by omega, by omega, ⟨by omega, by omega⟩, _, by omega, i + 1, by omega, rfl, by rw [hsn]; simp [pextL], by rw [hsf], rfl⟩
     ·simp only [sxZ, evs, evp, setd, SV.ev, AV.flat, AV.one, AV.cells, resAs, resA, tupA, pub, pubs, AV.plain, plains, srcOf, splice, fillA, eqA, eqAs, z6, z7, z8, j2, j3, j4, j5, j6, j7, j8, j9, x0, x3, x4, x5, x6, reduceCtorEq, ↓reduceIte, List.getElem?_set, hlen, t1, t2, t7, t8, t20, t21, t22]
      exact ⟨by omega, by omega, by omega, by omega, by omega, by omega, ⟨by omega, by omega⟩, _, by omega, i + 1, by omega, rfl, by rw [hsn]; simp [pextL], by rw [hsf], rfl⟩
   ·obtain rfl : i = l.length := by omega
    rw [List.take_length] at t7 t8
    simp only [sxZ, evs, evp, setd, SV.ev, AV.flat, AV.one, AV.cells, resAs, resA, tupA, pub, pubs, AV.plain, plains, srcOf, splice, fillA, eqA, eqAs, z6, z7, z8, j2, j3, j4, j5, j6, j7, j8, j9, x0, x3, x4, x5, x6, reduceCtorEq, ↓reduceIte, List.getElem?_set, hlen, t1, t2, t7, t8, t20, t21, t22, hlt, cutF_normal, loopF_exit]
  ·rintro o t ⟨rfl, hlen, t2, t7, t8⟩
   subst hY
   have hpl := (pmany_len b1 l).2
   have hpg := (pmany_len b1 l).1
   cases b2
   ·simp only [sxZ, evs, evp, setd, SV.ev, AV.flat, AV.one, AV.cells, resAs, resA, tupA, pub, pubs, AV.plain, plains, srcOf, splice, fillA, eqA, eqAs, z6, z7, z8, j2, j3, j4, j5, j6, j7, j8, j9, x0, x3, x4, x5, x6, reduceCtorEq, ↓reduceIte, List.getElem?_set, hlen, t2, t7, t8]
    rw [show pmany b1 l ++ [48, 48, 48, 13, 10] ++ [13, 10, 109, 111, 114, 101] = pmany b1 l ++ pend false by simp [pend, ptrail]]
    have hpe : (pend false).length ≤ 30 := by decide
    refine ⟨by omega, by omega, kcall (chunked_k _ 1000 (by rw [List.length_append]; omega) (by omega) (by omega) ?_)⟩
    rw [chunked_of (pmany_ok b1 false 1000 (by omega) l _ 0 (fun w hw => by have := hm w hw; omega) (by omega) (by rw [List.length_append]; omega))]
    simp only [sxZ, evs, evp, setd, SV.ev, AV.flat, AV.one, AV.cells, resAs, resA, tupA, pub, pubs, AV.plain, plains, srcOf, splice, fillA, eqA, eqAs, z6, z7, z8, j2, j3, j4, j5, j6, j7, j8, j9, x0, x3, x4, x5, x6, reduceCtorEq, ↓reduceIte, List.getElem?_set, hlen, t2, t7, t8]
    refine kcall (bEncode_k l.flatten 7 (by omega) (by omega) (by omega) ?_)
    have hel : (encodeL l.flatten 7).length ≤ 8 * l.flatten.length + 5 := encL_le _ (by omega) l.flatten.length l.flatten (by omega) (Nat.le_refl _)
    have hea := enc_all (s := l.flatten) (size := 7) (most := 1000) (by omega) (by omega) []
    rw [List.append_nil] at hea
    simp only [sxZ, evs, evp, setd, SV.ev, AV.flat, AV.one, AV.cells, resAs, resA, tupA, pub, pubs, AV.plain, plains, srcOf, splice, fillA, eqA, eqAs, z6, z7, z8, j2, j3, j4, j5, j6, j7, j8, j9, x0, x3, x4, x5, x6, reduceCtorEq, ↓reduceIte, List.getElem?_set, hlen, t2, t7, t8]
    refine kcall (chunked_k _ 1000 (by omega) (by omega) (by omega) ?_)
    rw [hea]
    simp only [sxZ, evs, evp, setd, SV.ev, AV.flat, AV.one, AV.cells, resAs, resA, tupA, pub, pubs, AV.plain, plains, srcOf, splice, fillA, eqA, eqAs, z6, z7, z8, j2, j3, j4, j5, j6, j7, j8, j9, x0, x3, x4, x5, x6, reduceCtorEq, ↓reduceIte, List.getElem?_set, hlen, t2, t7, t8]
   ·simp only [sxZ, evs, evp, setd, SV.ev, AV.flat, AV.one, AV.cells, resAs, resA, tupA, pub, pubs, AV.plain, plains, srcOf, splice, fillA, eqA, eqAs, z6, z7, z8, j2, j3, j4, j5, j6, j7, j8, j9, x0, x3, x4, x5, x6, reduceCtorEq, ↓reduceIte, List.getElem?_set, hlen, t2, t7, t8]
    rw [show pmany b1 l ++ [48, 48, 48, 13, 10] ++ [88, 58, 32, 121, 13, 10, 122, 13, 10] ++ [13, 10, 109, 111, 114, 101] = pmany b1 l ++ pend true by simp [pend, ptrail]]
    have hpe : (pend true).length ≤ 30 := by decide
    refine ⟨by omega, by omega, by omega, kcall (chunked_k _ 1000 (by rw [List.length_append]; omega) (by omega) (by omega) ?_)⟩
    rw [chunked_of (pmany_ok b1 true 1000 (by omega) l _ 0 (fun w hw => by have := hm w hw; omega) (by omega) (by rw [List.length_append]; omega))]
    simp only [sxZ, evs, evp, setd, SV.ev, AV.flat, AV.one, AV.cells, resAs, resA, tupA, pub, pubs, AV.plain, plains, srcOf, splice, fillA, eqA, eqAs, z6, z7, z8, j2, j3, j4, j5, j6, j7, j8, j9, x0, x3, x4, x5, x6, reduceCtorEq, ↓reduceIte, List.getElem?_set, hlen, t2, t7, t8]
    refine kcall (bEncode_k l.flatten 7 (by omega) (by omega) (by omega) ?_)
    have hel : (encodeL l.flatten 7).length ≤ 8 * l.flatten.length + 5 := encL_le _ (by omega) l.flatten.length l.flatten (by omega) (Nat.le_refl _)
    have hea := enc_all (s := l.flatten) (size := 7) (most := 1000) (by omega) (by omega) []
    rw [List.append_nil] at hea
    simp only [sxZ, evs, evp, setd, SV.ev, AV.flat, AV.one, AV.cells, resAs, resA, tupA, pub, pubs, AV.plain, plains, srcOf, splice, fillA, eqA, eqAs, z6, z7, z8, j2, j3, j4, j5, j6, j7, j8, j9, x0, x3, x4, x5, x6, reduceCtorEq, ↓reduceIte, List.getElem?_set, hlen, t2, t7, t8]
    refine kcall (chunked_k _ 1000 (by omega) (by omega) (by omega) ?_)
    rw [hea]
    simp only [sxZ, evs, evp, setd, SV.ev, AV.flat, AV.one, AV.cells, resAs, resA, tupA, pub, pubs, AV.plain, plains, srcOf, splice, fillA, eqA, eqAs, z6, z7, z8, j2, j3, j4, j5, j6, j7, j8, j9, x0, x3, x4, x5, x6, reduceCtorEq, ↓reduceIte, List.getElem?_set, hlen, t2, t7, t8]
 ·simp only [Bool.not_eq_true] at hkp
  simp only [hkp, sxZ, evs, evp, setd, SV.ev, AV.flat, AV.one, AV.cells, resAs, resA, tupA, pub, pubs, AV.plain, plains, srcOf, splice, fillA, eqA, eqAs, z6, z7, z8, j2, j3, j4, j5, j6, j7, j8, j9, x0, x3, x4, x5, x6, reduceCtorEq, ↓reduceIte]
end
end
end Go.Proofs.YtecphoceobgncaaDoor
namespace Go.Proofs.YtecphoceobgncaaDoor
open Go.RowKit Sx
theorem tabIs_keep {P : Program} {w w' : World} {name : String} {k : IntKind} {zs : List Int} (h : Lib.TabIs P w name k zs) (hk : ∀ k, k < w.heap.size → w'.heap[k]? = w.heap[k]?) : Lib.TabIs P w' name k zs := by
 unfold Lib.TabIs World.var? at *
 cases hg : P.globalNamed name with
 | none => simp [hg] at h
 | some g =>
  simp only [hg, Option.bind_some] at h ⊢
  have hlt : g < w.heap.size := by
   rcases Nat.lt_or_ge g w.heap.size with h' | h'
   ·exact h'
   ·rw [Array.getElem?_eq_none h'] at h; simp at h
  rw [hk g hlt]
  exact h
instance tabsN : Tabs Tryd.prog := ⟨fun w => w.ShapedOpen Tryd.prog ∧ Lib.TabIs Tryd.prog w "internal/strconv.uint64pow10" .u64 Lib.pow10Tab, fun _ _ h hk _ => ⟨shaped_keep h.1 hk, tabIs_keep h.2 hk⟩⟩
instance tabsN_shp : Shp Tryd.prog := ⟨fun _ h => h.1⟩
instance tabsN_pow : Pow Tryd.prog := ⟨fun _ h => h.2⟩
end Go.Proofs.YtecphoceobgncaaDoor
namespace Go.Proofs.YtecphoceobgncaaDoor
open Go.RowKit Sx
def brnT : List Int := [0, 1, 56, 2, 57, 49, 28, 3, 61, 58, 42, 50, 38, 29, 17, 4, 62, 47, 59, 36, 45, 43, 51, 22, 53, 39, 33, 30, 24, 18, 12, 5, 63, 55, 48, 27, 60, 41, 37, 16, 46, 35, 44, 21, 52, 32, 23, 11, 54, 26, 40, 15, 34, 20, 31, 10, 25, 14, 19, 9, 13, 8, 7, 6]
theorem brn_of {w : World} (h : Lib.TabIs Tryd.prog w "math/bits.deBruijn64tab" .u8 brnT) : w.cell? ⟨5, 15, none⟩ = some (.int .u8 4) := h.cell (by kernel_rfl) 15 (by decide)
instance (priority := high) tabsB : Tabs Tryd.prog := ⟨fun w => w.ShapedOpen Tryd.prog ∧ Lib.TabIs Tryd.prog w "internal/strconv.uint64pow10" .u64 Lib.pow10Tab ∧ Lib.TabIs Tryd.prog w "math/bits.deBruijn64tab" .u8 brnT, fun _ _ h hk _ => ⟨shaped_keep h.1 hk, tabIs_keep h.2.1 hk, tabIs_keep h.2.2 hk⟩⟩
instance (priority := high) tabsB_shp : Shp Tryd.prog := ⟨fun _ h => h.1⟩
instance (priority := high) tabsB_pow : Pow Tryd.prog := ⟨fun _ h => h.2.1⟩
instance (priority := high) tabsB_brn : Brn Tryd.prog := ⟨fun _ h => brn_of h.2.2⟩
end Go.Proofs.YtecphoceobgncaaDoor
