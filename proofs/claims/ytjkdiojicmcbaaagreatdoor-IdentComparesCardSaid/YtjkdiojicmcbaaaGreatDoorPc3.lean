/- The texts that the proofs of these statements reach, in their order, as few files. -/
import Derived.Test.YtjkdiojicmcbaaaGreatDoorProg
import Derived.Lib.ItoaMem
import Derived.Lib.ItoaLen
import Derived.Lib.Walk
import Derived.Lib.ItoaWalk
import Derived.Lib.AppendIntMem
import Derived.Lib.LaidTab
import Derived.BigCall
import Derived.BigGuard
import Derived.Deep.RegionLaw
import Derived.Test.YtjkdiojicmcbaaaGreatDoorPc2
set_option linter.unusedVariables false
set_option linter.unusedSimpArgs false
namespace Go.Proofs.YtjkdiojicmcbaaaGreatDoor.Sx
open Go.RowKit
set_option maxRecDepth 100000
def c_law12_IdentParses : SCode :=
 .seq (.reg [⟨some 2, .mv (.c (.b false)), none⟩])
 (.seq (.seq (.reg [⟨some 7, .call 24 [], none⟩,
 ⟨some 8, .not (.t 7), none⟩])
 (.cond (.t 8)
 (.seq (.reg [⟨some 2, .mv (.c (.b false)), none⟩])
 (.ret))
 (.skip)))
 (.seq (.seq (.reg [⟨some 9, .mv (.t 0), none⟩,
 ⟨some 10, .lens (.t 9), none⟩,
 ⟨some 11, .bin .gtr (.t 10) (.c (.i .i64 2000)), none⟩,
 ⟨some 12, .mv (.t 11), none⟩,
 ⟨some 13, .mv (.t 0), some (12, true)⟩,
 ⟨some 14, .lens (.t 13), some (12, true)⟩,
 ⟨some 15, .bin .leq (.t 14) (.c (.i .i64 4096)), some (12, true)⟩,
 ⟨some 16, .pick (.t 12) (.t 15) (.c (.b false)), none⟩])
 (.cond (.t 16)
 (.seq (.reg [⟨some 2, .mv (.c (.b true)), none⟩])
 (.ret))
 (.skip)))
 (.seq (.reg [⟨some 18, .mv (.t 0), none⟩,
 ⟨some 19, .call 25 [.t 18], none⟩,
 ⟨some 17, .mv (.t 19), none⟩,
 ⟨some 20, .ext (.t 17) 0, none⟩,
 ⟨some 21, .ext (.t 17) 1, none⟩,
 ⟨some 3, .alloc 48 [.i .i64 0, .s [], .s [], .i .i64 0], none⟩,
 ⟨none, .store 4 (.t 3) (.t 20), none⟩,
 ⟨some 4, .mv (.t 21), none⟩])
 (.seq (.reg [⟨some 23, .mv (.t 0), none⟩,
 ⟨some 24, .call 26 [.t 23], none⟩,
 ⟨some 22, .mv (.t 24), none⟩,
 ⟨some 25, .ext (.t 22) 0, none⟩,
 ⟨some 26, .ext (.t 22) 1, none⟩,
 ⟨some 5, .alloc 48 [.i .i64 0, .s [], .s [], .i .i64 0], none⟩,
 ⟨none, .store 4 (.t 5) (.t 25), none⟩,
 ⟨some 6, .mv (.t 26), none⟩])
 (.seq (.reg [⟨some 27, .loadn 4 (.t 3), none⟩,
 ⟨some 28, .loadn 4 (.t 5), none⟩,
 ⟨some 29, .eqs false (.str [(0, (none, .ti)), (1, (none, .ts)), (2, (none, .ts)), (3, (none, .ti))]) (.t 27) (.t 28), none⟩,
 ⟨some 30, .mv (.t 29), none⟩,
 ⟨some 31, .mv (.t 4), some (30, true)⟩,
 ⟨some 32, .mv (.t 6), some (30, true)⟩,
 ⟨some 33, .bin .eql (.t 31) (.t 32), some (30, true)⟩,
 ⟨some 34, .pick (.t 30) (.t 33) (.c (.b false)), none⟩,
 ⟨some 2, .mv (.t 34), none⟩])
 (.ret))))))
theorem is_law12_IdentParses : FnIs Tryz.prog 7 35 [.tmp 2] c_law12_IdentParses := ⟨⟨_, _, Tryz.func7, rfl, rfl, by kernel_rfl, by kernel_rfl⟩⟩
def c_law12_IdentCompares : SCode :=
 .seq (.reg [⟨some 3, .box 48 (.t 0), none⟩,
 ⟨some 6, .mv (.c (.b false)), none⟩])
 (.seq (.seq (.reg [⟨some 9, .call 24 [], none⟩,
 ⟨some 10, .not (.t 9), none⟩])
 (.cond (.t 10)
 (.seq (.reg [⟨some 6, .mv (.c (.b false)), none⟩])
 (.ret))
 (.skip)))
 (.seq (.seq (.reg [⟨some 11, .fad 1 (.t 3), none⟩,
 ⟨some 12, .load1 (.t 11), none⟩,
 ⟨some 13, .lens (.t 12), none⟩,
 ⟨some 14, .bin .gtr (.t 13) (.c (.i .i64 1000)), none⟩,
 ⟨some 15, .mv (.t 14), none⟩,
 ⟨some 16, .mv (.t 1), some (15, false)⟩,
 ⟨some 17, .lens (.t 16), some (15, false)⟩,
 ⟨some 18, .bin .gtr (.t 17) (.c (.i .i64 1000)), some (15, false)⟩,
 ⟨some 19, .pick (.t 15) (.c (.b true)) (.t 18), none⟩,
 ⟨some 20, .mv (.t 19), none⟩,
 ⟨some 21, .mv (.t 2), some (20, false)⟩,
 ⟨some 22, .lens (.t 21), some (20, false)⟩,
 ⟨some 23, .bin .gtr (.t 22) (.c (.i .i64 1000)), some (20, false)⟩,
 ⟨some 24, .pick (.t 20) (.c (.b true)) (.t 23), none⟩])
 (.cond (.t 24)
 (.seq (.reg [⟨some 6, .mv (.c (.b true)), none⟩])
 (.ret))
 (.skip)))
 (.seq (.reg [⟨some 26, .mv (.t 1), none⟩,
 ⟨some 27, .call 26 [.t 26], none⟩,
 ⟨some 25, .mv (.t 27), none⟩,
 ⟨some 28, .ext (.t 25) 0, none⟩,
 ⟨some 29, .ext (.t 25) 1, none⟩,
 ⟨some 7, .alloc 48 [.i .i64 0, .s [], .s [], .i .i64 0], none⟩,
 ⟨none, .store 4 (.t 7) (.t 28), none⟩,
 ⟨some 8, .mv (.t 29), none⟩])
 (.seq (.drw [⟨some 30, .loadn 4 (.t 3), none⟩,
 ⟨some 31, .call 27 [.t 30], none⟩,
 ⟨some 32, .loadn 4 (.t 3), none⟩,
 ⟨some 33, .call 28 [.t 32], none⟩,
 ⟨some 34, .beq false (.t 31) (.t 33), none⟩,
 ⟨some 35, .mv (.t 34), none⟩,
 ⟨some 36, .loadn 4 (.t 7), some (35, true)⟩,
 ⟨some 37, .call 27 [.t 36], some (35, true)⟩,
 ⟨some 38, .loadn 4 (.t 7), some (35, true)⟩,
 ⟨some 39, .call 28 [.t 38], some (35, true)⟩,
 ⟨some 40, .beq false (.t 37) (.t 39), some (35, true)⟩,
 ⟨some 41, .pick (.t 35) (.t 40) (.c (.b false)), none⟩,
 ⟨some 42, .mv (.t 41), none⟩,
 ⟨some 43, .loadn 4 (.t 3), some (42, true)⟩,
 ⟨some 44, .call 29 [.t 43], some (42, true)⟩,
 ⟨some 45, .loadn 4 (.t 3), some (42, true)⟩,
 ⟨some 46, .call 30 [.t 45], some (42, true)⟩,
 ⟨some 47, .eqs false (.str [(0, (none, .ts)), (1, (none, .ti))]) (.t 44) (.t 46), some (42, true)⟩,
 ⟨some 48, .pick (.t 42) (.t 47) (.c (.b false)), none⟩,
 ⟨some 49, .mv (.t 48), none⟩,
 ⟨some 50, .mv (.t 1), some (49, true)⟩,
 ⟨some 51, .mv (.t 2), some (49, true)⟩,
 ⟨some 52, .call 31 [.t 50, .t 51], some (49, true)⟩,
 ⟨some 53, .mv (.t 1), some (49, true)⟩,
 ⟨some 54, .mv (.t 2), some (49, true)⟩,
 ⟨some 55, .call 32 [.t 53, .t 54], some (49, true)⟩,
 ⟨some 56, .beq false (.t 52) (.t 55), some (49, true)⟩,
 ⟨some 57, .pick (.t 49) (.t 56) (.c (.b false)), none⟩,
 ⟨some 6, .mv (.t 57), none⟩] 29 [])
 (.ret)))))
theorem is_law12_IdentCompares : FnIs Tryz.prog 8 58 [.tmp 6] c_law12_IdentCompares := ⟨⟨_, _, Tryz.func8, rfl, rfl, by kernel_rfl, by kernel_rfl⟩⟩
def c_ref10_ParseDID : SCode :=
 .seq (.reg [⟨some 2, .alloc 23 [.s [], .s []], none⟩,
 ⟨some 3, .mv (.c (.i .i64 0)), none⟩])
 (.seq (.blk 0
 (.seq (.reg [⟨some 17, .mv (.t 0), none⟩,
 ⟨some 18, .lens (.t 17), none⟩,
 ⟨some 19, .bin .gtr (.t 18) (.c (.i .i64 4096)), none⟩,
 ⟨some 16, .mv (.t 19), none⟩])
 (.cond (.t 16)
 (.seq (.reg [⟨some 20, .build [.s [], .s []] [], none⟩,
 ⟨none, .store 2 (.t 2) (.t 20), none⟩,
 ⟨some 3, .mv (.c (.i .i64 5)), none⟩])
 (.ret))
 (.seq (.reg [⟨some 22, .mv (.t 0), none⟩,
 ⟨some 23, .call 35 [.t 22, .c (.s [100, 105, 100, 58])], none⟩,
 ⟨some 24, .not (.t 23), none⟩,
 ⟨some 21, .mv (.t 24), none⟩])
 (.cond (.t 21)
 (.seq (.reg [⟨some 25, .build [.s [], .s []] [], none⟩,
 ⟨none, .store 2 (.t 2) (.t 25), none⟩,
 ⟨some 3, .mv (.c (.i .i64 60)), none⟩])
 (.ret))
 (.skip))))))
 (.seq (.reg [⟨some 26, .mv (.t 0), none⟩,
 ⟨some 27, .slcs (.t 26) (some (.c (.i .i64 4))) none, none⟩,
 ⟨some 0, .mv (.t 27), none⟩])
 (.seq (.reg [⟨some 28, .mv (.t 0), none⟩,
 ⟨some 29, .call 36 [.t 28, .c (.s [58])], none⟩,
 ⟨some 4, .mv (.t 29), none⟩])
 (.seq (.seq (.reg [⟨some 30, .mv (.t 4), none⟩,
 ⟨some 31, .mv (.t 0), none⟩,
 ⟨some 32, .lens (.t 31), none⟩,
 ⟨some 33, .bin .eql (.t 30) (.t 32), none⟩])
 (.cond (.t 33)
 (.seq (.reg [⟨some 34, .build [.s [], .s []] [], none⟩,
 ⟨none, .store 2 (.t 2) (.t 34), none⟩,
 ⟨some 3, .mv (.c (.i .i64 6)), none⟩])
 (.ret))
 (.skip)))
 (.seq (.seq (.reg [⟨some 35, .mv (.t 0), none⟩,
 ⟨some 36, .mv (.t 4), none⟩,
 ⟨some 37, .slcs (.t 35) none (some (.t 36)), none⟩,
 ⟨some 38, .call 37 [.t 37], none⟩,
 ⟨some 39, .not (.t 38), none⟩])
 (.cond (.t 39)
 (.seq (.reg [⟨some 40, .build [.s [], .s []] [], none⟩,
 ⟨none, .store 2 (.t 2) (.t 40), none⟩,
 ⟨some 3, .mv (.c (.i .i64 100)), none⟩])
 (.ret))
 (.skip)))
 (.seq (.reg [⟨some 41, .mv (.t 0), none⟩,
 ⟨some 42, .mv (.t 4), none⟩,
 ⟨some 43, .bin .add (.t 42) (.c (.i .i64 1)), none⟩,
 ⟨some 44, .slcs (.t 41) (some (.t 43)) none, none⟩,
 ⟨some 45, .call 38 [.t 44, .c (.i .u8 58)], none⟩,
 ⟨some 5, .mv (.t 45), none⟩])
 (.seq (.seq (.reg [⟨some 46, .mv (.t 5), none⟩,
 ⟨some 47, .lenr (.t 46), none⟩,
 ⟨some 48, .mv (.c (.i .i64 0)), none⟩])
 (.blk 1
 (.loop
 (.seq (.reg [⟨some 49, .bin .lss (.t 48) (.t 47), none⟩])
 (.seq (.cond (.t 49)
 (.skip)
 (.exit 1))
 (.seq (.blk 2
 (.seq (.reg [⟨some 50, .iad 1 (.t 46) (.t 48), none⟩,
 ⟨some 51, .load1 (.t 50), none⟩,
 ⟨some 7, .mv (.t 51), none⟩])
 (.seq (.reg [⟨some 53, .mv (.t 7), none⟩,
 ⟨some 54, .call 39 [.t 53], none⟩,
 ⟨some 52, .mv (.t 54), none⟩,
 ⟨some 55, .ext (.t 52) 0, none⟩,
 ⟨some 56, .ext (.t 52) 1, none⟩,
 ⟨some 8, .mv (.t 55), none⟩,
 ⟨some 9, .mv (.t 56), none⟩])
 (.seq (.reg [⟨some 57, .mv (.t 9), none⟩,
 ⟨some 58, .bin .neq (.t 57) (.c (.i .i64 0)), none⟩])
 (.cond (.t 58)
 (.seq (.reg [⟨some 59, .build [.s [], .s []] [], none⟩,
 ⟨none, .store 2 (.t 2) (.t 59), none⟩,
 ⟨some 3, .mv (.c (.i .i64 2)), none⟩])
 (.ret))
 (.skip))))))
 (.reg [⟨some 60, .bin .add (.t 48) (.c (.i .i64 1)), none⟩,
 ⟨some 48, .mv (.t 60), none⟩])))))))
 (.seq (.reg [⟨some 10, .mv (.c (.s [])), none⟩])
 (.seq (.seq (.reg [⟨some 61, .mv (.t 5), none⟩,
 ⟨some 62, .lenr (.t 61), none⟩,
 ⟨some 63, .mv (.c (.i .i64 0)), none⟩])
 (.blk 3
 (.loop
 (.seq (.reg [⟨some 64, .bin .lss (.t 63) (.t 62), none⟩])
 (.seq (.cond (.t 64)
 (.skip)
 (.exit 3))
 (.seq (.blk 4
 (.seq (.reg [⟨some 65, .mv (.t 63), none⟩,
 ⟨some 66, .iad 1 (.t 61) (.t 63), none⟩,
 ⟨some 67, .load1 (.t 66), none⟩,
 ⟨some 11, .mv (.t 65), none⟩,
 ⟨some 12, .mv (.t 67), none⟩])
 (.seq (.seq (.reg [⟨some 13, .mv (.c (.i .i64 0)), none⟩])
 (.blk 5
 (.loop
 (.seq (.seq (.reg [⟨some 68, .mv (.t 13), none⟩,
 ⟨some 69, .mv (.t 12), none⟩,
 ⟨some 70, .lens (.t 69), none⟩,
 ⟨some 71, .bin .lss (.t 68) (.t 70), none⟩])
 (.cond (.t 71)
 (.skip)
 (.exit 5)))
 (.seq (.blk 6
 (.seq (.reg [⟨some 74, .mv (.t 12), none⟩,
 ⟨some 75, .mv (.t 13), none⟩,
 ⟨some 76, .idx (.t 74) (.t 75), none⟩,
 ⟨some 77, .call 40 [.t 76], none⟩,
 ⟨some 78, .not (.t 77), none⟩,
 ⟨some 79, .mv (.t 78), none⟩,
 ⟨some 80, .mv (.t 12), some (79, true)⟩,
 ⟨some 81, .mv (.t 13), some (79, true)⟩,
 ⟨some 82, .idx (.t 80) (.t 81), some (79, true)⟩,
 ⟨some 83, .bin .neq (.t 82) (.c (.i .u8 37)), some (79, true)⟩,
 ⟨some 84, .pick (.t 79) (.t 83) (.c (.b false)), none⟩])
 (.cond (.t 84)
 (.seq (.reg [⟨some 85, .build [.s [], .s []] [], none⟩,
 ⟨none, .store 2 (.t 2) (.t 85), none⟩,
 ⟨some 3, .mv (.c (.i .i64 1)), none⟩])
 (.ret))
 (.skip))))
 (.reg [⟨some 72, .mv (.t 13), none⟩,
 ⟨some 73, .bin .add (.t 72) (.c (.i .i64 1)), none⟩,
 ⟨some 13, .mv (.t 73), none⟩]))))))
 (.seq (.reg [⟨some 87, .mv (.t 12), none⟩,
 ⟨some 88, .call 39 [.t 87], none⟩,
 ⟨some 86, .mv (.t 88), none⟩,
 ⟨some 89, .ext (.t 86) 0, none⟩,
 ⟨some 90, .ext (.t 86) 1, none⟩,
 ⟨some 14, .mv (.t 89), none⟩,
 ⟨some 15, .mv (.t 90), none⟩])
 (.seq (.seq (.reg [⟨some 91, .mv (.t 11), none⟩,
 ⟨some 92, .bin .gtr (.t 91) (.c (.i .i64 0)), none⟩])
 (.cond (.t 92)
 (.reg [⟨some 93, .mv (.t 10), none⟩,
 ⟨some 94, .bin .add (.t 93) (.c (.s [58])), none⟩,
 ⟨some 10, .mv (.t 94), none⟩])
 (.skip)))
 (.reg [⟨some 95, .mv (.t 10), none⟩,
 ⟨some 96, .mv (.t 14), none⟩,
 ⟨some 97, .call 41 [.t 96], none⟩,
 ⟨some 98, .bin .add (.t 95) (.t 97), none⟩,
 ⟨some 10, .mv (.t 98), none⟩]))))))
 (.reg [⟨some 99, .bin .add (.t 63) (.c (.i .i64 1)), none⟩,
 ⟨some 63, .mv (.t 99), none⟩])))))))
 (.seq (.seq (.reg [⟨some 100, .mv (.t 5), none⟩,
 ⟨some 101, .mv (.t 5), none⟩,
 ⟨some 102, .lenr (.t 101), none⟩,
 ⟨some 103, .bin .sub (.t 102) (.c (.i .i64 1)), none⟩,
 ⟨some 104, .iad 1 (.t 100) (.t 103), none⟩,
 ⟨some 105, .load1 (.t 104), none⟩,
 ⟨some 106, .bin .eql (.t 105) (.c (.s [])), none⟩])
 (.cond (.t 106)
 (.seq (.reg [⟨some 107, .build [.s [], .s []] [], none⟩,
 ⟨none, .store 2 (.t 2) (.t 107), none⟩,
 ⟨some 3, .mv (.c (.i .i64 3)), none⟩])
 (.ret))
 (.skip)))
 (.seq (.reg [⟨some 108, .mv (.t 0), none⟩,
 ⟨some 109, .mv (.t 4), none⟩,
 ⟨some 110, .slcs (.t 108) none (some (.t 109)), none⟩,
 ⟨some 111, .mv (.t 10), none⟩,
 ⟨some 112, .build [.s [], .s []] [(0, (1, .t 110)), (1, (1, .t 111))], none⟩,
 ⟨none, .store 2 (.t 2) (.t 112), none⟩,
 ⟨some 3, .mv (.c (.i .i64 0)), none⟩])
 (.ret))))))))))))
theorem is_ref10_ParseDID : FnIs Tryz.prog 13 113 [.celln 2 2, .tmp 3] c_ref10_ParseDID := ⟨⟨_, _, Tryz.func13, rfl, rfl, by kernel_rfl, by kernel_rfl⟩⟩
def c_didweb_Authority : SCode :=
 .seq (.reg [⟨some 1, .box 23 (.t 0), none⟩,
 ⟨some 2, .alloc 31 [.s [], .i .i64 0], none⟩,
 ⟨some 3, .mv (.c (.i .i64 0)), none⟩])
 (.seq (.seq (.reg [⟨some 11, .fad 0 (.t 1), none⟩,
 ⟨some 12, .load1 (.t 11), none⟩,
 ⟨some 13, .bin .neq (.t 12) (.c (.s [119, 101, 98])), none⟩])
 (.cond (.t 13)
 (.seq (.reg [⟨some 14, .build [.s [], .i .i64 0] [], none⟩,
 ⟨none, .store 2 (.t 2) (.t 14), none⟩,
 ⟨some 3, .mv (.c (.i .i64 100)), none⟩])
 (.ret))
 (.skip)))
 (.seq (.seq (.reg [⟨some 16, .loadn 2 (.t 1), none⟩,
 ⟨some 17, .call 43 [.t 16], none⟩,
 ⟨some 18, .call 42 [.t 17], none⟩,
 ⟨some 15, .mv (.t 18), none⟩,
 ⟨some 19, .ext (.t 15) 0, none⟩,
 ⟨some 20, .ext (.t 15) 1, none⟩,
 ⟨some 4, .alloc 23 [.s [], .s []], none⟩,
 ⟨none, .store 2 (.t 4) (.t 19), none⟩,
 ⟨some 5, .mv (.t 20), none⟩])
 (.seq (.reg [⟨some 21, .mv (.t 5), none⟩,
 ⟨some 22, .bin .neq (.t 21) (.c (.i .i64 0)), none⟩])
 (.cond (.t 22)
 (.seq (.reg [⟨some 23, .build [.s [], .i .i64 0] [], none⟩,
 ⟨some 24, .mv (.t 5), none⟩,
 ⟨none, .store 2 (.t 2) (.t 23), none⟩,
 ⟨some 3, .mv (.t 24), none⟩])
 (.ret))
 (.skip))))
 (.seq (.reg [⟨some 26, .fad 1 (.t 1), none⟩,
 ⟨some 27, .load1 (.t 26), none⟩,
 ⟨some 28, .call 44 [.t 27, .c (.s [58])], none⟩,
 ⟨some 25, .mv (.t 28), none⟩,
 ⟨some 29, .ext (.t 25) 0, none⟩,
 ⟨some 30, .ext (.t 25) 1, none⟩,
 ⟨some 31, .ext (.t 25) 2, none⟩,
 ⟨some 6, .mv (.t 29), none⟩,
 ⟨some 7, .mv (.t 30), none⟩,
 ⟨some 8, .mv (.t 31), none⟩])
 (.seq (.reg [⟨some 33, .mv (.t 6), none⟩,
 ⟨some 34, .call 45 [.t 33], none⟩,
 ⟨some 32, .mv (.t 34), none⟩,
 ⟨some 35, .ext (.t 32) 0, none⟩,
 ⟨some 36, .ext (.t 32) 1, none⟩,
 ⟨some 9, .mv (.t 35), none⟩,
 ⟨some 10, .mv (.t 36), none⟩])
 (.seq (.seq (.reg [⟨some 37, .mv (.t 10), none⟩,
 ⟨some 38, .bin .neq (.t 37) (.c (.i .i64 0)), none⟩])
 (.cond (.t 38)
 (.seq (.reg [⟨some 39, .build [.s [], .i .i64 0] [], none⟩,
 ⟨some 40, .mv (.t 10), none⟩,
 ⟨none, .store 2 (.t 2) (.t 39), none⟩,
 ⟨some 3, .mv (.t 40), none⟩])
 (.ret))
 (.skip)))
 (.seq (.reg [⟨some 41, .mv (.t 9), none⟩,
 ⟨some 42, .call 46 [.t 41], none⟩,
 ⟨some 43, .ext (.t 42) 0, none⟩,
 ⟨some 44, .ext (.t 42) 1, none⟩,
 ⟨none, .store 2 (.t 2) (.t 43), none⟩,
 ⟨some 3, .mv (.t 44), none⟩])
 (.ret)))))))
theorem is_didweb_Authority : FnIs Tryz.prog 14 45 [.celln 2 2, .tmp 3] c_didweb_Authority := ⟨⟨_, _, Tryz.func14, rfl, rfl, by kernel_rfl, by kernel_rfl⟩⟩
def c_ref11_Authority : SCode :=
 .seq (.reg [⟨some 1, .box 23 (.t 0), none⟩,
 ⟨some 2, .alloc 31 [.s [], .i .i64 0], none⟩,
 ⟨some 3, .mv (.c (.i .i64 0)), none⟩])
 (.seq (.reg [⟨some 8, .loadn 2 (.t 1), none⟩,
 ⟨some 9, .call 47 [.t 8], none⟩,
 ⟨some 7, .mv (.t 9), none⟩,
 ⟨some 10, .ext (.t 7) 0, none⟩,
 ⟨some 11, .ext (.t 7) 1, none⟩,
 ⟨some 12, .ext (.t 7) 2, none⟩,
 ⟨some 5, .alloc 31 [.s [], .i .i64 0], none⟩,
 ⟨some 4, .mv (.t 10), none⟩,
 ⟨none, .store 2 (.t 5) (.t 11), none⟩,
 ⟨some 6, .mv (.t 12), none⟩])
 (.seq (.reg [⟨some 13, .loadn 2 (.t 5), none⟩,
 ⟨some 14, .mv (.t 6), none⟩,
 ⟨none, .store 2 (.t 2) (.t 13), none⟩,
 ⟨some 3, .mv (.t 14), none⟩])
 (.ret)))
theorem is_ref11_Authority : FnIs Tryz.prog 15 15 [.celln 2 2, .tmp 3] c_ref11_Authority := ⟨⟨_, _, Tryz.func15, rfl, rfl, by kernel_rfl, by kernel_rfl⟩⟩
def c_didweb_ToURL : SCode :=
 .seq (.reg [⟨some 1, .box 23 (.t 0), none⟩,
 ⟨some 2, .alloc 35 [.s [], .i .i64 0, .s [], .s [], .s [], .b false, .b false], none⟩,
 ⟨some 3, .mv (.c (.i .i64 0)), none⟩])
 (.seq (.reg [⟨some 11, .loadn 2 (.t 1), none⟩,
 ⟨some 12, .call 14 [.t 11], none⟩,
 ⟨some 10, .mv (.t 12), none⟩,
 ⟨some 13, .ext (.t 10) 0, none⟩,
 ⟨some 14, .ext (.t 10) 1, none⟩,
 ⟨some 4, .alloc 31 [.s [], .i .i64 0], none⟩,
 ⟨none, .store 2 (.t 4) (.t 13), none⟩,
 ⟨some 5, .mv (.t 14), none⟩])
 (.seq (.seq (.reg [⟨some 15, .mv (.t 5), none⟩,
 ⟨some 16, .bin .neq (.t 15) (.c (.i .i64 0)), none⟩])
 (.cond (.t 16)
 (.seq (.reg [⟨some 17, .build [.s [], .i .i64 0, .s [], .s [], .s [], .b false, .b false] [], none⟩,
 ⟨some 18, .mv (.t 5), none⟩,
 ⟨none, .store 7 (.t 2) (.t 17), none⟩,
 ⟨some 3, .mv (.t 18), none⟩])
 (.ret))
 (.skip)))
 (.seq (.reg [⟨some 19, .fad 0 (.t 4), none⟩,
 ⟨some 20, .load1 (.t 19), none⟩,
 ⟨some 21, .fad 1 (.t 4), none⟩,
 ⟨some 22, .load1 (.t 21), none⟩,
 ⟨some 23, .build [.s [], .i .i64 0, .s [], .s [], .s [], .b false, .b false] [(0, (1, .t 20)), (1, (1, .t 22)), (2, (1, .c (.s [47, 46, 119, 101, 108, 108, 45, 107, 110, 111, 119, 110, 47, 100, 105, 100, 46, 106, 115, 111, 110])))], none⟩,
 ⟨some 6, .alloc 35 [.s [], .i .i64 0, .s [], .s [], .s [], .b false, .b false], none⟩,
 ⟨none, .store 7 (.t 6) (.t 23), none⟩])
 (.seq (.seq (.reg [⟨some 24, .fad 1 (.t 1), none⟩,
 ⟨some 25, .load1 (.t 24), none⟩,
 ⟨some 26, .call 48 [.t 25, .c (.s [58])], none⟩,
 ⟨some 27, .pu (.rsl 1) [.t 26, .c (.i .i64 1)], none⟩,
 ⟨some 7, .mv (.t 27), none⟩])
 (.seq (.reg [⟨some 28, .mv (.t 7), none⟩,
 ⟨some 29, .lenr (.t 28), none⟩,
 ⟨some 30, .bin .gtr (.t 29) (.c (.i .i64 0)), none⟩])
 (.cond (.t 30)
 (.seq (.reg [⟨some 8, .alloc 76 [.o (.pointer none), .nil], none⟩])
 (.seq (.seq (.reg [⟨some 31, .mv (.t 7), none⟩,
 ⟨some 32, .mkf 50 [.t 8] [], none⟩,
 ⟨some 33, .call 49 [.t 31, .t 32], none⟩,
 ⟨some 9, .mv (.t 33), none⟩])
 (.seq (.reg [⟨some 34, .mv (.t 9), none⟩,
 ⟨some 35, .bin .neq (.t 34) (.c (.i .i64 0)), none⟩])
 (.cond (.t 35)
 (.seq (.reg [⟨some 36, .build [.s [], .i .i64 0, .s [], .s [], .s [], .b false, .b false] [], none⟩,
 ⟨some 37, .mv (.t 9), none⟩,
 ⟨none, .store 7 (.t 2) (.t 36), none⟩,
 ⟨some 3, .mv (.t 37), none⟩])
 (.ret))
 (.skip))))
 (.reg [⟨some 38, .fad 0 (.t 8), none⟩,
 ⟨some 39, .call 51 [.t 38], none⟩,
 ⟨some 40, .bin .add (.t 39) (.c (.s [47])), none⟩,
 ⟨some 41, .bin .add (.t 40) (.c (.s [100, 105, 100, 46, 106, 115, 111, 110])), none⟩,
 ⟨some 42, .fad 2 (.t 6), none⟩,
 ⟨none, .store 1 (.t 42) (.t 41), none⟩])))
 (.skip))))
 (.seq (.seq (.reg [⟨some 43, .loadn 7 (.t 6), none⟩,
 ⟨some 44, .call 52 [.t 43], none⟩,
 ⟨some 45, .lens (.t 44), none⟩,
 ⟨some 46, .bin .gtr (.t 45) (.c (.i .i64 4096)), none⟩])
 (.cond (.t 46)
 (.seq (.reg [⟨some 47, .build [.s [], .i .i64 0, .s [], .s [], .s [], .b false, .b false] [], none⟩,
 ⟨none, .store 7 (.t 2) (.t 47), none⟩,
 ⟨some 3, .mv (.c (.i .i64 5)), none⟩])
 (.ret))
 (.skip)))
 (.seq (.reg [⟨some 48, .loadn 7 (.t 6), none⟩,
 ⟨none, .store 7 (.t 2) (.t 48), none⟩,
 ⟨some 3, .mv (.c (.i .i64 0)), none⟩])
 (.ret)))))))
theorem is_didweb_ToURL : FnIs Tryz.prog 16 49 [.celln 2 7, .tmp 3] c_didweb_ToURL := ⟨⟨_, _, Tryz.func16, rfl, rfl, by kernel_rfl, by kernel_rfl⟩⟩
def c_ref11_ToURL : SCode :=
 .seq (.reg [⟨some 1, .box 23 (.t 0), none⟩,
 ⟨some 2, .alloc 35 [.s [], .i .i64 0, .s [], .s [], .s [], .b false, .b false], none⟩,
 ⟨some 3, .mv (.c (.i .i64 0)), none⟩])
 (.seq (.reg [⟨some 14, .loadn 2 (.t 1), none⟩,
 ⟨some 15, .call 47 [.t 14], none⟩,
 ⟨some 13, .mv (.t 15), none⟩,
 ⟨some 16, .ext (.t 13) 0, none⟩,
 ⟨some 17, .ext (.t 13) 1, none⟩,
 ⟨some 18, .ext (.t 13) 2, none⟩,
 ⟨some 5, .alloc 31 [.s [], .i .i64 0], none⟩,
 ⟨some 4, .mv (.t 16), none⟩,
 ⟨none, .store 2 (.t 5) (.t 17), none⟩,
 ⟨some 6, .mv (.t 18), none⟩])
 (.seq (.seq (.reg [⟨some 19, .mv (.t 6), none⟩,
 ⟨some 20, .bin .neq (.t 19) (.c (.i .i64 0)), none⟩])
 (.cond (.t 20)
 (.seq (.reg [⟨some 21, .build [.s [], .i .i64 0, .s [], .s [], .s [], .b false, .b false] [], none⟩,
 ⟨some 22, .mv (.t 6), none⟩,
 ⟨none, .store 7 (.t 2) (.t 21), none⟩,
 ⟨some 3, .mv (.t 22), none⟩])
 (.ret))
 (.skip)))
 (.seq (.reg [⟨some 7, .mv (.c (.s [])), none⟩])
 (.seq (.seq (.reg [⟨some 23, .mv (.t 4), none⟩,
 ⟨some 24, .pu (.rsl 1) [.t 23, .c (.i .i64 1)], none⟩,
 ⟨some 25, .lenr (.t 24), none⟩,
 ⟨some 26, .mv (.c (.i .i64 0)), none⟩])
 (.blk 0
 (.loop
 (.seq (.reg [⟨some 27, .bin .lss (.t 26) (.t 25), none⟩])
 (.seq (.cond (.t 27)
 (.skip)
 (.exit 0))
 (.seq (.blk 1
 (.seq (.reg [⟨some 28, .iad 1 (.t 24) (.t 26), none⟩,
 ⟨some 29, .load1 (.t 28), none⟩,
 ⟨some 9, .mv (.t 29), none⟩])
 (.seq (.reg [⟨some 31, .mv (.t 9), none⟩,
 ⟨some 32, .call 39 [.t 31], none⟩,
 ⟨some 30, .mv (.t 32), none⟩,
 ⟨some 33, .ext (.t 30) 0, none⟩,
 ⟨some 34, .ext (.t 30) 1, none⟩,
 ⟨some 10, .mv (.t 33), none⟩,
 ⟨some 11, .mv (.t 34), none⟩])
 (.seq (.seq (.reg [⟨some 35, .mv (.t 10), none⟩,
 ⟨some 36, .bin .eql (.t 35) (.c (.s [])), none⟩,
 ⟨some 37, .mv (.t 36), none⟩,
 ⟨some 38, .mv (.t 10), some (37, false)⟩,
 ⟨some 39, .bin .eql (.t 38) (.c (.s [46])), some (37, false)⟩,
 ⟨some 40, .pick (.t 37) (.c (.b true)) (.t 39), none⟩,
 ⟨some 41, .mv (.t 40), none⟩,
 ⟨some 42, .mv (.t 10), some (41, false)⟩,
 ⟨some 43, .bin .eql (.t 42) (.c (.s [46, 46])), some (41, false)⟩,
 ⟨some 44, .pick (.t 41) (.c (.b true)) (.t 43), none⟩])
 (.cond (.t 44)
 (.seq (.reg [⟨some 45, .build [.s [], .i .i64 0, .s [], .s [], .s [], .b false, .b false] [], none⟩,
 ⟨none, .store 7 (.t 2) (.t 45), none⟩,
 ⟨some 3, .mv (.c (.i .i64 110)), none⟩])
 (.ret))
 (.skip)))
 (.reg [⟨some 46, .mv (.t 7), none⟩,
 ⟨some 47, .mv (.t 10), none⟩,
 ⟨some 48, .call 53 [.t 47, .c (.s [])], none⟩,
 ⟨some 49, .bin .add (.c (.s [47])) (.t 48), none⟩,
 ⟨some 50, .bin .add (.t 46) (.t 49), none⟩,
 ⟨some 7, .mv (.t 50), none⟩])))))
 (.reg [⟨some 51, .bin .add (.t 26) (.c (.i .i64 1)), none⟩,
 ⟨some 26, .mv (.t 51), none⟩])))))))
 (.seq (.seq (.reg [⟨some 52, .mv (.t 4), none⟩,
 ⟨some 53, .lenr (.t 52), none⟩,
 ⟨some 54, .bin .eql (.t 53) (.c (.i .i64 1)), none⟩])
 (.cond (.t 54)
 (.reg [⟨some 7, .mv (.c (.s [47, 46, 119, 101, 108, 108, 45, 107, 110, 111, 119, 110])), none⟩])
 (.skip)))
 (.seq (.reg [⟨some 55, .fad 0 (.t 5), none⟩,
 ⟨some 56, .load1 (.t 55), none⟩,
 ⟨some 57, .fad 1 (.t 5), none⟩,
 ⟨some 58, .load1 (.t 57), none⟩,
 ⟨some 59, .mv (.t 7), none⟩,
 ⟨some 60, .bin .add (.t 59) (.c (.s [47, 100, 105, 100, 46, 106, 115, 111, 110])), none⟩,
 ⟨some 61, .build [.s [], .i .i64 0, .s [], .s [], .s [], .b false, .b false] [(0, (1, .t 56)), (1, (1, .t 58)), (2, (1, .t 60))], none⟩,
 ⟨some 12, .alloc 35 [.s [], .i .i64 0, .s [], .s [], .s [], .b false, .b false], none⟩,
 ⟨none, .store 7 (.t 12) (.t 61), none⟩])
 (.seq (.seq (.reg [⟨some 62, .loadn 7 (.t 12), none⟩,
 ⟨some 63, .call 34 [.t 62], none⟩,
 ⟨some 64, .lens (.t 63), none⟩,
 ⟨some 65, .bin .gtr (.t 64) (.c (.i .i64 4096)), none⟩])
 (.cond (.t 65)
 (.seq (.reg [⟨some 66, .build [.s [], .i .i64 0, .s [], .s [], .s [], .b false, .b false] [], none⟩,
 ⟨none, .store 7 (.t 2) (.t 66), none⟩,
 ⟨some 3, .mv (.c (.i .i64 5)), none⟩])
 (.ret))
 (.skip)))
 (.seq (.reg [⟨some 67, .loadn 7 (.t 12), none⟩,
 ⟨none, .store 7 (.t 2) (.t 67), none⟩,
 ⟨some 3, .mv (.c (.i .i64 0)), none⟩])
 (.ret)))))))))
theorem is_ref11_ToURL : FnIs Tryz.prog 17 68 [.celln 2 7, .tmp 3] c_ref11_ToURL := ⟨⟨_, _, Tryz.func17, rfl, rfl, by kernel_rfl, by kernel_rfl⟩⟩
def c_didweb_Canonical : SCode :=
 .seq (.reg [⟨some 1, .box 23 (.t 0), none⟩,
 ⟨some 2, .alloc 23 [.s [], .s []], none⟩,
 ⟨some 3, .mv (.c (.i .i64 0)), none⟩])
 (.seq (.reg [⟨some 7, .loadn 2 (.t 1), none⟩,
 ⟨some 8, .call 16 [.t 7], none⟩,
 ⟨some 6, .mv (.t 8), none⟩,
 ⟨some 9, .ext (.t 6) 0, none⟩,
 ⟨some 10, .ext (.t 6) 1, none⟩,
 ⟨some 4, .alloc 35 [.s [], .i .i64 0, .s [], .s [], .s [], .b false, .b false], none⟩,
 ⟨none, .store 7 (.t 4) (.t 9), none⟩,
 ⟨some 5, .mv (.t 10), none⟩])
 (.seq (.seq (.reg [⟨some 11, .mv (.t 5), none⟩,
 ⟨some 12, .bin .neq (.t 11) (.c (.i .i64 0)), none⟩])
 (.cond (.t 12)
 (.seq (.reg [⟨some 13, .build [.s [], .s []] [], none⟩,
 ⟨some 14, .mv (.t 5), none⟩,
 ⟨none, .store 2 (.t 2) (.t 13), none⟩,
 ⟨some 3, .mv (.t 14), none⟩])
 (.ret))
 (.skip)))
 (.seq (.reg [⟨some 15, .loadn 7 (.t 4), none⟩,
 ⟨some 16, .call 21 [.t 15], none⟩,
 ⟨some 17, .ext (.t 16) 0, none⟩,
 ⟨some 18, .ext (.t 16) 1, none⟩,
 ⟨none, .store 2 (.t 2) (.t 17), none⟩,
 ⟨some 3, .mv (.t 18), none⟩])
 (.ret))))
theorem is_didweb_Canonical : FnIs Tryz.prog 18 19 [.celln 2 2, .tmp 3] c_didweb_Canonical := ⟨⟨_, _, Tryz.func18, rfl, rfl, by kernel_rfl, by kernel_rfl⟩⟩
def c_ref11_Canonical : SCode :=
 .seq (.reg [⟨some 1, .box 23 (.t 0), none⟩,
 ⟨some 2, .alloc 23 [.s [], .s []], none⟩,
 ⟨some 3, .mv (.c (.i .i64 0)), none⟩])
 (.seq (.reg [⟨some 7, .loadn 2 (.t 1), none⟩,
 ⟨some 8, .call 17 [.t 7], none⟩,
 ⟨some 6, .mv (.t 8), none⟩,
 ⟨some 9, .ext (.t 6) 0, none⟩,
 ⟨some 10, .ext (.t 6) 1, none⟩,
 ⟨some 4, .alloc 35 [.s [], .i .i64 0, .s [], .s [], .s [], .b false, .b false], none⟩,
 ⟨none, .store 7 (.t 4) (.t 9), none⟩,
 ⟨some 5, .mv (.t 10), none⟩])
 (.seq (.seq (.reg [⟨some 11, .mv (.t 5), none⟩,
 ⟨some 12, .bin .neq (.t 11) (.c (.i .i64 0)), none⟩])
 (.cond (.t 12)
 (.seq (.reg [⟨some 13, .build [.s [], .s []] [], none⟩,
 ⟨some 14, .mv (.t 5), none⟩,
 ⟨none, .store 2 (.t 2) (.t 13), none⟩,
 ⟨some 3, .mv (.t 14), none⟩])
 (.ret))
 (.skip)))
 (.seq (.reg [⟨some 15, .loadn 7 (.t 4), none⟩,
 ⟨some 16, .call 22 [.t 15], none⟩,
 ⟨some 17, .ext (.t 16) 0, none⟩,
 ⟨some 18, .ext (.t 16) 1, none⟩,
 ⟨none, .store 2 (.t 2) (.t 17), none⟩,
 ⟨some 3, .mv (.t 18), none⟩])
 (.ret))))
theorem is_ref11_Canonical : FnIs Tryz.prog 19 19 [.celln 2 2, .tmp 3] c_ref11_Canonical := ⟨⟨_, _, Tryz.func19, rfl, rfl, by kernel_rfl, by kernel_rfl⟩⟩
def c_ref07_Parse : SCode :=
 .seq (.reg [⟨some 2, .alloc 35 [.s [], .i .i64 0, .s [], .s [], .s [], .b false, .b false], none⟩,
 ⟨some 3, .mv (.c (.i .i64 0)), none⟩])
 (.seq (.seq (.reg [⟨some 11, .mv (.t 0), none⟩,
 ⟨some 12, .lens (.t 11), none⟩,
 ⟨some 13, .bin .gtr (.t 12) (.c (.i .i64 4096)), none⟩])
 (.cond (.t 13)
 (.seq (.reg [⟨some 14, .build [.s [], .i .i64 0, .s [], .s [], .s [], .b false, .b false] [], none⟩,
 ⟨none, .store 7 (.t 2) (.t 14), none⟩,
 ⟨some 3, .mv (.c (.i .i64 5)), none⟩])
 (.ret))
 (.skip)))
 (.seq (.reg [⟨some 16, .mv (.t 0), none⟩,
 ⟨some 17, .call 54 [.t 16], none⟩,
 ⟨some 15, .mv (.t 17), none⟩,
 ⟨some 18, .ext (.t 15) 0, none⟩,
 ⟨some 19, .ext (.t 15) 1, none⟩,
 ⟨some 4, .alloc 82 [.s [], .s [], .s [], .s [], .s [], .b false, .b false, .b false, .b false], none⟩,
 ⟨none, .store 9 (.t 4) (.t 18), none⟩,
 ⟨some 5, .mv (.t 19), none⟩])
 (.seq (.seq (.reg [⟨some 20, .mv (.t 5), none⟩,
 ⟨some 21, .bin .neq (.t 20) (.c (.i .i64 0)), none⟩])
 (.cond (.t 21)
 (.seq (.reg [⟨some 22, .build [.s [], .i .i64 0, .s [], .s [], .s [], .b false, .b false] [], none⟩,
 ⟨some 23, .mv (.t 5), none⟩,
 ⟨none, .store 7 (.t 2) (.t 22), none⟩,
 ⟨some 3, .mv (.t 23), none⟩])
 (.ret))
 (.skip)))
 (.seq (.blk 0
 (.seq (.reg [⟨some 25, .fad 5 (.t 4), none⟩,
 ⟨some 26, .load1 (.t 25), none⟩,
 ⟨some 27, .not (.t 26), none⟩,
 ⟨some 28, .mv (.t 27), none⟩,
 ⟨some 29, .fad 0 (.t 4), some (28, false)⟩,
 ⟨some 30, .load1 (.t 29), some (28, false)⟩,
 ⟨some 31, .call 55 [.t 30, .c (.s [104, 116, 116, 112, 115])], some (28, false)⟩,
 ⟨some 32, .not (.t 31), some (28, false)⟩,
 ⟨some 33, .pick (.t 28) (.c (.b true)) (.t 32), none⟩,
 ⟨some 24, .mv (.t 33), none⟩])
 (.cond (.t 24)
 (.seq (.reg [⟨some 34, .build [.s [], .i .i64 0, .s [], .s [], .s [], .b false, .b false] [], none⟩,
 ⟨none, .store 7 (.t 2) (.t 34), none⟩,
 ⟨some 3, .mv (.c (.i .i64 60)), none⟩])
 (.ret))
 (.seq (.reg [⟨some 36, .fad 6 (.t 4), none⟩,
 ⟨some 37, .load1 (.t 36), none⟩,
 ⟨some 38, .not (.t 37), none⟩,
 ⟨some 35, .mv (.t 38), none⟩])
 (.cond (.t 35)
 (.seq (.reg [⟨some 39, .build [.s [], .i .i64 0, .s [], .s [], .s [], .b false, .b false] [], none⟩,
 ⟨none, .store 7 (.t 2) (.t 39), none⟩,
 ⟨some 3, .mv (.c (.i .i64 71)), none⟩])
 (.ret))
 (.seq (.drw [⟨some 41, .fad 1 (.t 4), none⟩,
 ⟨some 42, .load1 (.t 41), none⟩,
 ⟨some 43, .call 36 [.t 42, .c (.s [64])], none⟩,
 ⟨some 44, .fad 1 (.t 4), none⟩,
 ⟨some 45, .load1 (.t 44), none⟩,
 ⟨some 46, .lens (.t 45), none⟩,
 ⟨some 47, .bin .lss (.t 43) (.t 46), none⟩,
 ⟨some 40, .mv (.t 47), none⟩] 8 [])
 (.cond (.t 40)
 (.seq (.reg [⟨some 48, .build [.s [], .i .i64 0, .s [], .s [], .s [], .b false, .b false] [], none⟩,
 ⟨none, .store 7 (.t 2) (.t 48), none⟩,
 ⟨some 3, .mv (.c (.i .i64 70)), none⟩])
 (.ret))
 (.skip))))))))
 (.seq (.reg [⟨some 50, .fad 1 (.t 4), none⟩,
 ⟨some 51, .load1 (.t 50), none⟩,
 ⟨some 52, .call 56 [.t 51], none⟩,
 ⟨some 49, .mv (.t 52), none⟩,
 ⟨some 53, .ext (.t 49) 0, none⟩,
 ⟨some 54, .ext (.t 49) 1, none⟩,
 ⟨some 6, .alloc 31 [.s [], .i .i64 0], none⟩,
 ⟨none, .store 2 (.t 6) (.t 53), none⟩,
 ⟨some 5, .mv (.t 54), none⟩])
 (.seq (.seq (.reg [⟨some 55, .mv (.t 5), none⟩,
 ⟨some 56, .bin .neq (.t 55) (.c (.i .i64 0)), none⟩])
 (.cond (.t 56)
 (.seq (.reg [⟨some 57, .build [.s [], .i .i64 0, .s [], .s [], .s [], .b false, .b false] [], none⟩,
 ⟨some 58, .mv (.t 5), none⟩,
 ⟨none, .store 7 (.t 2) (.t 57), none⟩,
 ⟨some 3, .mv (.t 58), none⟩])
 (.ret))
 (.skip)))
 (.seq (.reg [⟨some 60, .fad 2 (.t 4), none⟩,
 ⟨some 61, .load1 (.t 60), none⟩,
 ⟨some 62, .call 57 [.t 61, .c (.s [33, 36, 38, 39, 40, 41, 42, 43, 44, 59, 61, 58, 64, 47])], none⟩,
 ⟨some 59, .mv (.t 62), none⟩,
 ⟨some 63, .ext (.t 59) 0, none⟩,
 ⟨some 64, .ext (.t 59) 1, none⟩,
 ⟨some 7, .mv (.t 63), none⟩,
 ⟨some 5, .mv (.t 64), none⟩])
 (.seq (.seq (.reg [⟨some 65, .mv (.t 5), none⟩,
 ⟨some 66, .bin .neq (.t 65) (.c (.i .i64 0)), none⟩])
 (.cond (.t 66)
 (.seq (.reg [⟨some 67, .build [.s [], .i .i64 0, .s [], .s [], .s [], .b false, .b false] [], none⟩,
 ⟨some 68, .mv (.t 5), none⟩,
 ⟨none, .store 7 (.t 2) (.t 67), none⟩,
 ⟨some 3, .mv (.t 68), none⟩])
 (.ret))
 (.skip)))
 (.seq (.reg [⟨some 70, .fad 3 (.t 4), none⟩,
 ⟨some 71, .load1 (.t 70), none⟩,
 ⟨some 72, .call 57 [.t 71, .c (.s [33, 36, 38, 39, 40, 41, 42, 43, 44, 59, 61, 58, 64, 47, 63])], none⟩,
 ⟨some 69, .mv (.t 72), none⟩,
 ⟨some 73, .ext (.t 69) 0, none⟩,
 ⟨some 74, .ext (.t 69) 1, none⟩,
 ⟨some 8, .mv (.t 73), none⟩,
 ⟨some 5, .mv (.t 74), none⟩])
 (.seq (.seq (.reg [⟨some 75, .mv (.t 5), none⟩,
 ⟨some 76, .bin .neq (.t 75) (.c (.i .i64 0)), none⟩])
 (.cond (.t 76)
 (.seq (.reg [⟨some 77, .build [.s [], .i .i64 0, .s [], .s [], .s [], .b false, .b false] [], none⟩,
 ⟨some 78, .mv (.t 5), none⟩,
 ⟨none, .store 7 (.t 2) (.t 77), none⟩,
 ⟨some 3, .mv (.t 78), none⟩])
 (.ret))
 (.skip)))
 (.seq (.reg [⟨some 80, .fad 4 (.t 4), none⟩,
 ⟨some 81, .load1 (.t 80), none⟩,
 ⟨some 82, .call 57 [.t 81, .c (.s [33, 36, 38, 39, 40, 41, 42, 43, 44, 59, 61, 58, 64, 47, 63])], none⟩,
 ⟨some 79, .mv (.t 82), none⟩,
 ⟨some 83, .ext (.t 79) 0, none⟩,
 ⟨some 84, .ext (.t 79) 1, none⟩,
 ⟨some 9, .mv (.t 83), none⟩,
 ⟨some 5, .mv (.t 84), none⟩])
 (.seq (.seq (.reg [⟨some 85, .mv (.t 5), none⟩,
 ⟨some 86, .bin .neq (.t 85) (.c (.i .i64 0)), none⟩])
 (.cond (.t 86)
 (.seq (.reg [⟨some 87, .build [.s [], .i .i64 0, .s [], .s [], .s [], .b false, .b false] [], none⟩,
 ⟨some 88, .mv (.t 5), none⟩,
 ⟨none, .store 7 (.t 2) (.t 87), none⟩,
 ⟨some 3, .mv (.t 88), none⟩])
 (.ret))
 (.skip)))
 (.seq (.seq (.reg [⟨some 89, .mv (.t 7), none⟩,
 ⟨some 90, .call 58 [.t 89], none⟩,
 ⟨some 7, .mv (.t 90), none⟩])
 (.seq (.reg [⟨some 91, .mv (.t 7), none⟩,
 ⟨some 92, .bin .eql (.t 91) (.c (.s [])), none⟩])
 (.cond (.t 92)
 (.reg [⟨some 7, .mv (.c (.s [47])), none⟩])
 (.skip))))
 (.seq (.reg [⟨some 93, .fad 0 (.t 6), none⟩,
 ⟨some 94, .load1 (.t 93), none⟩,
 ⟨some 95, .fad 1 (.t 6), none⟩,
 ⟨some 96, .load1 (.t 95), none⟩,
 ⟨some 97, .mv (.t 7), none⟩,
 ⟨some 98, .mv (.t 8), none⟩,
 ⟨some 99, .mv (.t 9), none⟩,
 ⟨some 100, .fad 7 (.t 4), none⟩,
 ⟨some 101, .load1 (.t 100), none⟩,
 ⟨some 102, .fad 8 (.t 4), none⟩,
 ⟨some 103, .load1 (.t 102), none⟩,
 ⟨some 104, .build [.s [], .i .i64 0, .s [], .s [], .s [], .b false, .b false] [(0, (1, .t 94)), (1, (1, .t 96)), (2, (1, .t 97)), (3, (1, .t 98)), (4, (1, .t 99)), (5, (1, .t 101)), (6, (1, .t 103))], none⟩,
 ⟨some 10, .alloc 35 [.s [], .i .i64 0, .s [], .s [], .s [], .b false, .b false], none⟩,
 ⟨none, .store 7 (.t 10) (.t 104), none⟩])
 (.seq (.seq (.reg [⟨some 105, .loadn 7 (.t 10), none⟩,
 ⟨some 106, .call 34 [.t 105], none⟩,
 ⟨some 107, .lens (.t 106), none⟩,
 ⟨some 108, .bin .gtr (.t 107) (.c (.i .i64 4096)), none⟩])
 (.cond (.t 108)
 (.seq (.reg [⟨some 109, .build [.s [], .i .i64 0, .s [], .s [], .s [], .b false, .b false] [], none⟩,
 ⟨none, .store 7 (.t 2) (.t 109), none⟩,
 ⟨some 3, .mv (.c (.i .i64 5)), none⟩])
 (.ret))
 (.skip)))
 (.seq (.reg [⟨some 110, .loadn 7 (.t 10), none⟩,
 ⟨none, .store 7 (.t 2) (.t 110), none⟩,
 ⟨some 3, .mv (.c (.i .i64 0)), none⟩])
 (.ret)))))))))))))))))
theorem is_ref07_Parse : FnIs Tryz.prog 20 111 [.celln 2 7, .tmp 3] c_ref07_Parse := ⟨⟨_, _, Tryz.func20, rfl, rfl, by kernel_rfl, by kernel_rfl⟩⟩
def c_didweb_FromURL : SCode :=
 .seq (.reg [⟨some 1, .box 35 (.t 0), none⟩,
 ⟨some 2, .alloc 23 [.s [], .s []], none⟩,
 ⟨some 3, .mv (.c (.i .i64 0)), none⟩])
 (.seq (.seq (.reg [⟨some 9, .loadn 7 (.t 1), none⟩,
 ⟨some 10, .call 59 [.t 9], none⟩,
 ⟨some 11, .not (.t 10), none⟩])
 (.cond (.t 11)
 (.seq (.reg [⟨some 12, .build [.s [], .s []] [], none⟩,
 ⟨none, .store 2 (.t 2) (.t 12), none⟩,
 ⟨some 3, .mv (.c (.i .i64 8)), none⟩])
 (.ret))
 (.skip)))
 (.seq (.reg [⟨some 13, .fad 2 (.t 1), none⟩,
 ⟨some 14, .load1 (.t 13), none⟩,
 ⟨some 15, .call 48 [.t 14, .c (.s [47])], none⟩,
 ⟨some 16, .pu (.rsl 1) [.t 15, .c (.i .i64 1)], none⟩,
 ⟨some 4, .mv (.t 16), none⟩])
 (.seq (.reg [⟨some 17, .mv (.t 4), none⟩,
 ⟨some 18, .lenr (.t 17), none⟩,
 ⟨some 19, .bin .sub (.t 18) (.c (.i .i64 1)), none⟩,
 ⟨some 5, .mv (.t 19), none⟩])
 (.seq (.seq (.reg [⟨some 20, .fad 5 (.t 1), none⟩,
 ⟨some 21, .load1 (.t 20), none⟩,
 ⟨some 22, .mv (.t 21), none⟩,
 ⟨some 23, .fad 6 (.t 1), some (22, false)⟩,
 ⟨some 24, .load1 (.t 23), some (22, false)⟩,
 ⟨some 25, .pick (.t 22) (.c (.b true)) (.t 24), none⟩,
 ⟨some 26, .mv (.t 25), none⟩,
 ⟨some 27, .mv (.t 4), some (26, false)⟩,
 ⟨some 28, .mv (.t 5), some (26, false)⟩,
 ⟨some 29, .iad 1 (.t 27) (.t 28), some (26, false)⟩,
 ⟨some 30, .load1 (.t 29), some (26, false)⟩,
 ⟨some 31, .bin .neq (.t 30) (.c (.s [100, 105, 100, 46, 106, 115, 111, 110])), some (26, false)⟩,
 ⟨some 32, .pick (.t 26) (.c (.b true)) (.t 31), none⟩])
 (.cond (.t 32)
 (.seq (.reg [⟨some 33, .build [.s [], .s []] [], none⟩,
 ⟨none, .store 2 (.t 2) (.t 33), none⟩,
 ⟨some 3, .mv (.c (.i .i64 6)), none⟩])
 (.ret))
 (.skip)))
 (.seq (.reg [⟨some 6, .alloc 86 [.o (.pointer none), .nil], none⟩])
 (.seq (.reg [⟨some 34, .loadn 7 (.t 1), none⟩,
 ⟨some 35, .call 61 [.t 34], none⟩,
 ⟨some 36, .call 60 [.t 6, .t 35], none⟩])
 (.seq (.seq (.reg [⟨some 37, .fad 2 (.t 1), none⟩,
 ⟨some 38, .load1 (.t 37), none⟩,
 ⟨some 39, .bin .neq (.t 38) (.c (.s [47, 46, 119, 101, 108, 108, 45, 107, 110, 111, 119, 110, 47, 100, 105, 100, 46, 106, 115, 111, 110])), none⟩])
 (.cond (.t 39)
 (.seq (.seq (.reg [⟨some 40, .mv (.t 5), none⟩,
 ⟨some 41, .bin .eql (.t 40) (.c (.i .i64 0)), none⟩])
 (.cond (.t 41)
 (.seq (.reg [⟨some 42, .build [.s [], .s []] [], none⟩,
 ⟨none, .store 2 (.t 2) (.t 42), none⟩,
 ⟨some 3, .mv (.c (.i .i64 110)), none⟩])
 (.ret))
 (.skip)))
 (.seq (.reg [⟨some 43, .mv (.t 4), none⟩,
 ⟨some 44, .mv (.t 5), none⟩,
 ⟨some 45, .pu (.rslh 1) [.t 43, .t 44], none⟩,
 ⟨some 46, .mkf 62 [.t 6] [], none⟩,
 ⟨some 47, .call 49 [.t 45, .t 46], none⟩,
 ⟨some 7, .mv (.t 47), none⟩])
 (.seq (.reg [⟨some 48, .mv (.t 7), none⟩,
 ⟨some 49, .bin .neq (.t 48) (.c (.i .i64 0)), none⟩])
 (.cond (.t 49)
 (.seq (.reg [⟨some 50, .build [.s [], .s []] [], none⟩,
 ⟨some 51, .mv (.t 7), none⟩,
 ⟨none, .store 2 (.t 2) (.t 50), none⟩,
 ⟨some 3, .mv (.t 51), none⟩])
 (.ret))
 (.skip)))))
 (.skip)))
 (.seq (.reg [⟨some 52, .fad 0 (.t 6), none⟩,
 ⟨some 53, .call 51 [.t 52], none⟩,
 ⟨some 54, .build [.s [], .s []] [(0, (1, .c (.s [119, 101, 98]))), (1, (1, .t 53))], none⟩,
 ⟨some 8, .alloc 23 [.s [], .s []], none⟩,
 ⟨none, .store 2 (.t 8) (.t 54), none⟩])
 (.seq (.seq (.reg [⟨some 55, .loadn 2 (.t 8), none⟩,
 ⟨some 56, .call 43 [.t 55], none⟩,
 ⟨some 57, .lens (.t 56), none⟩,
 ⟨some 58, .bin .gtr (.t 57) (.c (.i .i64 4096)), none⟩])
 (.cond (.t 58)
 (.seq (.reg [⟨some 59, .build [.s [], .s []] [], none⟩,
 ⟨none, .store 2 (.t 2) (.t 59), none⟩,
 ⟨some 3, .mv (.c (.i .i64 5)), none⟩])
 (.ret))
 (.skip)))
 (.seq (.reg [⟨some 60, .loadn 2 (.t 8), none⟩,
 ⟨none, .store 2 (.t 2) (.t 60), none⟩,
 ⟨some 3, .mv (.c (.i .i64 0)), none⟩])
 (.ret)))))))))))
theorem is_didweb_FromURL : FnIs Tryz.prog 21 61 [.celln 2 2, .tmp 3] c_didweb_FromURL := ⟨⟨_, _, Tryz.func21, rfl, rfl, by kernel_rfl, by kernel_rfl⟩⟩
def c_ref11_FromURL : SCode :=
 .seq (.reg [⟨some 1, .box 35 (.t 0), none⟩,
 ⟨some 2, .alloc 23 [.s [], .s []], none⟩,
 ⟨some 3, .mv (.c (.i .i64 0)), none⟩])
 (.seq (.seq (.reg [⟨some 12, .loadn 7 (.t 1), none⟩,
 ⟨some 13, .call 23 [.t 12], none⟩,
 ⟨some 14, .not (.t 13), none⟩])
 (.cond (.t 14)
 (.seq (.reg [⟨some 15, .build [.s [], .s []] [], none⟩,
 ⟨none, .store 2 (.t 2) (.t 15), none⟩,
 ⟨some 3, .mv (.c (.i .i64 8)), none⟩])
 (.ret))
 (.skip)))
 (.seq (.reg [⟨some 16, .fad 2 (.t 1), none⟩,
 ⟨some 17, .load1 (.t 16), none⟩,
 ⟨some 18, .call 38 [.t 17, .c (.i .u8 47)], none⟩,
 ⟨some 19, .pu (.rsl 1) [.t 18, .c (.i .i64 1)], none⟩,
 ⟨some 4, .mv (.t 19), none⟩])
 (.seq (.seq (.reg [⟨some 20, .fad 5 (.t 1), none⟩,
 ⟨some 21, .load1 (.t 20), none⟩,
 ⟨some 22, .mv (.t 21), none⟩,
 ⟨some 23, .fad 6 (.t 1), some (22, false)⟩,
 ⟨some 24, .load1 (.t 23), some (22, false)⟩,
 ⟨some 25, .pick (.t 22) (.c (.b true)) (.t 24), none⟩,
 ⟨some 26, .mv (.t 25), none⟩,
 ⟨some 27, .mv (.t 4), some (26, false)⟩,
 ⟨some 28, .mv (.t 4), some (26, false)⟩,
 ⟨some 29, .lenr (.t 28), some (26, false)⟩,
 ⟨some 30, .bin .sub (.t 29) (.c (.i .i64 1)), some (26, false)⟩,
 ⟨some 31, .iad 1 (.t 27) (.t 30), some (26, false)⟩,
 ⟨some 32, .load1 (.t 31), some (26, false)⟩,
 ⟨some 33, .bin .neq (.t 32) (.c (.s [100, 105, 100, 46, 106, 115, 111, 110])), some (26, false)⟩,
 ⟨some 34, .pick (.t 26) (.c (.b true)) (.t 33), none⟩])
 (.cond (.t 34)
 (.seq (.reg [⟨some 35, .build [.s [], .s []] [], none⟩,
 ⟨none, .store 2 (.t 2) (.t 35), none⟩,
 ⟨some 3, .mv (.c (.i .i64 6)), none⟩])
 (.ret))
 (.skip)))
 (.seq (.reg [⟨some 36, .mv (.t 4), none⟩,
 ⟨some 37, .mv (.t 4), none⟩,
 ⟨some 38, .lenr (.t 37), none⟩,
 ⟨some 39, .bin .sub (.t 38) (.c (.i .i64 1)), none⟩,
 ⟨some 40, .pu (.rslh 1) [.t 36, .t 39], none⟩,
 ⟨some 4, .mv (.t 40), none⟩])
 (.seq (.seq (.reg [⟨some 41, .mv (.t 4), none⟩,
 ⟨some 42, .lenr (.t 41), none⟩,
 ⟨some 43, .bin .eql (.t 42) (.c (.i .i64 0)), none⟩])
 (.cond (.t 43)
 (.seq (.reg [⟨some 44, .build [.s [], .s []] [], none⟩,
 ⟨none, .store 2 (.t 2) (.t 44), none⟩,
 ⟨some 3, .mv (.c (.i .i64 110)), none⟩])
 (.ret))
 (.skip)))
 (.seq (.reg [⟨some 45, .fad 0 (.t 1), none⟩,
 ⟨some 46, .load1 (.t 45), none⟩,
 ⟨some 5, .mv (.t 46), none⟩])
 (.seq (.seq (.reg [⟨some 47, .fad 1 (.t 1), none⟩,
 ⟨some 48, .load1 (.t 47), none⟩,
 ⟨some 49, .bin .neq (.t 48) (.c (.i .i64 0)), none⟩])
 (.cond (.t 49)
 (.reg [⟨some 50, .mv (.t 5), none⟩,
 ⟨some 51, .fad 1 (.t 1), none⟩,
 ⟨some 52, .load1 (.t 51), none⟩,
 ⟨some 53, .call 63 [.t 52], none⟩,
 ⟨some 54, .bin .add (.c (.s [37, 51, 65])) (.t 53), none⟩,
 ⟨some 55, .bin .add (.t 50) (.t 54), none⟩,
 ⟨some 5, .mv (.t 55), none⟩])
 (.skip)))
 (.seq (.seq (.reg [⟨some 56, .mv (.t 4), none⟩,
 ⟨some 57, .lenr (.t 56), none⟩,
 ⟨some 58, .mv (.c (.i .i64 0)), none⟩])
 (.blk 0
 (.loop
 (.seq (.reg [⟨some 59, .bin .lss (.t 58) (.t 57), none⟩])
 (.seq (.cond (.t 59)
 (.skip)
 (.exit 0))
 (.seq (.blk 1
 (.seq (.reg [⟨some 60, .iad 1 (.t 56) (.t 58), none⟩,
 ⟨some 61, .load1 (.t 60), none⟩,
 ⟨some 7, .mv (.t 61), none⟩])
 (.seq (.seq (.reg [⟨some 8, .mv (.c (.i .i64 0)), none⟩])
 (.blk 2
 (.loop
 (.seq (.seq (.reg [⟨some 62, .mv (.t 8), none⟩,
 ⟨some 63, .mv (.t 7), none⟩,
 ⟨some 64, .lens (.t 63), none⟩,
 ⟨some 65, .bin .lss (.t 62) (.t 64), none⟩])
 (.cond (.t 65)
 (.skip)
 (.exit 2)))
 (.seq (.blk 3
 (.seq (.reg [⟨some 68, .mv (.t 7), none⟩,
 ⟨some 69, .mv (.t 8), none⟩,
 ⟨some 70, .idx (.t 68) (.t 69), none⟩,
 ⟨some 71, .call 64 [.t 70], none⟩,
 ⟨some 72, .not (.t 71), none⟩,
 ⟨some 73, .mv (.t 72), none⟩,
 ⟨some 74, .mv (.t 7), some (73, true)⟩,
 ⟨some 75, .mv (.t 8), some (73, true)⟩,
 ⟨some 76, .idx (.t 74) (.t 75), some (73, true)⟩,
 ⟨some 77, .bin .neq (.t 76) (.c (.i .u8 37)), some (73, true)⟩,
 ⟨some 78, .pick (.t 73) (.t 77) (.c (.b false)), none⟩])
 (.cond (.t 78)
 (.seq (.reg [⟨some 79, .build [.s [], .s []] [], none⟩,
 ⟨none, .store 2 (.t 2) (.t 79), none⟩,
 ⟨some 3, .mv (.c (.i .i64 110)), none⟩])
 (.ret))
 (.skip))))
 (.reg [⟨some 66, .mv (.t 8), none⟩,
 ⟨some 67, .bin .add (.t 66) (.c (.i .i64 1)), none⟩,
 ⟨some 8, .mv (.t 67), none⟩]))))))
 (.seq (.reg [⟨some 81, .mv (.t 7), none⟩,
 ⟨some 82, .call 39 [.t 81], none⟩,
 ⟨some 80, .mv (.t 82), none⟩,
 ⟨some 83, .ext (.t 80) 0, none⟩,
 ⟨some 84, .ext (.t 80) 1, none⟩,
 ⟨some 9, .mv (.t 83), none⟩,
 ⟨some 10, .mv (.t 84), none⟩])
 (.seq (.seq (.reg [⟨some 85, .mv (.t 9), none⟩,
 ⟨some 86, .bin .eql (.t 85) (.c (.s [])), none⟩])
 (.cond (.t 86)
 (.seq (.reg [⟨some 87, .build [.s [], .s []] [], none⟩,
 ⟨none, .store 2 (.t 2) (.t 87), none⟩,
 ⟨some 3, .mv (.c (.i .i64 110)), none⟩])
 (.ret))
 (.skip)))
 (.seq (.reg [⟨some 88, .fad 2 (.t 1), none⟩,
 ⟨some 89, .load1 (.t 88), none⟩,
 ⟨some 90, .bin .neq (.t 89) (.c (.s [47, 46, 119, 101, 108, 108, 45, 107, 110, 111, 119, 110, 47, 100, 105, 100, 46, 106, 115, 111, 110])), none⟩])
 (.cond (.t 90)
 (.reg [⟨some 91, .mv (.t 5), none⟩,
 ⟨some 92, .mv (.t 9), none⟩,
 ⟨some 93, .call 41 [.t 92], none⟩,
 ⟨some 94, .bin .add (.c (.s [58])) (.t 93), none⟩,
 ⟨some 95, .bin .add (.t 91) (.t 94), none⟩,
 ⟨some 5, .mv (.t 95), none⟩])
 (.skip))))))))
 (.reg [⟨some 96, .bin .add (.t 58) (.c (.i .i64 1)), none⟩,
 ⟨some 58, .mv (.t 96), none⟩])))))))
 (.seq (.reg [⟨some 97, .mv (.t 5), none⟩,
 ⟨some 98, .build [.s [], .s []] [(0, (1, .c (.s [119, 101, 98]))), (1, (1, .t 97))], none⟩,
 ⟨some 11, .alloc 23 [.s [], .s []], none⟩,
 ⟨none, .store 2 (.t 11) (.t 98), none⟩])
 (.seq (.seq (.reg [⟨some 99, .loadn 2 (.t 11), none⟩,
 ⟨some 100, .call 65 [.t 99], none⟩,
 ⟨some 101, .lens (.t 100), none⟩,
 ⟨some 102, .bin .gtr (.t 101) (.c (.i .i64 4096)), none⟩])
 (.cond (.t 102)
 (.seq (.reg [⟨some 103, .build [.s [], .s []] [], none⟩,
 ⟨none, .store 2 (.t 2) (.t 103), none⟩,
 ⟨some 3, .mv (.c (.i .i64 5)), none⟩])
 (.ret))
 (.skip)))
 (.seq (.reg [⟨some 104, .loadn 2 (.t 11), none⟩,
 ⟨none, .store 2 (.t 2) (.t 104), none⟩,
 ⟨some 3, .mv (.c (.i .i64 0)), none⟩])
 (.ret))))))))))))
theorem is_ref11_FromURL : FnIs Tryz.prog 22 105 [.celln 2 2, .tmp 3] c_ref11_FromURL := ⟨⟨_, _, Tryz.func22, rfl, rfl, by kernel_rfl, by kernel_rfl⟩⟩
def c_ref07_Valid : SCode :=
 .seq (.reg [⟨some 1, .box 35 (.t 0), none⟩,
 ⟨some 2, .mv (.c (.b false)), none⟩])
 (.seq (.reg [⟨some 6, .loadn 7 (.t 1), none⟩,
 ⟨some 7, .call 34 [.t 6], none⟩,
 ⟨some 8, .call 20 [.t 7], none⟩,
 ⟨some 5, .mv (.t 8), none⟩,
 ⟨some 9, .ext (.t 5) 0, none⟩,
 ⟨some 10, .ext (.t 5) 1, none⟩,
 ⟨some 3, .alloc 35 [.s [], .i .i64 0, .s [], .s [], .s [], .b false, .b false], none⟩,
 ⟨none, .store 7 (.t 3) (.t 9), none⟩,
 ⟨some 4, .mv (.t 10), none⟩])
 (.seq (.reg [⟨some 11, .mv (.t 4), none⟩,
 ⟨some 12, .bin .eql (.t 11) (.c (.i .i64 0)), none⟩,
 ⟨some 13, .mv (.t 12), none⟩,
 ⟨some 14, .loadn 7 (.t 1), some (13, true)⟩,
 ⟨some 15, .loadn 7 (.t 3), some (13, true)⟩,
 ⟨some 16, .eqs false (.str [(0, (none, .ts)), (1, (none, .ti)), (2, (none, .ts)), (3, (none, .ts)), (4, (none, .ts)), (5, (none, .tb)), (6, (none, .tb))]) (.t 14) (.t 15), some (13, true)⟩,
 ⟨some 17, .pick (.t 13) (.t 16) (.c (.b false)), none⟩,
 ⟨some 2, .mv (.t 17), none⟩])
 (.ret)))
theorem is_ref07_Valid : FnIs Tryz.prog 23 18 [.tmp 2] c_ref07_Valid := ⟨⟨_, _, Tryz.func23, rfl, rfl, by kernel_rfl, by kernel_rfl⟩⟩
def c_law12_sane : SCode :=
 .seq (.reg [⟨some 0, .mv (.c (.b false)), none⟩])
 (.seq (.reg [⟨some 4, .call 25 [.c (.s [97, 99, 99, 116, 58, 66, 111, 98, 64, 69, 120, 97, 109, 112, 108, 101, 46, 99, 111, 109])], none⟩,
 ⟨some 3, .mv (.t 4), none⟩,
 ⟨some 5, .ext (.t 3) 0, none⟩,
 ⟨some 6, .ext (.t 3) 1, none⟩,
 ⟨some 1, .alloc 48 [.i .i64 0, .s [], .s [], .i .i64 0], none⟩,
 ⟨none, .store 4 (.t 1) (.t 5), none⟩,
 ⟨some 2, .mv (.t 6), none⟩])
 (.seq (.reg [⟨some 7, .mv (.t 2), none⟩,
 ⟨some 8, .bin .eql (.t 7) (.c (.i .i64 0)), none⟩,
 ⟨some 9, .mv (.t 8), none⟩,
 ⟨some 10, .fad 1 (.t 1), some (9, true)⟩,
 ⟨some 11, .load1 (.t 10), some (9, true)⟩,
 ⟨some 12, .bin .eql (.t 11) (.c (.s [97, 99, 99, 116, 58, 66, 111, 98, 64, 101, 120, 97, 109, 112, 108, 101, 46, 99, 111, 109])), some (9, true)⟩,
 ⟨some 13, .pick (.t 9) (.t 12) (.c (.b false)), none⟩,
 ⟨some 14, .mv (.t 13), none⟩,
 ⟨some 15, .fad 2 (.t 1), some (14, true)⟩,
 ⟨some 16, .load1 (.t 15), some (14, true)⟩,
 ⟨some 17, .bin .eql (.t 16) (.c (.s [101, 120, 97, 109, 112, 108, 101, 46, 99, 111, 109])), some (14, true)⟩,
 ⟨some 18, .pick (.t 14) (.t 17) (.c (.b false)), none⟩,
 ⟨some 19, .mv (.t 18), none⟩,
 ⟨some 20, .call 31 [.c (.s [104, 116, 116, 112, 115, 58, 47, 47, 97, 46, 101, 120, 97, 109, 112, 108, 101]), .c (.s [72, 84, 84, 80, 83, 58, 47, 47, 65, 46, 101, 120, 97, 109, 112, 108, 101, 58, 52, 52, 51, 47])], some (19, true)⟩,
 ⟨some 21, .pick (.t 19) (.t 20) (.c (.b false)), none⟩,
 ⟨some 22, .mv (.t 21), none⟩,
 ⟨some 23, .loadn 4 (.t 1), some (22, true)⟩,
 ⟨some 24, .call 27 [.t 23], some (22, true)⟩,
 ⟨some 25, .pick (.t 22) (.t 24) (.c (.b false)), none⟩,
 ⟨some 0, .mv (.t 25), none⟩])
 (.ret)))
theorem is_law12_sane : FnIs Tryz.prog 24 26 [.tmp 0] c_law12_sane := ⟨⟨_, _, Tryz.func24, rfl, rfl, by kernel_rfl, by kernel_rfl⟩⟩
def c_ref12_Parse : SCode :=
 .seq (.reg [⟨some 2, .alloc 48 [.i .i64 0, .s [], .s [], .i .i64 0], none⟩,
 ⟨some 3, .mv (.c (.i .i64 0)), none⟩])
 (.seq (.seq (.reg [⟨some 9, .mv (.t 0), none⟩,
 ⟨some 10, .lens (.t 9), none⟩,
 ⟨some 11, .bin .gtr (.t 10) (.c (.i .i64 4096)), none⟩])
 (.cond (.t 11)
 (.seq (.reg [⟨some 12, .build [.i .i64 0, .s [], .s [], .i .i64 0] [], none⟩,
 ⟨none, .store 4 (.t 2) (.t 12), none⟩,
 ⟨some 3, .mv (.c (.i .i64 5)), none⟩])
 (.ret))
 (.skip)))
 (.seq (.reg [⟨some 13, .mv (.t 0), none⟩,
 ⟨some 14, .call 36 [.t 13, .c (.s [58])], none⟩,
 ⟨some 4, .mv (.t 14), none⟩])
 (.seq (.seq (.reg [⟨some 15, .mv (.t 4), none⟩,
 ⟨some 16, .mv (.t 0), none⟩,
 ⟨some 17, .lens (.t 16), none⟩,
 ⟨some 18, .bin .eql (.t 15) (.t 17), none⟩])
 (.cond (.t 18)
 (.seq (.reg [⟨some 19, .build [.i .i64 0, .s [], .s [], .i .i64 0] [], none⟩,
 ⟨none, .store 4 (.t 2) (.t 19), none⟩,
 ⟨some 3, .mv (.c (.i .i64 60)), none⟩])
 (.ret))
 (.skip)))
 (.seq (.seq (.reg [⟨some 20, .mv (.t 0), none⟩,
 ⟨some 21, .mv (.t 4), none⟩,
 ⟨some 22, .slcs (.t 20) none (some (.t 21)), none⟩,
 ⟨some 23, .call 71 [.t 22], none⟩])
 (.blk 0
 (.seq (.reg [⟨some 25, .bin .eql (.t 23) (.c (.s [97, 99, 99, 116])), none⟩,
 ⟨some 24, .mv (.t 25), none⟩])
 (.cond (.t 24)
 (.seq (.reg [⟨some 27, .mv (.t 0), none⟩,
 ⟨some 28, .call 72 [.t 27], none⟩,
 ⟨some 26, .mv (.t 28), none⟩,
 ⟨some 29, .ext (.t 26) 0, none⟩,
 ⟨some 30, .ext (.t 26) 1, none⟩,
 ⟨some 5, .alloc 95 [.s [], .s []], none⟩,
 ⟨none, .store 2 (.t 5) (.t 29), none⟩,
 ⟨some 6, .mv (.t 30), none⟩])
 (.seq (.seq (.reg [⟨some 31, .mv (.t 6), none⟩,
 ⟨some 32, .bin .neq (.t 31) (.c (.i .i64 0)), none⟩])
 (.cond (.t 32)
 (.seq (.reg [⟨some 33, .build [.i .i64 0, .s [], .s [], .i .i64 0] [], none⟩,
 ⟨some 34, .mv (.t 6), none⟩,
 ⟨none, .store 4 (.t 2) (.t 33), none⟩,
 ⟨some 3, .mv (.t 34), none⟩])
 (.ret))
 (.skip)))
 (.seq (.drw [⟨some 35, .loadn 2 (.t 5), none⟩,
 ⟨some 36, .call 73 [.t 35], none⟩,
 ⟨some 37, .fad 1 (.t 5), none⟩,
 ⟨some 38, .load1 (.t 37), none⟩,
 ⟨some 39, .build [.i .i64 0, .s [], .s [], .i .i64 0] [(0, (1, .c (.i .i64 1))), (1, (1, .t 36)), (2, (1, .t 38))], none⟩,
 ⟨none, .store 4 (.t 2) (.t 39), none⟩,
 ⟨some 3, .mv (.c (.i .i64 0)), none⟩] 5 [])
 (.ret))))
 (.seq (.reg [⟨some 41, .bin .eql (.t 23) (.c (.s [109, 97, 105, 108, 116, 111])), none⟩,
 ⟨some 40, .mv (.t 41), none⟩])
 (.cond (.t 40)
 (.seq (.reg [⟨some 43, .mv (.t 0), none⟩,
 ⟨some 44, .call 74 [.t 43], none⟩,
 ⟨some 42, .mv (.t 44), none⟩,
 ⟨some 45, .ext (.t 42) 0, none⟩,
 ⟨some 46, .ext (.t 42) 1, none⟩,
 ⟨some 7, .alloc 100 [.s [], .s []], none⟩,
 ⟨none, .store 2 (.t 7) (.t 45), none⟩,
 ⟨some 8, .mv (.t 46), none⟩])
 (.seq (.seq (.reg [⟨some 47, .mv (.t 8), none⟩,
 ⟨some 48, .bin .neq (.t 47) (.c (.i .i64 0)), none⟩])
 (.cond (.t 48)
 (.seq (.reg [⟨some 49, .build [.i .i64 0, .s [], .s [], .i .i64 0] [], none⟩,
 ⟨some 50, .mv (.t 8), none⟩,
 ⟨none, .store 4 (.t 2) (.t 49), none⟩,
 ⟨some 3, .mv (.t 50), none⟩])
 (.ret))
 (.skip)))
 (.seq (.drw [⟨some 51, .loadn 2 (.t 7), none⟩,
 ⟨some 52, .call 75 [.t 51], none⟩,
 ⟨some 53, .fad 1 (.t 7), none⟩,
 ⟨some 54, .load1 (.t 53), none⟩,
 ⟨some 55, .build [.i .i64 0, .s [], .s [], .i .i64 0] [(0, (1, .c (.i .i64 2))), (1, (1, .t 52)), (2, (1, .t 54))], none⟩,
 ⟨none, .store 4 (.t 2) (.t 55), none⟩,
 ⟨some 3, .mv (.c (.i .i64 0)), none⟩] 5 [])
 (.ret))))
 (.seq (.reg [⟨some 57, .bin .eql (.t 23) (.c (.s [104, 116, 116, 112, 115])), none⟩,
 ⟨some 56, .mv (.t 57), none⟩])
 (.cond (.t 56)
 (.seq (.reg [⟨some 58, .mv (.t 0), none⟩,
 ⟨some 59, .call 76 [.t 58], none⟩,
 ⟨some 60, .ext (.t 59) 0, none⟩,
 ⟨some 61, .ext (.t 59) 1, none⟩,
 ⟨none, .store 4 (.t 2) (.t 60), none⟩,
 ⟨some 3, .mv (.t 61), none⟩])
 (.ret))
 (.seq (.reg [⟨some 63, .bin .eql (.t 23) (.c (.s [100, 105, 100])), none⟩,
 ⟨some 62, .mv (.t 63), none⟩])
 (.cond (.t 62)
 (.seq (.reg [⟨some 64, .mv (.t 0), none⟩,
 ⟨some 65, .call 77 [.t 64], none⟩,
 ⟨some 66, .ext (.t 65) 0, none⟩,
 ⟨some 67, .ext (.t 65) 1, none⟩,
 ⟨none, .store 4 (.t 2) (.t 66), none⟩,
 ⟨some 3, .mv (.t 67), none⟩])
 (.ret))
 (.skip)))))))))))
 (.seq (.reg [⟨some 68, .build [.i .i64 0, .s [], .s [], .i .i64 0] [], none⟩,
 ⟨none, .store 4 (.t 2) (.t 68), none⟩,
 ⟨some 3, .mv (.c (.i .i64 60)), none⟩])
 (.ret))))))
theorem is_ref12_Parse : FnIs Tryz.prog 26 69 [.celln 2 4, .tmp 3] c_ref12_Parse := ⟨⟨_, _, Tryz.func26, rfl, rfl, by kernel_rfl, by kernel_rfl⟩⟩
def c_ident_Valid : SCode :=
 .seq (.reg [⟨some 1, .box 48 (.t 0), none⟩,
 ⟨some 2, .mv (.c (.b false)), none⟩])
 (.seq (.reg [⟨some 6, .fad 1 (.t 1), none⟩,
 ⟨some 7, .load1 (.t 6), none⟩,
 ⟨some 8, .call 25 [.t 7], none⟩,
 ⟨some 5, .mv (.t 8), none⟩,
 ⟨some 9, .ext (.t 5) 0, none⟩,
 ⟨some 10, .ext (.t 5) 1, none⟩,
 ⟨some 3, .alloc 48 [.i .i64 0, .s [], .s [], .i .i64 0], none⟩,
 ⟨none, .store 4 (.t 3) (.t 9), none⟩,
 ⟨some 4, .mv (.t 10), none⟩])
 (.seq (.reg [⟨some 11, .mv (.t 4), none⟩,
 ⟨some 12, .bin .eql (.t 11) (.c (.i .i64 0)), none⟩,
 ⟨some 13, .mv (.t 12), none⟩,
 ⟨some 14, .loadn 4 (.t 3), some (13, true)⟩,
 ⟨some 15, .loadn 4 (.t 1), some (13, true)⟩,
 ⟨some 16, .eqs false (.str [(0, (none, .ti)), (1, (none, .ts)), (2, (none, .ts)), (3, (none, .ti))]) (.t 14) (.t 15), some (13, true)⟩,
 ⟨some 17, .pick (.t 13) (.t 16) (.c (.b false)), none⟩,
 ⟨some 2, .mv (.t 17), none⟩])
 (.ret)))
theorem is_ident_Valid : FnIs Tryz.prog 27 18 [.tmp 2] c_ident_Valid := ⟨⟨_, _, Tryz.func27, rfl, rfl, by kernel_rfl, by kernel_rfl⟩⟩
def c_ref12_Valid : SCode :=
 .seq (.reg [⟨some 1, .box 48 (.t 0), none⟩,
 ⟨some 2, .mv (.c (.b false)), none⟩])
 (.seq (.reg [⟨some 6, .fad 1 (.t 1), none⟩,
 ⟨some 7, .load1 (.t 6), none⟩,
 ⟨some 8, .call 26 [.t 7], none⟩,
 ⟨some 5, .mv (.t 8), none⟩,
 ⟨some 9, .ext (.t 5) 0, none⟩,
 ⟨some 10, .ext (.t 5) 1, none⟩,
 ⟨some 3, .alloc 48 [.i .i64 0, .s [], .s [], .i .i64 0], none⟩,
 ⟨none, .store 4 (.t 3) (.t 9), none⟩,
 ⟨some 4, .mv (.t 10), none⟩])
 (.seq (.reg [⟨some 11, .mv (.t 4), none⟩,
 ⟨some 12, .bin .eql (.t 11) (.c (.i .i64 0)), none⟩,
 ⟨some 13, .mv (.t 12), none⟩,
 ⟨some 14, .loadn 4 (.t 3), some (13, true)⟩,
 ⟨some 15, .loadn 4 (.t 1), some (13, true)⟩,
 ⟨some 16, .eqs false (.str [(0, (none, .ti)), (1, (none, .ts)), (2, (none, .ts)), (3, (none, .ti))]) (.t 14) (.t 15), some (13, true)⟩,
 ⟨some 17, .pick (.t 13) (.t 16) (.c (.b false)), none⟩,
 ⟨some 2, .mv (.t 17), none⟩])
 (.ret)))
theorem is_ref12_Valid : FnIs Tryz.prog 28 18 [.tmp 2] c_ref12_Valid := ⟨⟨_, _, Tryz.func28, rfl, rfl, by kernel_rfl, by kernel_rfl⟩⟩
def c_ident_Authority : SCode :=
 .seq (.reg [⟨some 1, .box 48 (.t 0), none⟩,
 ⟨some 2, .alloc 31 [.s [], .i .i64 0], none⟩])
 (.seq (.reg [⟨some 3, .fad 2 (.t 1), none⟩,
 ⟨some 4, .load1 (.t 3), none⟩,
 ⟨some 5, .fad 3 (.t 1), none⟩,
 ⟨some 6, .load1 (.t 5), none⟩,
 ⟨some 7, .build [.s [], .i .i64 0] [(0, (1, .t 4)), (1, (1, .t 6))], none⟩,
 ⟨none, .store 2 (.t 2) (.t 7), none⟩])
 (.ret))
theorem is_ident_Authority : FnIs Tryz.prog 29 8 [.celln 2 2] c_ident_Authority := ⟨⟨_, _, Tryz.func29, rfl, rfl, by kernel_rfl, by kernel_rfl⟩⟩
def c_ref12_Authority : SCode :=
 .seq (.reg [⟨some 1, .box 48 (.t 0), none⟩,
 ⟨some 2, .alloc 31 [.s [], .i .i64 0], none⟩])
 (.seq (.reg [⟨some 3, .fad 2 (.t 1), none⟩,
 ⟨some 4, .load1 (.t 3), none⟩,
 ⟨some 5, .fad 3 (.t 1), none⟩,
 ⟨some 6, .load1 (.t 5), none⟩,
 ⟨some 7, .build [.s [], .i .i64 0] [(0, (1, .t 4)), (1, (1, .t 6))], none⟩,
 ⟨none, .store 2 (.t 2) (.t 7), none⟩])
 (.ret))
theorem is_ref12_Authority : FnIs Tryz.prog 30 8 [.celln 2 2] c_ref12_Authority := ⟨⟨_, _, Tryz.func30, rfl, rfl, by kernel_rfl, by kernel_rfl⟩⟩
def c_ident_Same : SCode :=
 .seq (.reg [⟨some 4, .mv (.c (.b false)), none⟩])
 (.seq (.reg [⟨some 9, .mv (.t 0), none⟩,
 ⟨some 10, .call 25 [.t 9], none⟩,
 ⟨some 8, .mv (.t 10), none⟩,
 ⟨some 11, .ext (.t 8) 0, none⟩,
 ⟨some 12, .ext (.t 8) 1, none⟩,
 ⟨some 5, .alloc 48 [.i .i64 0, .s [], .s [], .i .i64 0], none⟩,
 ⟨none, .store 4 (.t 5) (.t 11), none⟩,
 ⟨some 6, .mv (.t 12), none⟩])
 (.seq (.seq (.reg [⟨some 13, .mv (.t 6), none⟩,
 ⟨some 14, .bin .neq (.t 13) (.c (.i .i64 0)), none⟩])
 (.cond (.t 14)
 (.seq (.reg [⟨some 4, .mv (.c (.b false)), none⟩])
 (.ret))
 (.skip)))
 (.seq (.reg [⟨some 16, .mv (.t 1), none⟩,
 ⟨some 17, .call 25 [.t 16], none⟩,
 ⟨some 15, .mv (.t 17), none⟩,
 ⟨some 18, .ext (.t 15) 0, none⟩,
 ⟨some 19, .ext (.t 15) 1, none⟩,
 ⟨some 7, .alloc 48 [.i .i64 0, .s [], .s [], .i .i64 0], none⟩,
 ⟨none, .store 4 (.t 7) (.t 18), none⟩,
 ⟨some 6, .mv (.t 19), none⟩])
 (.seq (.reg [⟨some 20, .mv (.t 6), none⟩,
 ⟨some 21, .bin .eql (.t 20) (.c (.i .i64 0)), none⟩,
 ⟨some 22, .mv (.t 21), none⟩,
 ⟨some 23, .loadn 4 (.t 5), some (22, true)⟩,
 ⟨some 24, .loadn 4 (.t 7), some (22, true)⟩,
 ⟨some 25, .eqs false (.str [(0, (none, .ti)), (1, (none, .ts)), (2, (none, .ts)), (3, (none, .ti))]) (.t 23) (.t 24), some (22, true)⟩,
 ⟨some 26, .pick (.t 22) (.t 25) (.c (.b false)), none⟩,
 ⟨some 4, .mv (.t 26), none⟩])
 (.ret)))))
theorem is_ident_Same : FnIs Tryz.prog 31 27 [.tmp 4] c_ident_Same := ⟨⟨_, _, Tryz.func31, rfl, rfl, by kernel_rfl, by kernel_rfl⟩⟩
def c_ref12_Same : SCode :=
 .seq (.reg [⟨some 4, .mv (.c (.b false)), none⟩])
 (.seq (.reg [⟨some 10, .mv (.t 0), none⟩,
 ⟨some 11, .call 26 [.t 10], none⟩,
 ⟨some 9, .mv (.t 11), none⟩,
 ⟨some 12, .ext (.t 9) 0, none⟩,
 ⟨some 13, .ext (.t 9) 1, none⟩,
 ⟨some 5, .alloc 48 [.i .i64 0, .s [], .s [], .i .i64 0], none⟩,
 ⟨none, .store 4 (.t 5) (.t 12), none⟩,
 ⟨some 6, .mv (.t 13), none⟩])
 (.seq (.reg [⟨some 15, .mv (.t 1), none⟩,
 ⟨some 16, .call 26 [.t 15], none⟩,
 ⟨some 14, .mv (.t 16), none⟩,
 ⟨some 17, .ext (.t 14) 0, none⟩,
 ⟨some 18, .ext (.t 14) 1, none⟩,
 ⟨some 7, .alloc 48 [.i .i64 0, .s [], .s [], .i .i64 0], none⟩,
 ⟨none, .store 4 (.t 7) (.t 17), none⟩,
 ⟨some 8, .mv (.t 18), none⟩])
 (.seq (.reg [⟨some 19, .mv (.t 6), none⟩,
 ⟨some 20, .bin .eql (.t 19) (.c (.i .i64 0)), none⟩,
 ⟨some 21, .mv (.t 20), none⟩,
 ⟨some 22, .mv (.t 8), some (21, true)⟩,
 ⟨some 23, .bin .eql (.t 22) (.c (.i .i64 0)), some (21, true)⟩,
 ⟨some 24, .pick (.t 21) (.t 23) (.c (.b false)), none⟩,
 ⟨some 25, .mv (.t 24), none⟩,
 ⟨some 26, .loadn 4 (.t 5), some (25, true)⟩,
 ⟨some 27, .loadn 4 (.t 7), some (25, true)⟩,
 ⟨some 28, .eqs false (.str [(0, (none, .ti)), (1, (none, .ts)), (2, (none, .ts)), (3, (none, .ti))]) (.t 26) (.t 27), some (25, true)⟩,
 ⟨some 29, .pick (.t 25) (.t 28) (.c (.b false)), none⟩,
 ⟨some 4, .mv (.t 29), none⟩])
 (.ret))))
theorem is_ref12_Same : FnIs Tryz.prog 32 30 [.tmp 4] c_ref12_Same := ⟨⟨_, _, Tryz.func32, rfl, rfl, by kernel_rfl, by kernel_rfl⟩⟩
def c_ref07_Origin : SCode :=
 .seq (.reg [⟨some 1, .box 35 (.t 0), none⟩,
 ⟨some 2, .alloc 31 [.s [], .i .i64 0], none⟩])
 (.seq (.reg [⟨some 3, .fad 0 (.t 1), none⟩,
 ⟨some 4, .load1 (.t 3), none⟩,
 ⟨some 5, .fad 1 (.t 1), none⟩,
 ⟨some 6, .load1 (.t 5), none⟩,
 ⟨some 7, .build [.s [], .i .i64 0] [(0, (1, .t 4)), (1, (1, .t 6))], none⟩,
 ⟨none, .store 2 (.t 2) (.t 7), none⟩])
 (.ret))
theorem is_ref07_Origin : FnIs Tryz.prog 33 8 [.celln 2 2] c_ref07_Origin := ⟨⟨_, _, Tryz.func33, rfl, rfl, by kernel_rfl, by kernel_rfl⟩⟩
def c_ref07_Format : SCode :=
 .seq (.reg [⟨some 1, .box 35 (.t 0), none⟩,
 ⟨some 2, .mv (.c (.s [])), none⟩])
 (.seq (.drw [⟨some 4, .loadn 7 (.t 1), none⟩,
 ⟨some 5, .call 33 [.t 4], none⟩,
 ⟨some 6, .call 78 [.t 5], none⟩,
 ⟨some 7, .bin .add (.c (.s [104, 116, 116, 112, 115, 58, 47, 47])) (.t 6), none⟩,
 ⟨some 8, .loadn 7 (.t 1), none⟩,
 ⟨some 9, .call 79 [.t 8], none⟩,
 ⟨some 10, .bin .add (.t 7) (.t 9), none⟩,
 ⟨some 3, .mv (.t 10), none⟩] 8 [])
 (.seq (.seq (.reg [⟨some 11, .fad 6 (.t 1), none⟩,
 ⟨some 12, .load1 (.t 11), none⟩])
 (.cond (.t 12)
 (.reg [⟨some 13, .mv (.t 3), none⟩,
 ⟨some 14, .fad 4 (.t 1), none⟩,
 ⟨some 15, .load1 (.t 14), none⟩,
 ⟨some 16, .bin .add (.c (.s [35])) (.t 15), none⟩,
 ⟨some 17, .bin .add (.t 13) (.t 16), none⟩,
 ⟨some 3, .mv (.t 17), none⟩])
 (.skip)))
 (.seq (.reg [⟨some 18, .mv (.t 3), none⟩,
 ⟨some 2, .mv (.t 18), none⟩])
 (.ret))))
theorem is_ref07_Format : FnIs Tryz.prog 34 19 [.tmp 2] c_ref07_Format := ⟨⟨_, _, Tryz.func34, rfl, rfl, by kernel_rfl, by kernel_rfl⟩⟩
def c_ref10_method : SCode :=
 .seq (.reg [⟨some 2, .mv (.c (.b false)), none⟩])
 (.seq (.seq (.reg [⟨some 3, .mv (.c (.i .i64 0)), none⟩])
 (.blk 0
 (.loop
 (.seq (.seq (.reg [⟨some 4, .mv (.t 3), none⟩,
 ⟨some 5, .mv (.t 0), none⟩,
 ⟨some 6, .lens (.t 5), none⟩,
 ⟨some 7, .bin .lss (.t 4) (.t 6), none⟩])
 (.cond (.t 7)
 (.skip)
 (.exit 0)))
 (.seq (.blk 1
 (.seq (.reg [⟨some 10, .mv (.t 0), none⟩,
 ⟨some 11, .mv (.t 3), none⟩,
 ⟨some 12, .idx (.t 10) (.t 11), none⟩,
 ⟨some 13, .call 81 [.t 12], none⟩,
 ⟨some 14, .not (.t 13), none⟩,
 ⟨some 15, .mv (.t 14), none⟩,
 ⟨some 16, .mv (.t 0), some (15, true)⟩,
 ⟨some 17, .mv (.t 3), some (15, true)⟩,
 ⟨some 18, .idx (.t 16) (.t 17), some (15, true)⟩,
 ⟨some 19, .bin .lss (.t 18) (.c (.i .u8 97)), some (15, true)⟩,
 ⟨some 20, .mv (.t 19), some (15, true)⟩,
 ⟨some 21, .mv (.t 0), some (20, false)⟩,
 ⟨some 22, .mv (.t 3), some (20, false)⟩,
 ⟨some 23, .idx (.t 21) (.t 22), some (20, false)⟩,
 ⟨some 24, .bin .gtr (.t 23) (.c (.i .u8 122)), some (20, false)⟩,
 ⟨some 25, .pick (.t 20) (.c (.b true)) (.t 24), some (15, true)⟩,
 ⟨some 26, .pick (.t 15) (.t 25) (.c (.b false)), none⟩])
 (.cond (.t 26)
 (.seq (.reg [⟨some 2, .mv (.c (.b false)), none⟩])
 (.ret))
 (.skip))))
 (.reg [⟨some 8, .mv (.t 3), none⟩,
 ⟨some 9, .bin .add (.t 8) (.c (.i .i64 1)), none⟩,
 ⟨some 3, .mv (.t 9), none⟩]))))))
 (.seq (.reg [⟨some 27, .mv (.t 0), none⟩,
 ⟨some 28, .bin .neq (.t 27) (.c (.s [])), none⟩,
 ⟨some 2, .mv (.t 28), none⟩])
 (.ret)))
theorem is_ref10_method : FnIs Tryz.prog 37 29 [.tmp 2] c_ref10_method := ⟨⟨_, _, Tryz.func37, rfl, rfl, by kernel_rfl, by kernel_rfl⟩⟩
def c_ref10_plain : SCode :=
 .seq (.reg [⟨some 2, .mv (.c (.b false)), none⟩])
 (.seq (.reg [⟨some 3, .mv (.t 0), none⟩,
 ⟨some 4, .call 83 [.t 3], none⟩,
 ⟨some 5, .mv (.t 4), none⟩,
 ⟨some 6, .mv (.t 0), some (5, false)⟩,
 ⟨some 7, .call 81 [.t 6], some (5, false)⟩,
 ⟨some 8, .pick (.t 5) (.c (.b true)) (.t 7), none⟩,
 ⟨some 9, .mv (.t 8), none⟩,
 ⟨some 10, .mv (.t 0), some (9, false)⟩,
 ⟨some 11, .call 80 [.t 10, .c (.s [46, 45, 95])], some (9, false)⟩,
 ⟨some 12, .pick (.t 9) (.c (.b true)) (.t 11), none⟩,
 ⟨some 2, .mv (.t 12), none⟩])
 (.ret))
theorem is_ref10_plain : FnIs Tryz.prog 40 13 [.tmp 2] c_ref10_plain := ⟨⟨_, _, Tryz.func40, rfl, rfl, by kernel_rfl, by kernel_rfl⟩⟩
def c_ref10_Escaped : SCode :=
 .seq (.reg [⟨some 2, .mv (.c (.s [])), none⟩])
 (.seq (.reg [⟨some 3, .mv (.c (.s [])), none⟩])
 (.seq (.seq (.reg [⟨some 4, .mv (.c (.i .i64 0)), none⟩])
 (.blk 0
 (.loop
 (.seq (.seq (.reg [⟨some 5, .mv (.t 4), none⟩,
 ⟨some 6, .mv (.t 0), none⟩,
 ⟨some 7, .lens (.t 6), none⟩,
 ⟨some 8, .bin .lss (.t 5) (.t 7), none⟩])
 (.cond (.t 8)
 (.skip)
 (.exit 0)))
 (.seq (.blk 1
 (.seq (.reg [⟨some 11, .mv (.t 0), none⟩,
 ⟨some 12, .mv (.t 4), none⟩,
 ⟨some 13, .idx (.t 11) (.t 12), none⟩,
 ⟨some 14, .call 40 [.t 13], none⟩])
 (.cond (.t 14)
 (.reg [⟨some 15, .mv (.t 3), none⟩,
 ⟨some 16, .mv (.t 0), none⟩,
 ⟨some 17, .mv (.t 4), none⟩,
 ⟨some 18, .mv (.t 4), none⟩,
 ⟨some 19, .bin .add (.t 18) (.c (.i .i64 1)), none⟩,
 ⟨some 20, .slcs (.t 16) (some (.t 17)) (some (.t 19)), none⟩,
 ⟨some 21, .bin .add (.t 15) (.t 20), none⟩,
 ⟨some 3, .mv (.t 21), none⟩])
 (.reg [⟨some 22, .mv (.t 3), none⟩,
 ⟨some 23, .mv (.t 0), none⟩,
 ⟨some 24, .mv (.t 4), none⟩,
 ⟨some 25, .idx (.t 23) (.t 24), none⟩,
 ⟨some 26, .call 84 [.t 25], none⟩,
 ⟨some 27, .bin .add (.t 22) (.t 26), none⟩,
 ⟨some 3, .mv (.t 27), none⟩]))))
 (.reg [⟨some 9, .mv (.t 4), none⟩,
 ⟨some 10, .bin .add (.t 9) (.c (.i .i64 1)), none⟩,
 ⟨some 4, .mv (.t 10), none⟩]))))))
 (.seq (.reg [⟨some 28, .mv (.t 3), none⟩,
 ⟨some 2, .mv (.t 28), none⟩])
 (.ret))))
theorem is_ref10_Escaped : FnIs Tryz.prog 41 29 [.tmp 2] c_ref10_Escaped := ⟨⟨_, _, Tryz.func41, rfl, rfl, by kernel_rfl, by kernel_rfl⟩⟩
def c_did_ParseDID : SCode :=
 .seq (.reg [⟨some 2, .alloc 23 [.s [], .s []], none⟩,
 ⟨some 3, .mv (.c (.i .i64 0)), none⟩])
 (.seq (.seq (.reg [⟨some 9, .mv (.t 0), none⟩,
 ⟨some 10, .lens (.t 9), none⟩,
 ⟨some 11, .bin .gtr (.t 10) (.c (.i .i64 4096)), none⟩])
 (.cond (.t 11)
 (.seq (.reg [⟨some 12, .build [.s [], .s []] [], none⟩,
 ⟨none, .store 2 (.t 2) (.t 12), none⟩,
 ⟨some 3, .mv (.c (.i .i64 5)), none⟩])
 (.ret))
 (.skip)))
 (.seq (.reg [⟨some 14, .mv (.t 0), none⟩,
 ⟨some 15, .call 85 [.t 14, .c (.s [100, 105, 100, 58])], none⟩,
 ⟨some 13, .mv (.t 15), none⟩,
 ⟨some 16, .ext (.t 13) 0, none⟩,
 ⟨some 17, .ext (.t 13) 1, none⟩,
 ⟨some 4, .mv (.t 16), none⟩,
 ⟨some 5, .mv (.t 17), none⟩])
 (.seq (.seq (.reg [⟨some 18, .mv (.t 5), none⟩,
 ⟨some 19, .not (.t 18), none⟩])
 (.cond (.t 19)
 (.seq (.reg [⟨some 20, .build [.s [], .s []] [], none⟩,
 ⟨none, .store 2 (.t 2) (.t 20), none⟩,
 ⟨some 3, .mv (.c (.i .i64 60)), none⟩])
 (.ret))
 (.skip)))
 (.seq (.reg [⟨some 22, .mv (.t 4), none⟩,
 ⟨some 23, .call 44 [.t 22, .c (.s [58])], none⟩,
 ⟨some 21, .mv (.t 23), none⟩,
 ⟨some 24, .ext (.t 21) 0, none⟩,
 ⟨some 25, .ext (.t 21) 1, none⟩,
 ⟨some 26, .ext (.t 21) 2, none⟩,
 ⟨some 6, .mv (.t 24), none⟩,
 ⟨some 7, .mv (.t 25), none⟩,
 ⟨some 5, .mv (.t 26), none⟩])
 (.seq (.seq (.reg [⟨some 27, .mv (.t 5), none⟩,
 ⟨some 28, .not (.t 27), none⟩])
 (.cond (.t 28)
 (.seq (.reg [⟨some 29, .build [.s [], .s []] [], none⟩,
 ⟨none, .store 2 (.t 2) (.t 29), none⟩,
 ⟨some 3, .mv (.c (.i .i64 6)), none⟩])
 (.ret))
 (.skip)))
 (.seq (.seq (.reg [⟨some 30, .mv (.t 6), none⟩,
 ⟨some 31, .call 86 [.t 30], none⟩,
 ⟨some 32, .not (.t 31), none⟩])
 (.cond (.t 32)
 (.seq (.reg [⟨some 33, .build [.s [], .s []] [], none⟩,
 ⟨none, .store 2 (.t 2) (.t 33), none⟩,
 ⟨some 3, .mv (.c (.i .i64 100)), none⟩])
 (.ret))
 (.skip)))
 (.seq (.reg [⟨some 35, .mv (.t 7), none⟩,
 ⟨some 36, .call 87 [.t 35], none⟩,
 ⟨some 34, .mv (.t 36), none⟩,
 ⟨some 37, .ext (.t 34) 0, none⟩,
 ⟨some 38, .ext (.t 34) 1, none⟩,
 ⟨some 7, .mv (.t 37), none⟩,
 ⟨some 8, .mv (.t 38), none⟩])
 (.seq (.seq (.reg [⟨some 39, .mv (.t 8), none⟩,
 ⟨some 40, .bin .neq (.t 39) (.c (.i .i64 0)), none⟩])
 (.cond (.t 40)
 (.seq (.reg [⟨some 41, .build [.s [], .s []] [], none⟩,
 ⟨some 42, .mv (.t 8), none⟩,
 ⟨none, .store 2 (.t 2) (.t 41), none⟩,
 ⟨some 3, .mv (.t 42), none⟩])
 (.ret))
 (.skip)))
 (.seq (.reg [⟨some 43, .mv (.t 6), none⟩,
 ⟨some 44, .mv (.t 7), none⟩,
 ⟨some 45, .build [.s [], .s []] [(0, (1, .t 43)), (1, (1, .t 44))], none⟩,
 ⟨none, .store 2 (.t 2) (.t 45), none⟩,
 ⟨some 3, .mv (.c (.i .i64 0)), none⟩])
 (.ret))))))))))
theorem is_did_ParseDID : FnIs Tryz.prog 42 46 [.celln 2 2, .tmp 3] c_did_ParseDID := ⟨⟨_, _, Tryz.func42, rfl, rfl, by kernel_rfl, by kernel_rfl⟩⟩
def c_did_FormatDID : SCode :=
 .seq (.reg [⟨some 1, .box 23 (.t 0), none⟩,
 ⟨some 2, .mv (.c (.s [])), none⟩])
 (.seq (.reg [⟨some 3, .fad 0 (.t 1), none⟩,
 ⟨some 4, .load1 (.t 3), none⟩,
 ⟨some 5, .bin .add (.c (.s [100, 105, 100, 58])) (.t 4), none⟩,
 ⟨some 6, .bin .add (.t 5) (.c (.s [58])), none⟩,
 ⟨some 7, .fad 1 (.t 1), none⟩,
 ⟨some 8, .load1 (.t 7), none⟩,
 ⟨some 9, .bin .add (.t 6) (.t 8), none⟩,
 ⟨some 2, .mv (.t 9), none⟩])
 (.ret))
theorem is_did_FormatDID : FnIs Tryz.prog 43 10 [.tmp 2] c_did_FormatDID := ⟨⟨_, _, Tryz.func43, rfl, rfl, by kernel_rfl, by kernel_rfl⟩⟩
def c_ref11_first : SCode :=
 .seq (.reg [⟨some 1, .box 23 (.t 0), none⟩,
 ⟨some 2, .mv (.c .nil), none⟩,
 ⟨some 3, .alloc 31 [.s [], .i .i64 0], none⟩,
 ⟨some 4, .mv (.c (.i .i64 0)), none⟩])
 (.seq (.seq (.reg [⟨some 12, .fad 0 (.t 1), none⟩,
 ⟨some 13, .load1 (.t 12), none⟩,
 ⟨some 14, .bin .neq (.t 13) (.c (.s [119, 101, 98])), none⟩])
 (.cond (.t 14)
 (.seq (.reg [⟨some 15, .build [.s [], .i .i64 0] [], none⟩,
 ⟨some 2, .mv (.c .nil), none⟩,
 ⟨none, .store 2 (.t 3) (.t 15), none⟩,
 ⟨some 4, .mv (.c (.i .i64 100)), none⟩])
 (.ret))
 (.skip)))
 (.seq (.seq (.reg [⟨some 17, .loadn 2 (.t 1), none⟩,
 ⟨some 18, .call 65 [.t 17], none⟩,
 ⟨some 19, .call 13 [.t 18], none⟩,
 ⟨some 16, .mv (.t 19), none⟩,
 ⟨some 20, .ext (.t 16) 0, none⟩,
 ⟨some 21, .ext (.t 16) 1, none⟩,
 ⟨some 5, .alloc 23 [.s [], .s []], none⟩,
 ⟨none, .store 2 (.t 5) (.t 20), none⟩,
 ⟨some 6, .mv (.t 21), none⟩])
 (.seq (.reg [⟨some 22, .mv (.t 6), none⟩,
 ⟨some 23, .bin .neq (.t 22) (.c (.i .i64 0)), none⟩])
 (.cond (.t 23)
 (.seq (.reg [⟨some 24, .build [.s [], .i .i64 0] [], none⟩,
 ⟨some 25, .mv (.t 6), none⟩,
 ⟨some 2, .mv (.c .nil), none⟩,
 ⟨none, .store 2 (.t 3) (.t 24), none⟩,
 ⟨some 4, .mv (.t 25), none⟩])
 (.ret))
 (.skip))))
 (.seq (.reg [⟨some 26, .fad 1 (.t 1), none⟩,
 ⟨some 27, .load1 (.t 26), none⟩,
 ⟨some 28, .call 38 [.t 27, .c (.i .u8 58)], none⟩,
 ⟨some 7, .mv (.t 28), none⟩])
 (.seq (.reg [⟨some 30, .mv (.t 7), none⟩,
 ⟨some 31, .iad 1 (.t 30) (.c (.i .i64 0)), none⟩,
 ⟨some 32, .load1 (.t 31), none⟩,
 ⟨some 33, .call 39 [.t 32], none⟩,
 ⟨some 29, .mv (.t 33), none⟩,
 ⟨some 34, .ext (.t 29) 0, none⟩,
 ⟨some 35, .ext (.t 29) 1, none⟩,
 ⟨some 8, .mv (.t 34), none⟩,
 ⟨some 9, .mv (.t 35), none⟩])
 (.seq (.reg [⟨some 37, .mv (.t 8), none⟩,
 ⟨some 38, .call 56 [.t 37], none⟩,
 ⟨some 36, .mv (.t 38), none⟩,
 ⟨some 39, .ext (.t 36) 0, none⟩,
 ⟨some 40, .ext (.t 36) 1, none⟩,
 ⟨some 10, .alloc 31 [.s [], .i .i64 0], none⟩,
 ⟨none, .store 2 (.t 10) (.t 39), none⟩,
 ⟨some 11, .mv (.t 40), none⟩])
 (.seq (.drw [⟨some 41, .mv (.t 7), none⟩,
 ⟨some 42, .loadn 2 (.t 10), none⟩,
 ⟨some 43, .mv (.t 11), none⟩,
 ⟨some 2, .mv (.t 41), none⟩,
 ⟨none, .store 2 (.t 3) (.t 42), none⟩,
 ⟨some 4, .mv (.t 43), none⟩] 6 [])
 (.ret)))))))
theorem is_ref11_first : FnIs Tryz.prog 47 44 [.tmp 2, .celln 3 2, .tmp 4] c_ref11_first := ⟨⟨_, _, Tryz.func47, rfl, rfl, by kernel_rfl, by kernel_rfl⟩⟩
def c_didweb_each : SCode :=
 .seq (.reg [⟨some 4, .mv (.c (.i .i64 0)), none⟩])
 (.seq (.seq (.reg [⟨some 8, .mv (.t 0), none⟩,
 ⟨some 9, .lenr (.t 8), none⟩,
 ⟨some 10, .mv (.c (.i .i64 0)), none⟩])
 (.blk 0
 (.loop
 (.seq (.reg [⟨some 11, .bin .lss (.t 10) (.t 9), none⟩])
 (.seq (.cond (.t 11)
 (.skip)
 (.exit 0))
 (.seq (.blk 1
 (.seq (.reg [⟨some 12, .iad 1 (.t 8) (.t 10), none⟩,
 ⟨some 13, .load1 (.t 12), none⟩,
 ⟨some 6, .mv (.t 13), none⟩])
 (.seq (.reg [⟨some 14, .mv (.t 1), none⟩,
 ⟨some 15, .mv (.t 6), none⟩,
 ⟨some 16, .callv (.t 14) [.t 15], none⟩,
 ⟨some 7, .mv (.t 16), none⟩])
 (.seq (.reg [⟨some 17, .mv (.t 7), none⟩,
 ⟨some 18, .bin .neq (.t 17) (.c (.i .i64 0)), none⟩])
 (.cond (.t 18)
 (.seq (.reg [⟨some 19, .mv (.t 7), none⟩,
 ⟨some 4, .mv (.t 19), none⟩])
 (.ret))
 (.skip))))))
 (.reg [⟨some 20, .bin .add (.t 10) (.c (.i .i64 1)), none⟩,
 ⟨some 10, .mv (.t 20), none⟩])))))))
 (.seq (.reg [⟨some 4, .mv (.c (.i .i64 0)), none⟩])
 (.ret)))
theorem is_didweb_each : FnIs Tryz.prog 49 21 [.tmp 4] c_didweb_each := ⟨⟨_, _, Tryz.func49, rfl, rfl, by kernel_rfl, by kernel_rfl⟩⟩
def c_didweb_pathWriter_add : SCode :=
 .seq (.reg [⟨some 4, .mv (.c (.i .i64 0)), none⟩])
 (.seq (.reg [⟨some 8, .mv (.t 1), none⟩,
 ⟨some 9, .call 45 [.t 8], none⟩,
 ⟨some 7, .mv (.t 9), none⟩,
 ⟨some 10, .ext (.t 7) 0, none⟩,
 ⟨some 11, .ext (.t 7) 1, none⟩,
 ⟨some 5, .mv (.t 10), none⟩,
 ⟨some 6, .mv (.t 11), none⟩])
 (.seq (.seq (.reg [⟨some 12, .mv (.t 6), none⟩,
 ⟨some 13, .bin .neq (.t 12) (.c (.i .i64 0)), none⟩,
 ⟨some 14, .mv (.t 13), none⟩,
 ⟨some 15, .mv (.t 5), some (14, false)⟩,
 ⟨some 16, .bin .eql (.t 15) (.c (.s [])), some (14, false)⟩,
 ⟨some 17, .pick (.t 14) (.c (.b true)) (.t 16), none⟩,
 ⟨some 18, .mv (.t 17), none⟩,
 ⟨some 19, .mv (.t 5), some (18, false)⟩,
 ⟨some 20, .bin .eql (.t 19) (.c (.s [46])), some (18, false)⟩,
 ⟨some 21, .pick (.t 18) (.c (.b true)) (.t 20), none⟩,
 ⟨some 22, .mv (.t 21), none⟩,
 ⟨some 23, .mv (.t 5), some (22, false)⟩,
 ⟨some 24, .bin .eql (.t 23) (.c (.s [46, 46])), some (22, false)⟩,
 ⟨some 25, .pick (.t 22) (.c (.b true)) (.t 24), none⟩])
 (.cond (.t 25)
 (.seq (.reg [⟨some 4, .mv (.c (.i .i64 110)), none⟩])
 (.ret))
 (.skip)))
 (.seq (.drw [⟨some 26, .mv (.t 0), none⟩,
 ⟨some 27, .nck (.t 26), none⟩,
 ⟨some 28, .fad 0 (.t 27), none⟩,
 ⟨some 29, .mv (.t 5), none⟩,
 ⟨some 30, .call 95 [.t 29, .c (.s [])], none⟩,
 ⟨some 31, .bin .add (.c (.s [47])) (.t 30), none⟩,
 ⟨some 32, .call 94 [.t 28, .t 31], none⟩] 6 [])
 (.seq (.reg [⟨some 4, .mv (.c (.i .i64 0)), none⟩])
 (.ret)))))
theorem is_didweb_pathWriter_add : FnIs Tryz.prog 50 33 [.tmp 4] c_didweb_pathWriter_add := ⟨⟨_, _, Tryz.func50, rfl, rfl, by kernel_rfl, by kernel_rfl⟩⟩
def c_weburl_Format : SCode :=
 .seq (.reg [⟨some 1, .box 35 (.t 0), none⟩,
 ⟨some 2, .mv (.c (.s [])), none⟩])
 (.seq (.drw [⟨some 4, .loadn 7 (.t 1), none⟩,
 ⟨some 5, .call 61 [.t 4], none⟩,
 ⟨some 6, .call 96 [.t 5], none⟩,
 ⟨some 7, .bin .add (.c (.s [104, 116, 116, 112, 115, 58, 47, 47])) (.t 6), none⟩,
 ⟨some 8, .loadn 7 (.t 1), none⟩,
 ⟨some 9, .call 97 [.t 8], none⟩,
 ⟨some 10, .bin .add (.t 7) (.t 9), none⟩,
 ⟨some 3, .mv (.t 10), none⟩] 8 [])
 (.seq (.seq (.reg [⟨some 11, .fad 6 (.t 1), none⟩,
 ⟨some 12, .load1 (.t 11), none⟩])
 (.cond (.t 12)
 (.reg [⟨some 13, .mv (.t 3), none⟩,
 ⟨some 14, .fad 4 (.t 1), none⟩,
 ⟨some 15, .load1 (.t 14), none⟩,
 ⟨some 16, .bin .add (.c (.s [35])) (.t 15), none⟩,
 ⟨some 17, .bin .add (.t 13) (.t 16), none⟩,
 ⟨some 3, .mv (.t 17), none⟩])
 (.skip)))
 (.seq (.reg [⟨some 18, .mv (.t 3), none⟩,
 ⟨some 2, .mv (.t 18), none⟩])
 (.ret))))
theorem is_weburl_Format : FnIs Tryz.prog 52 19 [.tmp 2] c_weburl_Format := ⟨⟨_, _, Tryz.func52, rfl, rfl, by kernel_rfl, by kernel_rfl⟩⟩
def c_ref06_Split : SCode :=
 .seq (.reg [⟨some 2, .alloc 82 [.s [], .s [], .s [], .s [], .s [], .b false, .b false, .b false, .b false], none⟩,
 ⟨some 3, .mv (.c (.i .i64 0)), none⟩])
 (.seq (.seq (.reg [⟨some 9, .mv (.t 0), none⟩,
 ⟨some 10, .lens (.t 9), none⟩,
 ⟨some 11, .bin .gtr (.t 10) (.c (.i .i64 16384)), none⟩])
 (.cond (.t 11)
 (.seq (.reg [⟨some 12, .build [.s [], .s [], .s [], .s [], .s [], .b false, .b false, .b false, .b false] [], none⟩,
 ⟨none, .store 9 (.t 2) (.t 12), none⟩,
 ⟨some 3, .mv (.c (.i .i64 5)), none⟩])
 (.ret))
 (.skip)))
 (.seq (.reg [⟨some 4, .alloc 82 [.s [], .s [], .s [], .s [], .s [], .b false, .b false, .b false, .b false], none⟩])
 (.seq (.seq (.reg [⟨some 13, .mv (.t 0), none⟩,
 ⟨some 14, .call 36 [.t 13, .c (.s [35])], none⟩,
 ⟨some 5, .mv (.t 14), none⟩])
 (.seq (.reg [⟨some 15, .mv (.t 5), none⟩,
 ⟨some 16, .mv (.t 0), none⟩,
 ⟨some 17, .lens (.t 16), none⟩,
 ⟨some 18, .bin .lss (.t 15) (.t 17), none⟩])
 (.cond (.t 18)
 (.drw [⟨some 19, .mv (.t 0), none⟩,
 ⟨some 20, .mv (.t 5), none⟩,
 ⟨some 21, .bin .add (.t 20) (.c (.i .i64 1)), none⟩,
 ⟨some 22, .slcs (.t 19) (some (.t 21)) none, none⟩,
 ⟨some 23, .mv (.t 0), none⟩,
 ⟨some 24, .mv (.t 5), none⟩,
 ⟨some 25, .slcs (.t 23) none (some (.t 24)), none⟩,
 ⟨some 26, .fad 4 (.t 4), none⟩,
 ⟨none, .store 1 (.t 26) (.t 22), none⟩,
 ⟨some 27, .fad 8 (.t 4), none⟩,
 ⟨none, .store 1 (.t 27) (.c (.b true)), none⟩,
 ⟨some 0, .mv (.t 25), none⟩] 12 [])
 (.skip))))
 (.seq (.seq (.reg [⟨some 28, .mv (.t 0), none⟩,
 ⟨some 29, .call 36 [.t 28, .c (.s [63])], none⟩,
 ⟨some 6, .mv (.t 29), none⟩])
 (.seq (.reg [⟨some 30, .mv (.t 6), none⟩,
 ⟨some 31, .mv (.t 0), none⟩,
 ⟨some 32, .lens (.t 31), none⟩,
 ⟨some 33, .bin .lss (.t 30) (.t 32), none⟩])
 (.cond (.t 33)
 (.drw [⟨some 34, .mv (.t 0), none⟩,
 ⟨some 35, .mv (.t 6), none⟩,
 ⟨some 36, .bin .add (.t 35) (.c (.i .i64 1)), none⟩,
 ⟨some 37, .slcs (.t 34) (some (.t 36)) none, none⟩,
 ⟨some 38, .mv (.t 0), none⟩,
 ⟨some 39, .mv (.t 6), none⟩,
 ⟨some 40, .slcs (.t 38) none (some (.t 39)), none⟩,
 ⟨some 41, .fad 3 (.t 4), none⟩,
 ⟨none, .store 1 (.t 41) (.t 37), none⟩,
 ⟨some 42, .fad 7 (.t 4), none⟩,
 ⟨none, .store 1 (.t 42) (.c (.b true)), none⟩,
 ⟨some 0, .mv (.t 40), none⟩] 12 [])
 (.skip))))
 (.seq (.seq (.reg [⟨some 43, .mv (.t 0), none⟩,
 ⟨some 44, .call 36 [.t 43, .c (.s [58, 47])], none⟩,
 ⟨some 7, .mv (.t 44), none⟩])
 (.seq (.reg [⟨some 45, .mv (.t 7), none⟩,
 ⟨some 46, .mv (.t 0), none⟩,
 ⟨some 47, .lens (.t 46), none⟩,
 ⟨some 48, .bin .lss (.t 45) (.t 47), none⟩,
 ⟨some 49, .mv (.t 48), none⟩,
 ⟨some 50, .mv (.t 0), some (49, true)⟩,
 ⟨some 51, .mv (.t 7), some (49, true)⟩,
 ⟨some 52, .idx (.t 50) (.t 51), some (49, true)⟩,
 ⟨some 53, .bin .eql (.t 52) (.c (.i .u8 58)), some (49, true)⟩,
 ⟨some 54, .pick (.t 49) (.t 53) (.c (.b false)), none⟩])
 (.cond (.t 54)
 (.seq (.seq (.reg [⟨some 55, .mv (.t 0), none⟩,
 ⟨some 56, .mv (.t 7), none⟩,
 ⟨some 57, .slcs (.t 55) none (some (.t 56)), none⟩,
 ⟨some 58, .call 98 [.t 57], none⟩,
 ⟨some 59, .not (.t 58), none⟩])
 (.cond (.t 59)
 (.seq (.reg [⟨some 60, .build [.s [], .s [], .s [], .s [], .s [], .b false, .b false, .b false, .b false] [], none⟩,
 ⟨none, .store 9 (.t 2) (.t 60), none⟩,
 ⟨some 3, .mv (.c (.i .i64 6)), none⟩])
 (.ret))
 (.skip)))
 (.drw [⟨some 61, .mv (.t 0), none⟩,
 ⟨some 62, .mv (.t 7), none⟩,
 ⟨some 63, .slcs (.t 61) none (some (.t 62)), none⟩,
 ⟨some 64, .mv (.t 0), none⟩,
 ⟨some 65, .mv (.t 7), none⟩,
 ⟨some 66, .bin .add (.t 65) (.c (.i .i64 1)), none⟩,
 ⟨some 67, .slcs (.t 64) (some (.t 66)) none, none⟩,
 ⟨some 68, .fad 0 (.t 4), none⟩,
 ⟨none, .store 1 (.t 68) (.t 63), none⟩,
 ⟨some 69, .fad 5 (.t 4), none⟩,
 ⟨none, .store 1 (.t 69) (.c (.b true)), none⟩,
 ⟨some 0, .mv (.t 67), none⟩] 12 []))
 (.skip))))
 (.seq (.seq (.reg [⟨some 70, .mv (.t 0), none⟩,
 ⟨some 71, .call 35 [.t 70, .c (.s [47, 47])], none⟩])
 (.cond (.t 71)
 (.seq (.reg [⟨some 72, .mv (.t 0), none⟩,
 ⟨some 73, .slcs (.t 72) (some (.c (.i .i64 2))) none, none⟩,
 ⟨some 74, .call 36 [.t 73, .c (.s [47])], none⟩,
 ⟨some 75, .bin .add (.c (.i .i64 2)) (.t 74), none⟩,
 ⟨some 8, .mv (.t 75), none⟩])
 (.drw [⟨some 76, .mv (.t 0), none⟩,
 ⟨some 77, .mv (.t 8), none⟩,
 ⟨some 78, .slcs (.t 76) (some (.c (.i .i64 2))) (some (.t 77)), none⟩,
 ⟨some 79, .mv (.t 0), none⟩,
 ⟨some 80, .mv (.t 8), none⟩,
 ⟨some 81, .slcs (.t 79) (some (.t 80)) none, none⟩,
 ⟨some 82, .fad 1 (.t 4), none⟩,
 ⟨none, .store 1 (.t 82) (.t 78), none⟩,
 ⟨some 83, .fad 6 (.t 4), none⟩,
 ⟨none, .store 1 (.t 83) (.c (.b true)), none⟩,
 ⟨some 0, .mv (.t 81), none⟩] 11 []))
 (.skip)))
 (.seq (.reg [⟨some 84, .mv (.t 0), none⟩,
 ⟨some 85, .fad 2 (.t 4), none⟩,
 ⟨none, .store 1 (.t 85) (.t 84), none⟩])
 (.seq (.reg [⟨some 86, .loadn 9 (.t 4), none⟩,
 ⟨none, .store 9 (.t 2) (.t 86), none⟩,
 ⟨some 3, .mv (.c (.i .i64 0)), none⟩])
 (.ret)))))))))
theorem is_ref06_Split : FnIs Tryz.prog 54 87 [.celln 2 9, .tmp 3] c_ref06_Split := ⟨⟨_, _, Tryz.func54, rfl, rfl, by kernel_rfl, by kernel_rfl⟩⟩
def c_ref05_Parse : SCode :=
 .seq (.reg [⟨some 2, .alloc 31 [.s [], .i .i64 0], none⟩,
 ⟨some 3, .mv (.c (.i .i64 0)), none⟩])
 (.seq (.reg [⟨some 8, .mv (.t 0), none⟩,
 ⟨some 9, .call 36 [.t 8, .c (.s [58])], none⟩,
 ⟨some 4, .mv (.t 9), none⟩])
 (.seq (.reg [⟨some 11, .mv (.t 0), none⟩,
 ⟨some 12, .mv (.t 4), none⟩,
 ⟨some 13, .slcs (.t 11) none (some (.t 12)), none⟩,
 ⟨some 14, .call 99 [.t 13], none⟩,
 ⟨some 10, .mv (.t 14), none⟩,
 ⟨some 15, .ext (.t 10) 0, none⟩,
 ⟨some 16, .ext (.t 10) 1, none⟩,
 ⟨some 5, .mv (.t 15), none⟩,
 ⟨some 6, .mv (.t 16), none⟩])
 (.seq (.seq (.reg [⟨some 17, .mv (.t 6), none⟩,
 ⟨some 18, .bin .neq (.t 17) (.c (.i .i64 0)), none⟩])
 (.cond (.t 18)
 (.seq (.reg [⟨some 19, .build [.s [], .i .i64 0] [], none⟩,
 ⟨some 20, .mv (.t 6), none⟩,
 ⟨none, .store 2 (.t 2) (.t 19), none⟩,
 ⟨some 3, .mv (.t 20), none⟩])
 (.ret))
 (.skip)))
 (.seq (.seq (.reg [⟨some 21, .mv (.t 4), none⟩,
 ⟨some 22, .mv (.t 0), none⟩,
 ⟨some 23, .lens (.t 22), none⟩,
 ⟨some 24, .bin .eql (.t 21) (.t 23), none⟩])
 (.cond (.t 24)
 (.seq (.reg [⟨some 25, .mv (.t 5), none⟩,
 ⟨some 26, .build [.s [], .i .i64 0] [(0, (1, .t 25))], none⟩,
 ⟨none, .store 2 (.t 2) (.t 26), none⟩,
 ⟨some 3, .mv (.c (.i .i64 0)), none⟩])
 (.ret))
 (.skip)))
 (.seq (.reg [⟨some 28, .mv (.t 0), none⟩,
 ⟨some 29, .mv (.t 4), none⟩,
 ⟨some 30, .bin .add (.t 29) (.c (.i .i64 1)), none⟩,
 ⟨some 31, .slcs (.t 28) (some (.t 30)) none, none⟩,
 ⟨some 32, .call 100 [.t 31], none⟩,
 ⟨some 27, .mv (.t 32), none⟩,
 ⟨some 33, .ext (.t 27) 0, none⟩,
 ⟨some 34, .ext (.t 27) 1, none⟩,
 ⟨some 7, .mv (.t 33), none⟩,
 ⟨some 6, .mv (.t 34), none⟩])
 (.seq (.seq (.reg [⟨some 35, .mv (.t 6), none⟩,
 ⟨some 36, .bin .neq (.t 35) (.c (.i .i64 0)), none⟩])
 (.cond (.t 36)
 (.seq (.reg [⟨some 37, .build [.s [], .i .i64 0] [], none⟩,
 ⟨some 38, .mv (.t 6), none⟩,
 ⟨none, .store 2 (.t 2) (.t 37), none⟩,
 ⟨some 3, .mv (.t 38), none⟩])
 (.ret))
 (.skip)))
 (.seq (.seq (.reg [⟨some 39, .mv (.t 7), none⟩,
 ⟨some 40, .bin .eql (.t 39) (.c (.i .i64 443)), none⟩])
 (.cond (.t 40)
 (.reg [⟨some 7, .mv (.c (.i .i64 0)), none⟩])
 (.skip)))
 (.seq (.reg [⟨some 41, .mv (.t 5), none⟩,
 ⟨some 42, .mv (.t 7), none⟩,
 ⟨some 43, .build [.s [], .i .i64 0] [(0, (1, .t 41)), (1, (1, .t 42))], none⟩,
 ⟨none, .store 2 (.t 2) (.t 43), none⟩,
 ⟨some 3, .mv (.c (.i .i64 0)), none⟩])
 (.ret)))))))))
theorem is_ref05_Parse : FnIs Tryz.prog 56 44 [.celln 2 2, .tmp 3] c_ref05_Parse := ⟨⟨_, _, Tryz.func56, rfl, rfl, by kernel_rfl, by kernel_rfl⟩⟩
def c_weburl_Valid : SCode :=
 .seq (.reg [⟨some 1, .box 35 (.t 0), none⟩,
 ⟨some 2, .mv (.c (.b false)), none⟩])
 (.seq (.reg [⟨some 6, .loadn 7 (.t 1), none⟩,
 ⟨some 7, .call 52 [.t 6], none⟩,
 ⟨some 8, .call 102 [.t 7], none⟩,
 ⟨some 5, .mv (.t 8), none⟩,
 ⟨some 9, .ext (.t 5) 0, none⟩,
 ⟨some 10, .ext (.t 5) 1, none⟩,
 ⟨some 3, .alloc 35 [.s [], .i .i64 0, .s [], .s [], .s [], .b false, .b false], none⟩,
 ⟨none, .store 7 (.t 3) (.t 9), none⟩,
 ⟨some 4, .mv (.t 10), none⟩])
 (.seq (.reg [⟨some 11, .mv (.t 4), none⟩,
 ⟨some 12, .bin .eql (.t 11) (.c (.i .i64 0)), none⟩,
 ⟨some 13, .mv (.t 12), none⟩,
 ⟨some 14, .loadn 7 (.t 3), some (13, true)⟩,
 ⟨some 15, .loadn 7 (.t 1), some (13, true)⟩,
 ⟨some 16, .eqs false (.str [(0, (none, .ts)), (1, (none, .ti)), (2, (none, .ts)), (3, (none, .ts)), (4, (none, .ts)), (5, (none, .tb)), (6, (none, .tb))]) (.t 14) (.t 15), some (13, true)⟩,
 ⟨some 17, .pick (.t 13) (.t 16) (.c (.b false)), none⟩,
 ⟨some 2, .mv (.t 17), none⟩])
 (.ret)))
theorem is_weburl_Valid : FnIs Tryz.prog 59 18 [.tmp 2] c_weburl_Valid := ⟨⟨_, _, Tryz.func59, rfl, rfl, by kernel_rfl, by kernel_rfl⟩⟩
def c_didweb_idWriter_start : SCode :=
 .seq (.reg [⟨some 3, .box 31 (.t 1), none⟩])
 (.seq (.drw [⟨some 4, .mv (.t 0), none⟩,
 ⟨some 5, .nck (.t 4), none⟩,
 ⟨some 6, .fad 0 (.t 5), none⟩,
 ⟨some 7, .fad 0 (.t 3), none⟩,
 ⟨some 8, .load1 (.t 7), none⟩,
 ⟨some 9, .call 94 [.t 6, .t 8], none⟩] 5 [])
 (.seq (.reg [⟨some 10, .fad 1 (.t 3), none⟩,
 ⟨some 11, .load1 (.t 10), none⟩,
 ⟨some 12, .bin .neq (.t 11) (.c (.i .i64 0)), none⟩])
 (.cond (.t 12)
 (.drw [⟨some 13, .mv (.t 0), none⟩,
 ⟨some 14, .nck (.t 13), none⟩,
 ⟨some 15, .fad 0 (.t 14), none⟩,
 ⟨some 16, .fad 1 (.t 3), none⟩,
 ⟨some 17, .load1 (.t 16), none⟩,
 ⟨some 18, .call 103 [.t 17], none⟩,
 ⟨some 19, .bin .add (.c (.s [37, 51, 65])) (.t 18), none⟩,
 ⟨some 20, .call 94 [.t 15, .t 19], none⟩] 7 [])
 (.skip))))
theorem is_didweb_idWriter_start : FnIs Tryz.prog 60 21 [] c_didweb_idWriter_start := ⟨⟨_, _, Tryz.func60, rfl, rfl, by kernel_rfl, by kernel_rfl⟩⟩
def c_weburl_Origin : SCode :=
 .seq (.reg [⟨some 1, .box 35 (.t 0), none⟩,
 ⟨some 2, .alloc 31 [.s [], .i .i64 0], none⟩])
 (.seq (.reg [⟨some 3, .fad 0 (.t 1), none⟩,
 ⟨some 4, .load1 (.t 3), none⟩,
 ⟨some 5, .fad 1 (.t 1), none⟩,
 ⟨some 6, .load1 (.t 5), none⟩,
 ⟨some 7, .build [.s [], .i .i64 0] [(0, (1, .t 4)), (1, (1, .t 6))], none⟩,
 ⟨none, .store 2 (.t 2) (.t 7), none⟩])
 (.ret))
theorem is_weburl_Origin : FnIs Tryz.prog 61 8 [.celln 2 2] c_weburl_Origin := ⟨⟨_, _, Tryz.func61, rfl, rfl, by kernel_rfl, by kernel_rfl⟩⟩
def c_didweb_idWriter_add : SCode :=
 .seq (.reg [⟨some 4, .mv (.c (.i .i64 0)), none⟩])
 (.seq (.reg [⟨some 8, .mv (.t 1), none⟩,
 ⟨some 9, .call 104 [.t 8, .c (.s [])], none⟩,
 ⟨some 7, .mv (.t 9), none⟩,
 ⟨some 10, .ext (.t 7) 0, none⟩,
 ⟨some 11, .ext (.t 7) 1, none⟩,
 ⟨some 5, .mv (.t 10), none⟩,
 ⟨some 6, .mv (.t 11), none⟩])
 (.seq (.seq (.reg [⟨some 12, .mv (.t 6), none⟩,
 ⟨some 13, .bin .neq (.t 12) (.c (.i .i64 0)), none⟩,
 ⟨some 14, .mv (.t 13), none⟩,
 ⟨some 15, .mv (.t 1), some (14, false)⟩,
 ⟨some 16, .bin .eql (.t 15) (.c (.s [])), some (14, false)⟩,
 ⟨some 17, .pick (.t 14) (.c (.b true)) (.t 16), none⟩])
 (.cond (.t 17)
 (.seq (.reg [⟨some 4, .mv (.c (.i .i64 110)), none⟩])
 (.ret))
 (.skip)))
 (.seq (.drw [⟨some 18, .mv (.t 0), none⟩,
 ⟨some 19, .nck (.t 18), none⟩,
 ⟨some 20, .fad 0 (.t 19), none⟩,
 ⟨some 21, .mv (.t 5), none⟩,
 ⟨some 22, .call 105 [.t 21, .c (.s [126]), .c (.s [37, 55, 69])], none⟩,
 ⟨some 23, .bin .add (.c (.s [58])) (.t 22), none⟩,
 ⟨some 24, .call 94 [.t 20, .t 23], none⟩] 6 [])
 (.seq (.reg [⟨some 4, .mv (.c (.i .i64 0)), none⟩])
 (.ret)))))
theorem is_didweb_idWriter_add : FnIs Tryz.prog 62 25 [.tmp 4] c_didweb_idWriter_add := ⟨⟨_, _, Tryz.func62, rfl, rfl, by kernel_rfl, by kernel_rfl⟩⟩
def c_ref05_Decimal : SCode :=
 .seq (.reg [⟨some 2, .mv (.c (.s [])), none⟩])
 (.seq (.seq (.reg [⟨some 3, .mv (.t 0), none⟩,
 ⟨some 4, .bin .lss (.t 3) (.c (.i .i64 0)), none⟩])
 (.cond (.t 4)
 (.seq (.reg [⟨some 5, .mv (.t 0), none⟩,
 ⟨some 6, .bin .add (.t 5) (.c (.i .i64 1)), none⟩,
 ⟨some 7, .neg (.t 6), none⟩,
 ⟨some 8, .cvi .u64 (.t 7), none⟩,
 ⟨some 9, .bin .add (.t 8) (.c (.i .u64 1)), none⟩,
 ⟨some 10, .call 106 [.t 9], none⟩,
 ⟨some 11, .bin .add (.c (.s [45])) (.t 10), none⟩,
 ⟨some 2, .mv (.t 11), none⟩])
 (.ret))
 (.skip)))
 (.seq (.reg [⟨some 12, .mv (.t 0), none⟩,
 ⟨some 13, .cvi .u64 (.t 12), none⟩,
 ⟨some 14, .call 106 [.t 13], none⟩,
 ⟨some 2, .mv (.t 14), none⟩])
 (.ret)))
theorem is_ref05_Decimal : FnIs Tryz.prog 63 15 [.tmp 2] c_ref05_Decimal := ⟨⟨_, _, Tryz.func63, rfl, rfl, by kernel_rfl, by kernel_rfl⟩⟩
def c_ref10_FormatDID : SCode :=
 .seq (.reg [⟨some 1, .box 23 (.t 0), none⟩,
 ⟨some 2, .mv (.c (.s [])), none⟩])
 (.seq (.reg [⟨some 3, .fad 0 (.t 1), none⟩,
 ⟨some 4, .load1 (.t 3), none⟩,
 ⟨some 5, .bin .add (.c (.s [100, 105, 100, 58])) (.t 4), none⟩,
 ⟨some 6, .bin .add (.t 5) (.c (.s [58])), none⟩,
 ⟨some 7, .fad 1 (.t 1), none⟩,
 ⟨some 8, .load1 (.t 7), none⟩,
 ⟨some 9, .bin .add (.t 6) (.t 8), none⟩,
 ⟨some 2, .mv (.t 9), none⟩])
 (.ret))
theorem is_ref10_FormatDID : FnIs Tryz.prog 65 10 [.tmp 2] c_ref10_FormatDID := ⟨⟨_, _, Tryz.func65, rfl, rfl, by kernel_rfl, by kernel_rfl⟩⟩
def c_ident_text_acct : SCode :=
 .seq (.reg [⟨some 2, .alloc 48 [.i .i64 0, .s [], .s [], .i .i64 0], none⟩,
 ⟨some 3, .mv (.c (.i .i64 0)), none⟩])
 (.seq (.reg [⟨some 7, .mv (.t 0), none⟩,
 ⟨some 8, .call 107 [.t 7], none⟩,
 ⟨some 6, .mv (.t 8), none⟩,
 ⟨some 9, .ext (.t 6) 0, none⟩,
 ⟨some 10, .ext (.t 6) 1, none⟩,
 ⟨some 4, .alloc 95 [.s [], .s []], none⟩,
 ⟨none, .store 2 (.t 4) (.t 9), none⟩,
 ⟨some 5, .mv (.t 10), none⟩])
 (.seq (.seq (.reg [⟨some 11, .mv (.t 5), none⟩,
 ⟨some 12, .bin .neq (.t 11) (.c (.i .i64 0)), none⟩])
 (.cond (.t 12)
 (.seq (.reg [⟨some 13, .build [.i .i64 0, .s [], .s [], .i .i64 0] [], none⟩,
 ⟨some 14, .mv (.t 5), none⟩,
 ⟨none, .store 4 (.t 2) (.t 13), none⟩,
 ⟨some 3, .mv (.t 14), none⟩])
 (.ret))
 (.skip)))
 (.seq (.drw [⟨some 15, .loadn 2 (.t 4), none⟩,
 ⟨some 16, .call 108 [.t 15], none⟩,
 ⟨some 17, .fad 1 (.t 4), none⟩,
 ⟨some 18, .load1 (.t 17), none⟩,
 ⟨some 19, .build [.i .i64 0, .s [], .s [], .i .i64 0] [(0, (1, .c (.i .i64 1))), (1, (1, .t 16)), (2, (1, .t 18))], none⟩,
 ⟨none, .store 4 (.t 2) (.t 19), none⟩,
 ⟨some 3, .mv (.c (.i .i64 0)), none⟩] 5 [])
 (.ret))))
theorem is_ident_text_acct : FnIs Tryz.prog 66 20 [.celln 2 4, .tmp 3] c_ident_text_acct := ⟨⟨_, _, Tryz.func66, rfl, rfl, by kernel_rfl, by kernel_rfl⟩⟩
def c_ident_text_mail : SCode :=
 .seq (.reg [⟨some 2, .alloc 48 [.i .i64 0, .s [], .s [], .i .i64 0], none⟩,
 ⟨some 3, .mv (.c (.i .i64 0)), none⟩])
 (.seq (.reg [⟨some 7, .mv (.t 0), none⟩,
 ⟨some 8, .call 109 [.t 7], none⟩,
 ⟨some 6, .mv (.t 8), none⟩,
 ⟨some 9, .ext (.t 6) 0, none⟩,
 ⟨some 10, .ext (.t 6) 1, none⟩,
 ⟨some 4, .alloc 100 [.s [], .s []], none⟩,
 ⟨none, .store 2 (.t 4) (.t 9), none⟩,
 ⟨some 5, .mv (.t 10), none⟩])
 (.seq (.seq (.reg [⟨some 11, .mv (.t 5), none⟩,
 ⟨some 12, .bin .neq (.t 11) (.c (.i .i64 0)), none⟩])
 (.cond (.t 12)
 (.seq (.reg [⟨some 13, .build [.i .i64 0, .s [], .s [], .i .i64 0] [], none⟩,
 ⟨some 14, .mv (.t 5), none⟩,
 ⟨none, .store 4 (.t 2) (.t 13), none⟩,
 ⟨some 3, .mv (.t 14), none⟩])
 (.ret))
 (.skip)))
 (.seq (.drw [⟨some 15, .loadn 2 (.t 4), none⟩,
 ⟨some 16, .call 110 [.t 15], none⟩,
 ⟨some 17, .fad 1 (.t 4), none⟩,
 ⟨some 18, .load1 (.t 17), none⟩,
 ⟨some 19, .build [.i .i64 0, .s [], .s [], .i .i64 0] [(0, (1, .c (.i .i64 2))), (1, (1, .t 16)), (2, (1, .t 18))], none⟩,
 ⟨none, .store 4 (.t 2) (.t 19), none⟩,
 ⟨some 3, .mv (.c (.i .i64 0)), none⟩] 5 [])
 (.ret))))
theorem is_ident_text_mail : FnIs Tryz.prog 67 20 [.celln 2 4, .tmp 3] c_ident_text_mail := ⟨⟨_, _, Tryz.func67, rfl, rfl, by kernel_rfl, by kernel_rfl⟩⟩
def c_ident_text_web : SCode :=
 .seq (.reg [⟨some 2, .alloc 48 [.i .i64 0, .s [], .s [], .i .i64 0], none⟩,
 ⟨some 3, .mv (.c (.i .i64 0)), none⟩])
 (.seq (.reg [⟨some 7, .mv (.t 0), none⟩,
 ⟨some 8, .call 102 [.t 7], none⟩,
 ⟨some 6, .mv (.t 8), none⟩,
 ⟨some 9, .ext (.t 6) 0, none⟩,
 ⟨some 10, .ext (.t 6) 1, none⟩,
 ⟨some 4, .alloc 35 [.s [], .i .i64 0, .s [], .s [], .s [], .b false, .b false], none⟩,
 ⟨none, .store 7 (.t 4) (.t 9), none⟩,
 ⟨some 5, .mv (.t 10), none⟩])
 (.seq (.seq (.reg [⟨some 11, .mv (.t 5), none⟩,
 ⟨some 12, .bin .neq (.t 11) (.c (.i .i64 0)), none⟩])
 (.cond (.t 12)
 (.seq (.reg [⟨some 13, .build [.i .i64 0, .s [], .s [], .i .i64 0] [], none⟩,
 ⟨some 14, .mv (.t 5), none⟩,
 ⟨none, .store 4 (.t 2) (.t 13), none⟩,
 ⟨some 3, .mv (.t 14), none⟩])
 (.ret))
 (.skip)))
 (.seq (.drw [⟨some 15, .loadn 7 (.t 4), none⟩,
 ⟨some 16, .call 52 [.t 15], none⟩,
 ⟨some 17, .fad 0 (.t 4), none⟩,
 ⟨some 18, .load1 (.t 17), none⟩,
 ⟨some 19, .fad 1 (.t 4), none⟩,
 ⟨some 20, .load1 (.t 19), none⟩,
 ⟨some 21, .build [.i .i64 0, .s [], .s [], .i .i64 0] [(0, (1, .c (.i .i64 3))), (1, (1, .t 16)), (2, (1, .t 18)), (3, (1, .t 20))], none⟩,
 ⟨none, .store 4 (.t 2) (.t 21), none⟩,
 ⟨some 3, .mv (.c (.i .i64 0)), none⟩] 7 [])
 (.ret))))
theorem is_ident_text_web : FnIs Tryz.prog 68 22 [.celln 2 4, .tmp 3] c_ident_text_web := ⟨⟨_, _, Tryz.func68, rfl, rfl, by kernel_rfl, by kernel_rfl⟩⟩
def c_ident_text_did : SCode :=
 .seq (.reg [⟨some 2, .alloc 48 [.i .i64 0, .s [], .s [], .i .i64 0], none⟩,
 ⟨some 3, .mv (.c (.i .i64 0)), none⟩])
 (.seq (.reg [⟨some 8, .mv (.t 0), none⟩,
 ⟨some 9, .call 42 [.t 8], none⟩,
 ⟨some 7, .mv (.t 9), none⟩,
 ⟨some 10, .ext (.t 7) 0, none⟩,
 ⟨some 11, .ext (.t 7) 1, none⟩,
 ⟨some 4, .alloc 23 [.s [], .s []], none⟩,
 ⟨none, .store 2 (.t 4) (.t 10), none⟩,
 ⟨some 5, .mv (.t 11), none⟩])
 (.seq (.seq (.reg [⟨some 12, .mv (.t 5), none⟩,
 ⟨some 13, .bin .neq (.t 12) (.c (.i .i64 0)), none⟩])
 (.cond (.t 13)
 (.seq (.reg [⟨some 14, .build [.i .i64 0, .s [], .s [], .i .i64 0] [], none⟩,
 ⟨some 15, .mv (.t 5), none⟩,
 ⟨none, .store 4 (.t 2) (.t 14), none⟩,
 ⟨some 3, .mv (.t 15), none⟩])
 (.ret))
 (.skip)))
 (.seq (.reg [⟨some 17, .loadn 2 (.t 4), none⟩,
 ⟨some 18, .call 18 [.t 17], none⟩,
 ⟨some 16, .mv (.t 18), none⟩,
 ⟨some 19, .ext (.t 16) 0, none⟩,
 ⟨some 20, .ext (.t 16) 1, none⟩,
 ⟨none, .store 2 (.t 4) (.t 19), none⟩,
 ⟨some 5, .mv (.t 20), none⟩])
 (.seq (.seq (.reg [⟨some 21, .mv (.t 5), none⟩,
 ⟨some 22, .bin .neq (.t 21) (.c (.i .i64 0)), none⟩])
 (.cond (.t 22)
 (.seq (.reg [⟨some 23, .build [.i .i64 0, .s [], .s [], .i .i64 0] [], none⟩,
 ⟨some 24, .mv (.t 5), none⟩,
 ⟨none, .store 4 (.t 2) (.t 23), none⟩,
 ⟨some 3, .mv (.t 24), none⟩])
 (.ret))
 (.skip)))
 (.seq (.reg [⟨some 26, .loadn 2 (.t 4), none⟩,
 ⟨some 27, .call 14 [.t 26], none⟩,
 ⟨some 25, .mv (.t 27), none⟩,
 ⟨some 28, .ext (.t 25) 0, none⟩,
 ⟨some 29, .ext (.t 25) 1, none⟩,
 ⟨some 6, .alloc 31 [.s [], .i .i64 0], none⟩,
 ⟨none, .store 2 (.t 6) (.t 28), none⟩,
 ⟨some 5, .mv (.t 29), none⟩])
 (.seq (.seq (.reg [⟨some 30, .mv (.t 5), none⟩,
 ⟨some 31, .bin .neq (.t 30) (.c (.i .i64 0)), none⟩])
 (.cond (.t 31)
 (.seq (.reg [⟨some 32, .build [.i .i64 0, .s [], .s [], .i .i64 0] [], none⟩,
 ⟨some 33, .mv (.t 5), none⟩,
 ⟨none, .store 4 (.t 2) (.t 32), none⟩,
 ⟨some 3, .mv (.t 33), none⟩])
 (.ret))
 (.skip)))
 (.seq (.drw [⟨some 34, .loadn 2 (.t 4), none⟩,
 ⟨some 35, .call 43 [.t 34], none⟩,
 ⟨some 36, .fad 0 (.t 6), none⟩,
 ⟨some 37, .load1 (.t 36), none⟩,
 ⟨some 38, .fad 1 (.t 6), none⟩,
 ⟨some 39, .load1 (.t 38), none⟩,
 ⟨some 40, .build [.i .i64 0, .s [], .s [], .i .i64 0] [(0, (1, .c (.i .i64 4))), (1, (1, .t 35)), (2, (1, .t 37)), (3, (1, .t 39))], none⟩,
 ⟨none, .store 4 (.t 2) (.t 40), none⟩,
 ⟨some 3, .mv (.c (.i .i64 0)), none⟩] 7 [])
 (.ret))))))))
theorem is_ident_text_did : FnIs Tryz.prog 69 41 [.celln 2 4, .tmp 3] c_ident_text_did := ⟨⟨_, _, Tryz.func69, rfl, rfl, by kernel_rfl, by kernel_rfl⟩⟩
def c_ref12_web : SCode :=
 .seq (.reg [⟨some 2, .alloc 48 [.i .i64 0, .s [], .s [], .i .i64 0], none⟩,
 ⟨some 3, .mv (.c (.i .i64 0)), none⟩])
 (.seq (.reg [⟨some 7, .mv (.t 0), none⟩,
 ⟨some 8, .call 20 [.t 7], none⟩,
 ⟨some 6, .mv (.t 8), none⟩,
 ⟨some 9, .ext (.t 6) 0, none⟩,
 ⟨some 10, .ext (.t 6) 1, none⟩,
 ⟨some 4, .alloc 35 [.s [], .i .i64 0, .s [], .s [], .s [], .b false, .b false], none⟩,
 ⟨none, .store 7 (.t 4) (.t 9), none⟩,
 ⟨some 5, .mv (.t 10), none⟩])
 (.seq (.seq (.reg [⟨some 11, .mv (.t 5), none⟩,
 ⟨some 12, .bin .neq (.t 11) (.c (.i .i64 0)), none⟩])
 (.cond (.t 12)
 (.seq (.reg [⟨some 13, .build [.i .i64 0, .s [], .s [], .i .i64 0] [], none⟩,
 ⟨some 14, .mv (.t 5), none⟩,
 ⟨none, .store 4 (.t 2) (.t 13), none⟩,
 ⟨some 3, .mv (.t 14), none⟩])
 (.ret))
 (.skip)))
 (.seq (.drw [⟨some 15, .loadn 7 (.t 4), none⟩,
 ⟨some 16, .call 34 [.t 15], none⟩,
 ⟨some 17, .fad 0 (.t 4), none⟩,
 ⟨some 18, .load1 (.t 17), none⟩,
 ⟨some 19, .fad 1 (.t 4), none⟩,
 ⟨some 20, .load1 (.t 19), none⟩,
 ⟨some 21, .build [.i .i64 0, .s [], .s [], .i .i64 0] [(0, (1, .c (.i .i64 3))), (1, (1, .t 16)), (2, (1, .t 18)), (3, (1, .t 20))], none⟩,
 ⟨none, .store 4 (.t 2) (.t 21), none⟩,
 ⟨some 3, .mv (.c (.i .i64 0)), none⟩] 7 [])
 (.ret))))
theorem is_ref12_web : FnIs Tryz.prog 76 22 [.celln 2 4, .tmp 3] c_ref12_web := ⟨⟨_, _, Tryz.func76, rfl, rfl, by kernel_rfl, by kernel_rfl⟩⟩
def c_ref12_decentral : SCode :=
 .seq (.reg [⟨some 2, .alloc 48 [.i .i64 0, .s [], .s [], .i .i64 0], none⟩,
 ⟨some 3, .mv (.c (.i .i64 0)), none⟩])
 (.seq (.reg [⟨some 10, .mv (.t 0), none⟩,
 ⟨some 11, .call 13 [.t 10], none⟩,
 ⟨some 9, .mv (.t 11), none⟩,
 ⟨some 12, .ext (.t 9) 0, none⟩,
 ⟨some 13, .ext (.t 9) 1, none⟩,
 ⟨some 4, .alloc 23 [.s [], .s []], none⟩,
 ⟨none, .store 2 (.t 4) (.t 12), none⟩,
 ⟨some 5, .mv (.t 13), none⟩])
 (.seq (.seq (.reg [⟨some 14, .mv (.t 5), none⟩,
 ⟨some 15, .bin .neq (.t 14) (.c (.i .i64 0)), none⟩])
 (.cond (.t 15)
 (.seq (.reg [⟨some 16, .build [.i .i64 0, .s [], .s [], .i .i64 0] [], none⟩,
 ⟨some 17, .mv (.t 5), none⟩,
 ⟨none, .store 4 (.t 2) (.t 16), none⟩,
 ⟨some 3, .mv (.t 17), none⟩])
 (.ret))
 (.skip)))
 (.seq (.reg [⟨some 19, .loadn 2 (.t 4), none⟩,
 ⟨some 20, .call 19 [.t 19], none⟩,
 ⟨some 18, .mv (.t 20), none⟩,
 ⟨some 21, .ext (.t 18) 0, none⟩,
 ⟨some 22, .ext (.t 18) 1, none⟩,
 ⟨some 6, .alloc 23 [.s [], .s []], none⟩,
 ⟨none, .store 2 (.t 6) (.t 21), none⟩,
 ⟨some 5, .mv (.t 22), none⟩])
 (.seq (.seq (.reg [⟨some 23, .mv (.t 5), none⟩,
 ⟨some 24, .bin .neq (.t 23) (.c (.i .i64 0)), none⟩])
 (.cond (.t 24)
 (.seq (.reg [⟨some 25, .build [.i .i64 0, .s [], .s [], .i .i64 0] [], none⟩,
 ⟨some 26, .mv (.t 5), none⟩,
 ⟨none, .store 4 (.t 2) (.t 25), none⟩,
 ⟨some 3, .mv (.t 26), none⟩])
 (.ret))
 (.skip)))
 (.seq (.reg [⟨some 28, .loadn 2 (.t 6), none⟩,
 ⟨some 29, .call 15 [.t 28], none⟩,
 ⟨some 27, .mv (.t 29), none⟩,
 ⟨some 30, .ext (.t 27) 0, none⟩,
 ⟨some 31, .ext (.t 27) 1, none⟩,
 ⟨some 7, .alloc 31 [.s [], .i .i64 0], none⟩,
 ⟨none, .store 2 (.t 7) (.t 30), none⟩,
 ⟨some 8, .mv (.t 31), none⟩])
 (.seq (.drw [⟨some 32, .loadn 2 (.t 6), none⟩,
 ⟨some 33, .call 65 [.t 32], none⟩,
 ⟨some 34, .fad 0 (.t 7), none⟩,
 ⟨some 35, .load1 (.t 34), none⟩,
 ⟨some 36, .fad 1 (.t 7), none⟩,
 ⟨some 37, .load1 (.t 36), none⟩,
 ⟨some 38, .build [.i .i64 0, .s [], .s [], .i .i64 0] [(0, (1, .c (.i .i64 4))), (1, (1, .t 33)), (2, (1, .t 35)), (3, (1, .t 37))], none⟩,
 ⟨none, .store 4 (.t 2) (.t 38), none⟩,
 ⟨some 3, .mv (.c (.i .i64 0)), none⟩] 7 [])
 (.ret)))))))
theorem is_ref12_decentral : FnIs Tryz.prog 77 39 [.celln 2 4, .tmp 3] c_ref12_decentral := ⟨⟨_, _, Tryz.func77, rfl, rfl, by kernel_rfl, by kernel_rfl⟩⟩
def c_ref05_Format : SCode :=
 .seq (.reg [⟨some 1, .box 31 (.t 0), none⟩,
 ⟨some 2, .mv (.c (.s [])), none⟩])
 (.seq (.seq (.reg [⟨some 3, .fad 1 (.t 1), none⟩,
 ⟨some 4, .load1 (.t 3), none⟩,
 ⟨some 5, .bin .eql (.t 4) (.c (.i .i64 0)), none⟩])
 (.cond (.t 5)
 (.seq (.reg [⟨some 6, .fad 0 (.t 1), none⟩,
 ⟨some 7, .load1 (.t 6), none⟩,
 ⟨some 2, .mv (.t 7), none⟩])
 (.ret))
 (.skip)))
 (.seq (.drw [⟨some 8, .fad 0 (.t 1), none⟩,
 ⟨some 9, .load1 (.t 8), none⟩,
 ⟨some 10, .bin .add (.t 9) (.c (.s [58])), none⟩,
 ⟨some 11, .fad 1 (.t 1), none⟩,
 ⟨some 12, .load1 (.t 11), none⟩,
 ⟨some 13, .call 63 [.t 12], none⟩,
 ⟨some 14, .bin .add (.t 10) (.t 13), none⟩,
 ⟨some 2, .mv (.t 14), none⟩] 8 [])
 (.ret)))
theorem is_ref05_Format : FnIs Tryz.prog 78 15 [.tmp 2] c_ref05_Format := ⟨⟨_, _, Tryz.func78, rfl, rfl, by kernel_rfl, by kernel_rfl⟩⟩
def c_ref07_Target : SCode :=
 .seq (.reg [⟨some 1, .box 35 (.t 0), none⟩,
 ⟨some 2, .mv (.c (.s [])), none⟩])
 (.seq (.seq (.reg [⟨some 3, .fad 5 (.t 1), none⟩,
 ⟨some 4, .load1 (.t 3), none⟩])
 (.cond (.t 4)
 (.seq (.reg [⟨some 5, .fad 2 (.t 1), none⟩,
 ⟨some 6, .load1 (.t 5), none⟩,
 ⟨some 7, .bin .add (.t 6) (.c (.s [63])), none⟩,
 ⟨some 8, .fad 3 (.t 1), none⟩,
 ⟨some 9, .load1 (.t 8), none⟩,
 ⟨some 10, .bin .add (.t 7) (.t 9), none⟩,
 ⟨some 2, .mv (.t 10), none⟩])
 (.ret))
 (.skip)))
 (.seq (.reg [⟨some 11, .fad 2 (.t 1), none⟩,
 ⟨some 12, .load1 (.t 11), none⟩,
 ⟨some 2, .mv (.t 12), none⟩])
 (.ret)))
theorem is_ref07_Target : FnIs Tryz.prog 79 13 [.tmp 2] c_ref07_Target := ⟨⟨_, _, Tryz.func79, rfl, rfl, by kernel_rfl, by kernel_rfl⟩⟩
def c_did_isMethod : SCode :=
 .seq (.reg [⟨some 2, .mv (.c (.b false)), none⟩])
 (.seq (.seq (.reg [⟨some 4, .mv (.t 0), none⟩,
 ⟨some 5, .lens (.t 4), none⟩,
 ⟨some 6, .mv (.c (.i .i64 0)), none⟩])
 (.blk 0
 (.loop
 (.seq (.reg [⟨some 7, .bin .lss (.t 6) (.t 5), none⟩])
 (.seq (.cond (.t 7)
 (.skip)
 (.exit 0))
 (.seq (.blk 1
 (.seq (.reg [⟨some 8, .mv (.t 6), none⟩,
 ⟨some 3, .mv (.t 8), none⟩])
 (.seq (.reg [⟨some 9, .mv (.t 0), none⟩,
 ⟨some 10, .mv (.t 3), none⟩,
 ⟨some 11, .idx (.t 9) (.t 10), none⟩,
 ⟨some 12, .call 117 [.t 11], none⟩,
 ⟨some 13, .not (.t 12), none⟩,
 ⟨some 14, .mv (.t 13), none⟩,
 ⟨some 15, .mv (.t 0), some (14, true)⟩,
 ⟨some 16, .mv (.t 3), some (14, true)⟩,
 ⟨some 17, .idx (.t 15) (.t 16), some (14, true)⟩,
 ⟨some 18, .bin .lss (.t 17) (.c (.i .u8 97)), some (14, true)⟩,
 ⟨some 19, .mv (.t 18), some (14, true)⟩,
 ⟨some 20, .mv (.t 0), some (19, false)⟩,
 ⟨some 21, .mv (.t 3), some (19, false)⟩,
 ⟨some 22, .idx (.t 20) (.t 21), some (19, false)⟩,
 ⟨some 23, .bin .gtr (.t 22) (.c (.i .u8 122)), some (19, false)⟩,
 ⟨some 24, .pick (.t 19) (.c (.b true)) (.t 23), some (14, true)⟩,
 ⟨some 25, .pick (.t 14) (.t 24) (.c (.b false)), none⟩])
 (.cond (.t 25)
 (.seq (.reg [⟨some 2, .mv (.c (.b false)), none⟩])
 (.ret))
 (.skip)))))
 (.reg [⟨some 26, .bin .add (.t 6) (.c (.i .i64 1)), none⟩,
 ⟨some 6, .mv (.t 26), none⟩])))))))
 (.seq (.reg [⟨some 27, .mv (.t 0), none⟩,
 ⟨some 28, .bin .neq (.t 27) (.c (.s [])), none⟩,
 ⟨some 2, .mv (.t 28), none⟩])
 (.ret)))
theorem is_did_isMethod : FnIs Tryz.prog 86 29 [.tmp 2] c_did_isMethod := ⟨⟨_, _, Tryz.func86, rfl, rfl, by kernel_rfl, by kernel_rfl⟩⟩
def c_did_parseID : SCode :=
 .seq (.reg [⟨some 2, .mv (.c (.s [])), none⟩,
 ⟨some 3, .mv (.c (.i .i64 0)), none⟩])
 (.seq (.seq (.reg [⟨some 10, .mv (.t 0), none⟩,
 ⟨some 11, .call 45 [.t 10], none⟩,
 ⟨some 9, .mv (.t 11), none⟩,
 ⟨some 12, .ext (.t 9) 0, none⟩,
 ⟨some 13, .ext (.t 9) 1, none⟩,
 ⟨some 4, .mv (.t 12), none⟩,
 ⟨some 5, .mv (.t 13), none⟩])
 (.seq (.reg [⟨some 14, .mv (.t 5), none⟩,
 ⟨some 15, .bin .neq (.t 14) (.c (.i .i64 0)), none⟩])
 (.cond (.t 15)
 (.seq (.reg [⟨some 16, .mv (.t 5), none⟩,
 ⟨some 2, .mv (.c (.s [])), none⟩,
 ⟨some 3, .mv (.t 16), none⟩])
 (.ret))
 (.skip))))
 (.seq (.seq (.reg [⟨some 17, .mv (.t 0), none⟩,
 ⟨some 18, .lens (.t 17), none⟩,
 ⟨some 19, .mv (.c (.i .i64 0)), none⟩])
 (.blk 0
 (.loop
 (.seq (.reg [⟨some 20, .bin .lss (.t 19) (.t 18), none⟩])
 (.seq (.cond (.t 20)
 (.skip)
 (.exit 0))
 (.seq (.blk 1
 (.seq (.reg [⟨some 21, .mv (.t 19), none⟩,
 ⟨some 6, .mv (.t 21), none⟩])
 (.seq (.reg [⟨some 22, .mv (.t 0), none⟩,
 ⟨some 23, .mv (.t 6), none⟩,
 ⟨some 24, .idx (.t 22) (.t 23), none⟩,
 ⟨some 25, .bin .neq (.t 24) (.c (.i .u8 37)), none⟩,
 ⟨some 26, .mv (.t 25), none⟩,
 ⟨some 27, .mv (.t 0), some (26, true)⟩,
 ⟨some 28, .mv (.t 6), some (26, true)⟩,
 ⟨some 29, .idx (.t 27) (.t 28), some (26, true)⟩,
 ⟨some 30, .call 118 [.t 29], some (26, true)⟩,
 ⟨some 31, .not (.t 30), some (26, true)⟩,
 ⟨some 32, .pick (.t 26) (.t 31) (.c (.b false)), none⟩])
 (.cond (.t 32)
 (.seq (.reg [⟨some 2, .mv (.c (.s [])), none⟩,
 ⟨some 3, .mv (.c (.i .i64 1)), none⟩])
 (.ret))
 (.skip)))))
 (.reg [⟨some 33, .bin .add (.t 19) (.c (.i .i64 1)), none⟩,
 ⟨some 19, .mv (.t 33), none⟩])))))))
 (.seq (.seq (.reg [⟨some 34, .mv (.t 0), none⟩,
 ⟨some 35, .bin .eql (.t 34) (.c (.s [])), none⟩,
 ⟨some 36, .mv (.t 35), none⟩,
 ⟨some 37, .mv (.t 0), some (36, false)⟩,
 ⟨some 38, .mv (.t 0), some (36, false)⟩,
 ⟨some 39, .lens (.t 38), some (36, false)⟩,
 ⟨some 40, .bin .sub (.t 39) (.c (.i .i64 1)), some (36, false)⟩,
 ⟨some 41, .idx (.t 37) (.t 40), some (36, false)⟩,
 ⟨some 42, .bin .eql (.t 41) (.c (.i .u8 58)), some (36, false)⟩,
 ⟨some 43, .pick (.t 36) (.c (.b true)) (.t 42), none⟩])
 (.cond (.t 43)
 (.seq (.reg [⟨some 2, .mv (.c (.s [])), none⟩,
 ⟨some 3, .mv (.c (.i .i64 3)), none⟩])
 (.ret))
 (.skip)))
 (.seq (.reg [⟨some 45, .mv (.t 0), none⟩,
 ⟨some 46, .call 104 [.t 45, .c (.s [46, 45, 95, 58])], none⟩,
 ⟨some 44, .mv (.t 46), none⟩,
 ⟨some 47, .ext (.t 44) 0, none⟩,
 ⟨some 48, .ext (.t 44) 1, none⟩,
 ⟨some 7, .mv (.t 47), none⟩,
 ⟨some 8, .mv (.t 48), none⟩])
 (.seq (.seq (.reg [⟨some 49, .mv (.t 8), none⟩,
 ⟨some 50, .bin .neq (.t 49) (.c (.i .i64 0)), none⟩])
 (.cond (.t 50)
 (.seq (.reg [⟨some 51, .mv (.t 8), none⟩,
 ⟨some 2, .mv (.c (.s [])), none⟩,
 ⟨some 3, .mv (.t 51), none⟩])
 (.ret))
 (.skip)))
 (.seq (.reg [⟨some 52, .mv (.t 7), none⟩,
 ⟨some 53, .call 105 [.t 52, .c (.s [126]), .c (.s [37, 55, 69])], none⟩,
 ⟨some 2, .mv (.t 53), none⟩,
 ⟨some 3, .mv (.c (.i .i64 0)), none⟩])
 (.ret)))))))
theorem is_did_parseID : FnIs Tryz.prog 87 54 [.tmp 2, .tmp 3] c_did_parseID := ⟨⟨_, _, Tryz.func87, rfl, rfl, by kernel_rfl, by kernel_rfl⟩⟩
def c_strings_Builder_WriteString : SCode :=
 .seq (.reg [⟨some 4, .mv (.c (.i .i64 0)), none⟩,
 ⟨some 5, .mv (.c (.o .nilIface)), none⟩])
 (.seq (.reg [⟨some 6, .mv (.t 0), none⟩,
 ⟨some 7, .call 128 [.t 6], none⟩])
 (.seq (.reg [⟨some 8, .mv (.t 0), none⟩,
 ⟨some 9, .mv (.t 0), none⟩,
 ⟨some 10, .nck (.t 9), none⟩,
 ⟨some 11, .fad 1 (.t 10), none⟩,
 ⟨some 12, .load1 (.t 11), none⟩,
 ⟨some 13, .mv (.t 1), none⟩,
 ⟨some 14, .apps 5 (.t 12) (.t 13), none⟩,
 ⟨some 15, .nck (.t 8), none⟩,
 ⟨some 16, .fad 1 (.t 15), none⟩,
 ⟨none, .store 1 (.t 16) (.t 14), none⟩])
 (.seq (.reg [⟨some 17, .mv (.t 1), none⟩,
 ⟨some 18, .lens (.t 17), none⟩,
 ⟨some 4, .mv (.t 18), none⟩,
 ⟨some 5, .mv (.c (.o .nilIface)), none⟩])
 (.ret))))
theorem is_strings_Builder_WriteString : FnIs Tryz.prog 94 19 [.tmp 4, .tmp 5] c_strings_Builder_WriteString := ⟨⟨_, _, Tryz.func94, rfl, rfl, by kernel_rfl, by kernel_rfl⟩⟩
def c_host_Format : SCode :=
 .seq (.reg [⟨some 1, .box 31 (.t 0), none⟩,
 ⟨some 2, .mv (.c (.s [])), none⟩])
 (.seq (.seq (.reg [⟨some 3, .fad 1 (.t 1), none⟩,
 ⟨some 4, .load1 (.t 3), none⟩,
 ⟨some 5, .bin .eql (.t 4) (.c (.i .i64 0)), none⟩])
 (.cond (.t 5)
 (.seq (.reg [⟨some 6, .fad 0 (.t 1), none⟩,
 ⟨some 7, .load1 (.t 6), none⟩,
 ⟨some 2, .mv (.t 7), none⟩])
 (.ret))
 (.skip)))
 (.seq (.drw [⟨some 8, .fad 0 (.t 1), none⟩,
 ⟨some 9, .load1 (.t 8), none⟩,
 ⟨some 10, .bin .add (.t 9) (.c (.s [58])), none⟩,
 ⟨some 11, .fad 1 (.t 1), none⟩,
 ⟨some 12, .load1 (.t 11), none⟩,
 ⟨some 13, .call 103 [.t 12], none⟩,
 ⟨some 14, .bin .add (.t 10) (.t 13), none⟩,
 ⟨some 2, .mv (.t 14), none⟩] 8 [])
 (.ret)))
theorem is_host_Format : FnIs Tryz.prog 96 15 [.tmp 2] c_host_Format := ⟨⟨_, _, Tryz.func96, rfl, rfl, by kernel_rfl, by kernel_rfl⟩⟩
def c_weburl_Target : SCode :=
 .seq (.reg [⟨some 1, .box 35 (.t 0), none⟩,
 ⟨some 2, .mv (.c (.s [])), none⟩])
 (.seq (.seq (.reg [⟨some 3, .fad 5 (.t 1), none⟩,
 ⟨some 4, .load1 (.t 3), none⟩,
 ⟨some 5, .not (.t 4), none⟩])
 (.cond (.t 5)
 (.seq (.reg [⟨some 6, .fad 2 (.t 1), none⟩,
 ⟨some 7, .load1 (.t 6), none⟩,
 ⟨some 2, .mv (.t 7), none⟩])
 (.ret))
 (.skip)))
 (.seq (.reg [⟨some 8, .fad 2 (.t 1), none⟩,
 ⟨some 9, .load1 (.t 8), none⟩,
 ⟨some 10, .bin .add (.t 9) (.c (.s [63])), none⟩,
 ⟨some 11, .fad 3 (.t 1), none⟩,
 ⟨some 12, .load1 (.t 11), none⟩,
 ⟨some 13, .bin .add (.t 10) (.t 12), none⟩,
 ⟨some 2, .mv (.t 13), none⟩])
 (.ret)))
theorem is_weburl_Target : FnIs Tryz.prog 97 14 [.tmp 2] c_weburl_Target := ⟨⟨_, _, Tryz.func97, rfl, rfl, by kernel_rfl, by kernel_rfl⟩⟩
def c_weburl_Parse : SCode :=
 .seq (.reg [⟨some 2, .alloc 35 [.s [], .i .i64 0, .s [], .s [], .s [], .b false, .b false], none⟩,
 ⟨some 3, .mv (.c (.i .i64 0)), none⟩])
 (.seq (.seq (.reg [⟨some 8, .mv (.t 0), none⟩,
 ⟨some 9, .lens (.t 8), none⟩,
 ⟨some 10, .bin .gtr (.t 9) (.c (.i .i64 4096)), none⟩])
 (.cond (.t 10)
 (.seq (.reg [⟨some 11, .build [.s [], .i .i64 0, .s [], .s [], .s [], .b false, .b false] [], none⟩,
 ⟨none, .store 7 (.t 2) (.t 11), none⟩,
 ⟨some 3, .mv (.c (.i .i64 5)), none⟩])
 (.ret))
 (.skip)))
 (.seq (.reg [⟨some 13, .mv (.t 0), none⟩,
 ⟨some 14, .call 133 [.t 13], none⟩,
 ⟨some 12, .mv (.t 14), none⟩,
 ⟨some 15, .ext (.t 12) 0, none⟩,
 ⟨some 16, .ext (.t 12) 1, none⟩,
 ⟨some 4, .alloc 82 [.s [], .s [], .s [], .s [], .s [], .b false, .b false, .b false, .b false], none⟩,
 ⟨none, .store 9 (.t 4) (.t 15), none⟩,
 ⟨some 5, .mv (.t 16), none⟩])
 (.seq (.seq (.reg [⟨some 17, .mv (.t 5), none⟩,
 ⟨some 18, .bin .neq (.t 17) (.c (.i .i64 0)), none⟩])
 (.cond (.t 18)
 (.seq (.reg [⟨some 19, .build [.s [], .i .i64 0, .s [], .s [], .s [], .b false, .b false] [], none⟩,
 ⟨some 20, .mv (.t 5), none⟩,
 ⟨none, .store 7 (.t 2) (.t 19), none⟩,
 ⟨some 3, .mv (.t 20), none⟩])
 (.ret))
 (.skip)))
 (.seq (.reg [⟨some 22, .loadn 9 (.t 4), none⟩,
 ⟨some 23, .call 134 [.t 22], none⟩,
 ⟨some 21, .mv (.t 23), none⟩,
 ⟨some 24, .ext (.t 21) 0, none⟩,
 ⟨some 25, .ext (.t 21) 1, none⟩,
 ⟨some 6, .alloc 31 [.s [], .i .i64 0], none⟩,
 ⟨none, .store 2 (.t 6) (.t 24), none⟩,
 ⟨some 5, .mv (.t 25), none⟩])
 (.seq (.seq (.reg [⟨some 26, .mv (.t 5), none⟩,
 ⟨some 27, .bin .neq (.t 26) (.c (.i .i64 0)), none⟩])
 (.cond (.t 27)
 (.seq (.reg [⟨some 28, .build [.s [], .i .i64 0, .s [], .s [], .s [], .b false, .b false] [], none⟩,
 ⟨some 29, .mv (.t 5), none⟩,
 ⟨none, .store 7 (.t 2) (.t 28), none⟩,
 ⟨some 3, .mv (.t 29), none⟩])
 (.ret))
 (.skip)))
 (.seq (.reg [⟨some 31, .loadn 9 (.t 4), none⟩,
 ⟨some 32, .call 135 [.t 31], none⟩,
 ⟨some 30, .mv (.t 32), none⟩,
 ⟨some 33, .ext (.t 30) 0, none⟩,
 ⟨some 34, .ext (.t 30) 1, none⟩,
 ⟨some 7, .alloc 35 [.s [], .i .i64 0, .s [], .s [], .s [], .b false, .b false], none⟩,
 ⟨none, .store 7 (.t 7) (.t 33), none⟩,
 ⟨some 5, .mv (.t 34), none⟩])
 (.seq (.seq (.reg [⟨some 35, .mv (.t 5), none⟩,
 ⟨some 36, .bin .neq (.t 35) (.c (.i .i64 0)), none⟩])
 (.cond (.t 36)
 (.seq (.reg [⟨some 37, .build [.s [], .i .i64 0, .s [], .s [], .s [], .b false, .b false] [], none⟩,
 ⟨some 38, .mv (.t 5), none⟩,
 ⟨none, .store 7 (.t 2) (.t 37), none⟩,
 ⟨some 3, .mv (.t 38), none⟩])
 (.ret))
 (.skip)))
 (.seq (.drw [⟨some 39, .fad 0 (.t 6), none⟩,
 ⟨some 40, .load1 (.t 39), none⟩,
 ⟨some 41, .fad 1 (.t 6), none⟩,
 ⟨some 42, .load1 (.t 41), none⟩,
 ⟨some 43, .fad 0 (.t 7), none⟩,
 ⟨none, .store 1 (.t 43) (.t 40), none⟩,
 ⟨some 44, .fad 1 (.t 7), none⟩,
 ⟨none, .store 1 (.t 44) (.t 42), none⟩] 8 [(41, 43)])
 (.seq (.seq (.reg [⟨some 45, .loadn 7 (.t 7), none⟩,
 ⟨some 46, .call 52 [.t 45], none⟩,
 ⟨some 47, .lens (.t 46), none⟩,
 ⟨some 48, .bin .gtr (.t 47) (.c (.i .i64 4096)), none⟩])
 (.cond (.t 48)
 (.seq (.reg [⟨some 49, .build [.s [], .i .i64 0, .s [], .s [], .s [], .b false, .b false] [], none⟩,
 ⟨none, .store 7 (.t 2) (.t 49), none⟩,
 ⟨some 3, .mv (.c (.i .i64 5)), none⟩])
 (.ret))
 (.skip)))
 (.seq (.reg [⟨some 50, .loadn 7 (.t 7), none⟩,
 ⟨none, .store 7 (.t 2) (.t 50), none⟩,
 ⟨some 3, .mv (.c (.i .i64 0)), none⟩])
 (.ret)))))))))))
theorem is_weburl_Parse : FnIs Tryz.prog 102 51 [.celln 2 7, .tmp 3] c_weburl_Parse := ⟨⟨_, _, Tryz.func102, rfl, rfl, by kernel_rfl, by kernel_rfl⟩⟩
def c_did_isIDByte : SCode :=
 .seq (.reg [⟨some 2, .mv (.c (.b false)), none⟩])
 (.seq (.reg [⟨some 3, .mv (.t 0), none⟩,
 ⟨some 4, .call 147 [.t 3], none⟩,
 ⟨some 5, .mv (.t 4), none⟩,
 ⟨some 6, .mv (.t 0), some (5, false)⟩,
 ⟨some 7, .call 117 [.t 6], some (5, false)⟩,
 ⟨some 8, .pick (.t 5) (.c (.b true)) (.t 7), none⟩,
 ⟨some 9, .mv (.t 8), none⟩,
 ⟨some 10, .mv (.t 0), some (9, false)⟩,
 ⟨some 11, .call 148 [.c (.s [46, 45, 95, 58]), .t 10], some (9, false)⟩,
 ⟨some 12, .bin .geq (.t 11) (.c (.i .i64 0)), some (9, false)⟩,
 ⟨some 13, .pick (.t 9) (.c (.b true)) (.t 12), none⟩,
 ⟨some 2, .mv (.t 13), none⟩])
 (.ret))
theorem is_did_isIDByte : FnIs Tryz.prog 118 14 [.tmp 2] c_did_isIDByte := ⟨⟨_, _, Tryz.func118, rfl, rfl, by kernel_rfl, by kernel_rfl⟩⟩
def c_weburl_parseOrigin : SCode :=
 .seq (.reg [⟨some 1, .box 82 (.t 0), none⟩,
 ⟨some 2, .alloc 31 [.s [], .i .i64 0], none⟩,
 ⟨some 3, .mv (.c (.i .i64 0)), none⟩])
 (.seq (.blk 0
 (.seq (.reg [⟨some 5, .fad 5 (.t 1), none⟩,
 ⟨some 6, .load1 (.t 5), none⟩,
 ⟨some 7, .not (.t 6), none⟩,
 ⟨some 8, .mv (.t 7), none⟩,
 ⟨some 9, .fad 0 (.t 1), some (8, false)⟩,
 ⟨some 10, .load1 (.t 9), some (8, false)⟩,
 ⟨some 11, .call 140 [.t 10, .c (.s [104, 116, 116, 112, 115])], some (8, false)⟩,
 ⟨some 12, .not (.t 11), some (8, false)⟩,
 ⟨some 13, .pick (.t 8) (.c (.b true)) (.t 12), none⟩,
 ⟨some 4, .mv (.t 13), none⟩])
 (.cond (.t 4)
 (.seq (.reg [⟨some 14, .build [.s [], .i .i64 0] [], none⟩,
 ⟨none, .store 2 (.t 2) (.t 14), none⟩,
 ⟨some 3, .mv (.c (.i .i64 60)), none⟩])
 (.ret))
 (.seq (.reg [⟨some 16, .fad 6 (.t 1), none⟩,
 ⟨some 17, .load1 (.t 16), none⟩,
 ⟨some 18, .not (.t 17), none⟩,
 ⟨some 15, .mv (.t 18), none⟩])
 (.cond (.t 15)
 (.seq (.reg [⟨some 19, .build [.s [], .i .i64 0] [], none⟩,
 ⟨none, .store 2 (.t 2) (.t 19), none⟩,
 ⟨some 3, .mv (.c (.i .i64 71)), none⟩])
 (.ret))
 (.seq (.reg [⟨some 21, .fad 1 (.t 1), none⟩,
 ⟨some 22, .load1 (.t 21), none⟩,
 ⟨some 23, .call 169 [.t 22, .c (.s [64])], none⟩,
 ⟨some 20, .mv (.t 23), none⟩])
 (.cond (.t 20)
 (.seq (.reg [⟨some 24, .build [.s [], .i .i64 0] [], none⟩,
 ⟨none, .store 2 (.t 2) (.t 24), none⟩,
 ⟨some 3, .mv (.c (.i .i64 70)), none⟩])
 (.ret))
 (.skip))))))))
 (.seq (.reg [⟨some 25, .fad 1 (.t 1), none⟩,
 ⟨some 26, .load1 (.t 25), none⟩,
 ⟨some 27, .call 46 [.t 26], none⟩,
 ⟨some 28, .ext (.t 27) 0, none⟩,
 ⟨some 29, .ext (.t 27) 1, none⟩,
 ⟨none, .store 2 (.t 2) (.t 28), none⟩,
 ⟨some 3, .mv (.t 29), none⟩])
 (.ret)))
theorem is_weburl_parseOrigin : FnIs Tryz.prog 134 30 [.celln 2 2, .tmp 3] c_weburl_parseOrigin := ⟨⟨_, _, Tryz.func134, rfl, rfl, by kernel_rfl, by kernel_rfl⟩⟩
def c_weburl_parseRest : SCode :=
 .seq (.reg [⟨some 1, .box 82 (.t 0), none⟩,
 ⟨some 2, .alloc 35 [.s [], .i .i64 0, .s [], .s [], .s [], .b false, .b false], none⟩,
 ⟨some 3, .mv (.c (.i .i64 0)), none⟩])
 (.seq (.reg [⟨some 9, .fad 2 (.t 1), none⟩,
 ⟨some 10, .load1 (.t 9), none⟩,
 ⟨some 11, .call 104 [.t 10, .c (.s [33, 36, 38, 39, 40, 41, 42, 43, 44, 59, 61, 58, 64, 47])], none⟩,
 ⟨some 8, .mv (.t 11), none⟩,
 ⟨some 12, .ext (.t 8) 0, none⟩,
 ⟨some 13, .ext (.t 8) 1, none⟩,
 ⟨some 4, .mv (.t 12), none⟩,
 ⟨some 5, .mv (.t 13), none⟩])
 (.seq (.seq (.reg [⟨some 14, .mv (.t 5), none⟩,
 ⟨some 15, .bin .neq (.t 14) (.c (.i .i64 0)), none⟩])
 (.cond (.t 15)
 (.seq (.reg [⟨some 16, .build [.s [], .i .i64 0, .s [], .s [], .s [], .b false, .b false] [], none⟩,
 ⟨some 17, .mv (.t 5), none⟩,
 ⟨none, .store 7 (.t 2) (.t 16), none⟩,
 ⟨some 3, .mv (.t 17), none⟩])
 (.ret))
 (.skip)))
 (.seq (.seq (.reg [⟨some 18, .mv (.t 4), none⟩,
 ⟨some 19, .call 170 [.t 18], none⟩,
 ⟨some 4, .mv (.t 19), none⟩])
 (.seq (.reg [⟨some 20, .mv (.t 4), none⟩,
 ⟨some 21, .bin .eql (.t 20) (.c (.s [])), none⟩])
 (.cond (.t 21)
 (.reg [⟨some 4, .mv (.c (.s [47])), none⟩])
 (.skip))))
 (.seq (.reg [⟨some 23, .fad 3 (.t 1), none⟩,
 ⟨some 24, .load1 (.t 23), none⟩,
 ⟨some 25, .call 104 [.t 24, .c (.s [33, 36, 38, 39, 40, 41, 42, 43, 44, 59, 61, 58, 64, 47, 63])], none⟩,
 ⟨some 22, .mv (.t 25), none⟩,
 ⟨some 26, .ext (.t 22) 0, none⟩,
 ⟨some 27, .ext (.t 22) 1, none⟩,
 ⟨some 6, .mv (.t 26), none⟩,
 ⟨some 5, .mv (.t 27), none⟩])
 (.seq (.seq (.reg [⟨some 28, .mv (.t 5), none⟩,
 ⟨some 29, .bin .neq (.t 28) (.c (.i .i64 0)), none⟩])
 (.cond (.t 29)
 (.seq (.reg [⟨some 30, .build [.s [], .i .i64 0, .s [], .s [], .s [], .b false, .b false] [], none⟩,
 ⟨some 31, .mv (.t 5), none⟩,
 ⟨none, .store 7 (.t 2) (.t 30), none⟩,
 ⟨some 3, .mv (.t 31), none⟩])
 (.ret))
 (.skip)))
 (.seq (.reg [⟨some 33, .fad 4 (.t 1), none⟩,
 ⟨some 34, .load1 (.t 33), none⟩,
 ⟨some 35, .call 104 [.t 34, .c (.s [33, 36, 38, 39, 40, 41, 42, 43, 44, 59, 61, 58, 64, 47, 63])], none⟩,
 ⟨some 32, .mv (.t 35), none⟩,
 ⟨some 36, .ext (.t 32) 0, none⟩,
 ⟨some 37, .ext (.t 32) 1, none⟩,
 ⟨some 7, .mv (.t 36), none⟩,
 ⟨some 5, .mv (.t 37), none⟩])
 (.seq (.seq (.reg [⟨some 38, .mv (.t 5), none⟩,
 ⟨some 39, .bin .neq (.t 38) (.c (.i .i64 0)), none⟩])
 (.cond (.t 39)
 (.seq (.reg [⟨some 40, .build [.s [], .i .i64 0, .s [], .s [], .s [], .b false, .b false] [], none⟩,
 ⟨some 41, .mv (.t 5), none⟩,
 ⟨none, .store 7 (.t 2) (.t 40), none⟩,
 ⟨some 3, .mv (.t 41), none⟩])
 (.ret))
 (.skip)))
 (.seq (.reg [⟨some 42, .mv (.t 4), none⟩,
 ⟨some 43, .mv (.t 6), none⟩,
 ⟨some 44, .fad 7 (.t 1), none⟩,
 ⟨some 45, .load1 (.t 44), none⟩,
 ⟨some 46, .mv (.t 7), none⟩,
 ⟨some 47, .fad 8 (.t 1), none⟩,
 ⟨some 48, .load1 (.t 47), none⟩,
 ⟨some 49, .build [.s [], .i .i64 0, .s [], .s [], .s [], .b false, .b false] [(2, (1, .t 42)), (3, (1, .t 43)), (5, (1, .t 45)), (4, (1, .t 46)), (6, (1, .t 48))], none⟩,
 ⟨none, .store 7 (.t 2) (.t 49), none⟩,
 ⟨some 3, .mv (.c (.i .i64 0)), none⟩])
 (.ret)))))))))
theorem is_weburl_parseRest : FnIs Tryz.prog 135 50 [.celln 2 7, .tmp 3] c_weburl_parseRest := ⟨⟨_, _, Tryz.func135, rfl, rfl, by kernel_rfl, by kernel_rfl⟩⟩
end Go.Proofs.YtjkdiojicmcbaaaGreatDoor.Sx
namespace Go.Proofs.YtjkdiojicmcbaaaGreatDoor.Sx
open Go.RowKit
set_option maxRecDepth 100000
end Go.Proofs.YtjkdiojicmcbaaaGreatDoor.Sx
namespace Go.Proofs.YtjkdiojicmcbaaaGreatDoor
open List renaming replicate → z6
open Nat renaming reduceAdd → z7, reduceSub → z8, reduceLeDiff → q9, reduceLT → j6, reduceMul → j7, reduceEqDiff → j8
open Int renaming reduceToNat → j9, reduceAdd → x0, reduceSub → x3, reduceMul → x4, reduceNeg → x5, reduceLT → x6, reduceLE → x7, reduceEq → x8, reduceNe → x9
open Go.RowKit Sx
theorem idxS_cons (x : UInt8) (t set : List UInt8) : idxS (x :: t) set = if hasB x set = true then 0 else idxS t set + 1 := by
 unfold idxS
 rw [List.findIdx_cons]
 cases hasB x set <;> rfl
theorem cut_idx (c : UInt8) : ∀ l : List UInt8, (idxS l [c] < l.length → cutL c l = (l.take (idxS l [c]), l.drop (idxS l [c] + 1), true)) ∧ (¬ idxS l [c] < l.length → cutL c l = (l, [], false))
 | [] => ⟨fun h => absurd h (by simp), fun _ => rfl⟩
 | x :: t => by
  have ih := cut_idx c t
  rw [idxS_cons, cutL_cons]
  by_cases hx : x = c
  ·subst hx
   have : hasB x [x] = true := by simp [hasB]
   rw [if_pos this, if_pos rfl]
   exact ⟨fun _ => by simp, fun h => absurd (by simp) h⟩
  ·have : ¬ hasB x [c] = true := by simp [hasB, hx]
   rw [if_neg this, if_neg hx]
   refine ⟨fun h => ?_, fun h => ?_⟩
   ·rw [ih.1 (by simp at h; omega)]; simp
   ·rw [ih.2 (by simp at h ⊢; omega)]
theorem first_cons (x : UInt8) (t : List UInt8) : firstL (x :: t) = if x = 47 then [] else x :: firstL t := by
 unfold firstL
 rw [cutL_cons]
 split <;> rfl
theorem sch_idx : ∀ l : List UInt8, (∀ h : idxS l [58, 47] < l.length, l[idxS l [58, 47]] = 58 → (cutL 58 (firstL l)).1 = l.take (idxS l [58, 47]) ∧ (cutL 58 (firstL l)).1.length = idxS l [58, 47] ∧ (cutL 58 (firstL l)).2.2 = true) ∧
  ((∀ h : idxS l [58, 47] < l.length, l[idxS l [58, 47]] ≠ 58) → (cutL 58 (firstL l)).2.2 = false)
 | [] => ⟨fun h => absurd h (by simp), fun _ => rfl⟩
 | x :: t => by
  have ih := sch_idx t
  rw [first_cons]
  by_cases h47 : x = 47
  ·subst h47
   have e : idxS (47 :: t) [58, 47] = 0 := by rw [idxS_cons, if_pos (by decide)]
   rw [if_pos rfl]
   refine ⟨fun h he => ?_, fun _ => rfl⟩
   simp only [e] at he
   exact absurd he (by simp)
  ·rw [if_neg h47, cutL_cons]
   by_cases h58 : x = 58
   ·subst h58
    have e : idxS (58 :: t) [58, 47] = 0 := by rw [idxS_cons, if_pos (by decide)]
    rw [if_pos rfl]
    refine ⟨fun h he => by simp [e], fun h => ?_⟩
    exact absurd (by simp [e]) (h (by simp [e]))
   ·have e : idxS (x :: t) [58, 47] = idxS t [58, 47] + 1 := by rw [idxS_cons, if_neg (by simp [hasB, h47, h58])]
    rw [if_neg h58]
    simp only [e]
    refine ⟨fun h he => ?_, fun h => ?_⟩
    ·obtain ⟨h1, h2, h3⟩ := ih.1 (by simp at h; omega) (by simpa using he)
     exact ⟨by simp [h1], by simp [h2], h3⟩
    ·exact ih.2 (fun h' => by have := h (by simp; omega); simpa using this)
theorem auth_cut (R : List UInt8) : (R.take (2 + (((firstL (R.drop 2)).length : Nat) : Int)).toNat).drop 2 = firstL (R.drop 2) := by
 have hfe := (firstL_pre (R.drop 2)).1
 rw [show (2 + (((firstL (R.drop 2)).length : Nat) : Int)).toNat = 2 + (firstL (R.drop 2)).length by omega, ← List.take_drop, ← hfe]
theorem auth_rest (R : List UInt8) : R.drop (2 + (((firstL (R.drop 2)).length : Nat) : Int)).toNat = (R.drop 2).drop (firstL (R.drop 2)).length := by
 rw [show (2 + (((firstL (R.drop 2)).length : Nat) : Int)).toNat = 2 + (firstL (R.drop 2)).length by omega, List.drop_drop]
def splitF (l2 fr qu : List UInt8) (bf bq : Bool) : Int × UriP :=
 if ((cutL 58 (firstL l2)).2.2 && !schemeB (cutL 58 (firstL l2)).1) = true then (6, uriZ)
 else
  let r := if (cutL 58 (firstL l2)).2.2 = true then l2.drop ((cutL 58 (firstL l2)).1.length + 1) else l2
  (0, { scheme := if (cutL 58 (firstL l2)).2.2 = true then (cutL 58 (firstL l2)).1 else [], auth := authL r, path := pathL r, query := qu, frag := fr, hs := (cutL 58 (firstL l2)).2.2, ha := twoSl r, hq := bq, hf := bf })
theorem splitE_form {s l1 l2 fr qu : List UInt8} {bf bq : Bool} (h : ¬ 16384 < s.length) (e1 : cutL 35 s = (l1, fr, bf)) (e2 : cutL 63 l1 = (l2, qu, bq)) : splitE s = splitF l2 fr qu bf bq := by
 unfold splitE splitF hierL schCut bodyL
 rw [if_neg h, e1]
 simp only [e2]
section
variable [Tabs Tryz.prog] {objs : List OB} {K : List OB → AV → Prop}
set_option maxRecDepth 100000 in
set_option maxHeartbeats 4000000 in
theorem ruSplit_k (s : List UInt8) (hs : s.length ≤ 140737488351232) (hk : K objs (.tup [uriAV (splitE s).2, .i .i64 (splitE s).1])) : CallOk Tryz.prog 54 [.s s] objs K := by
 refine fn_rn is_ref06_Split rfl fun C _ => ?_
 by_cases hbig : (16384 : Int) < ↑s.length
 ·unfold splitE at hk
  rw [if_pos (by omega)] at hk
  simp only [c_ref06_Split, hbig, sxZ, evs, evp, setd, SV.ev, AV.flat, AV.one, AV.cells, resAs, resA, tupA, pub, pubs, AV.plain, plains, srcOf, splice, fillA, eqA, eqAs, z6, z7, z8, q9, j6, j7, j8, j9, x0, x3, x4, x5, x6, x7, x8, x9, reduceCtorEq, ↓reduceIte]
  exact hk
 ·have hm : maxLen = 2 ^ 63 - 1 := rfl
  simp only [c_ref06_Split, hbig, sxZ, evs, evp, setd, SV.ev, AV.flat, AV.one, AV.cells, resAs, resA, tupA, pub, pubs, AV.plain, plains, srcOf, splice, fillA, eqA, eqAs, z6, z7, z8, q9, j6, j7, j8, j9, x0, x3, x4, x5, x6, x7, x8, x9, reduceCtorEq, ↓reduceIte]
  refine kcall (rIndex_k s [35] (by omega) (by simp; omega) ?_)
  have hsf : ∀ {l1 l2 fr qu : List UInt8} {bf bq : Bool}, cutL 35 s = (l1, fr, bf) → cutL 63 l1 = (l2, qu, bq) → K objs (.tup [uriAV (splitF l2 fr qu bf bq).2, .i .i64 (splitF l2 fr qu bf bq).1]) := by
   intro l1 l2 fr qu bf bq e1 e2
   rw [splitE_form (by omega) e1 e2] at hk
   exact hk
  clear hk
  have c35 := cut_idx 35 s
  by_cases h35 : (↑(idxS s [35]) : Int) < ↑s.length
  all_goals simp only [h35, sxZ, evs, evp, setd, SV.ev, AV.flat, AV.one, AV.cells, resAs, resA, tupA, pub, pubs, AV.plain, plains, srcOf, splice, fillA, eqA, eqAs, z6, z7, z8, q9, j6, j7, j8, j9, x0, x3, x4, x5, x6, x7, x8, x9, reduceCtorEq, ↓reduceIte]
  ·refine ⟨⟨by omega, by omega⟩, ⟨by omega, by omega, by omega⟩, ⟨by omega, by omega⟩, ?_⟩
   have e35 := c35.1 (by omega)
   have hl1 : (s.take (idxS s [35])).length ≤ s.length := by rw [List.length_take]; omega
   clear c35
   generalize s.take (idxS s [35]) = l1 at *
   generalize s.drop (idxS s [35] + 1) = fr at *
   have hsf2 := fun {l2 qu : List UInt8} {bq : Bool} => hsf (l2 := l2) (qu := qu) (bq := bq) e35
   refine kcall (rIndex_k l1 [63] (by omega) (by simp; omega) ?_)
   have c63 := cut_idx 63 l1
   by_cases h63 : ((idxS l1 [63] : Nat) : Int) < ((l1.length : Nat) : Int)
   all_goals simp only [h63, sxZ, evs, evp, setd, SV.ev, AV.flat, AV.one, AV.cells, resAs, resA, tupA, pub, pubs, AV.plain, plains, srcOf, splice, fillA, eqA, eqAs, z6, z7, z8, q9, j6, j7, j8, j9, x0, x3, x4, x5, x6, x7, x8, x9, reduceCtorEq, ↓reduceIte]
   ·refine ⟨⟨by omega, by omega⟩, ⟨by omega, by omega, by omega⟩, ⟨by omega, by omega⟩, ?_⟩
    have e63 := hsf2 (c63.1 (by omega))
    have hl2 : (l1.take (idxS l1 [63])).length ≤ s.length := by rw [List.length_take]; omega
    clear c63
    generalize l1.take (idxS l1 [63]) = l2 at *
    generalize l1.drop (idxS l1 [63] + 1) = qu at *
    refine kcall (rIndex_k l2 [58, 47] (by omega) (by simp; omega) ?_)
    have sch := sch_idx l2
    by_cases h3 : ((idxS l2 [58, 47] : Nat) : Int) < ((l2.length : Nat) : Int)
    ·have h3n : idxS l2 [58, 47] < l2.length := by omega
     have eg : l2.getD (idxS l2 [58, 47]) 0 = l2[idxS l2 [58, 47]] := by rw [List.getD_eq_getElem?_getD, List.getElem?_eq_getElem h3n]; rfl
     simp only [h3, sxZ, evs, evp, setd, SV.ev, AV.flat, AV.one, AV.cells, resAs, resA, tupA, pub, pubs, AV.plain, plains, srcOf, splice, fillA, eqA, eqAs, z6, z7, z8, q9, j6, j7, j8, j9, x0, x3, x4, x5, x6, x7, x8, x9, reduceCtorEq, ↓reduceIte]
     refine ⟨by omega, ?_⟩
     rw [eg]
     by_cases h58 : l2[idxS l2 [58, 47]] = 58
     ·have e58 : ((l2[idxS l2 [58, 47]].toNat : Nat) : Int) = 58 := by rw [h58]; rfl
      obtain ⟨q1, q2, q3⟩ := sch.1 h3n h58
      simp only [e58, sxZ, evs, evp, setd, SV.ev, AV.flat, AV.one, AV.cells, resAs, resA, tupA, pub, pubs, AV.plain, plains, srcOf, splice, fillA, eqA, eqAs, z6, z7, z8, q9, j6, j7, j8, j9, x0, x3, x4, x5, x6, x7, x8, x9, reduceCtorEq, ↓reduceIte]
      refine ⟨⟨by omega, by omega⟩, ?_⟩
      have htl : (l2.take (idxS l2 [58, 47])).length ≤ l2.length := by rw [List.length_take]; omega
      refine kcall (rscheme_k _ (by omega) ?_)
      by_cases hsc : schemeB (l2.take (idxS l2 [58, 47])) = true
      ·simp only [hsc, sxZ, evs, evp, setd, SV.ev, AV.flat, AV.one, AV.cells, resAs, resA, tupA, pub, pubs, AV.plain, plains, srcOf, splice, fillA, eqA, eqAs, z6, z7, z8, q9, j6, j7, j8, j9, x0, x3, x4, x5, x6, x7, x8, x9, reduceCtorEq, ↓reduceIte]
       refine ⟨⟨by omega, by omega⟩, ⟨by omega, by omega⟩, ⟨by omega, by omega, by omega⟩, ?_⟩
       have hdl : (l2.drop (idxS l2 [58, 47] + 1)).length ≤ l2.length := by rw [List.length_drop]; omega
       have hq5 : min (idxS l2 [58, 47]) l2.length = idxS l2 [58, 47] := by omega
       have q4 : (cutL 58 (firstL l2)).1.length = idxS l2 [58, 47] := q2
       refine kcall (rPrefix_k (l2.drop (idxS l2 [58, 47] + 1)) [47, 47] (by first | omega | (simp; omega)) ?_)
       by_cases h2s : Lib.hasPrefix (l2.drop (idxS l2 [58, 47] + 1)) [47, 47] = true
       ·have t2 := twoSl_len h2s
        have hfl := (firstL_pre ((l2.drop (idxS l2 [58, 47] + 1)).drop 2)).2
        have hix : idxS ((l2.drop (idxS l2 [58, 47] + 1)).drop 2) [47] = (firstL ((l2.drop (idxS l2 [58, 47] + 1)).drop 2)).length := idxS_one 47 _
        have hd2 : ((l2.drop (idxS l2 [58, 47] + 1)).drop 2).length = (l2.drop (idxS l2 [58, 47] + 1)).length - 2 := List.length_drop ..
        simp only [h2s, sxZ, evs, evp, setd, SV.ev, AV.flat, AV.one, AV.cells, resAs, resA, tupA, pub, pubs, AV.plain, plains, srcOf, splice, fillA, eqA, eqAs, z6, z7, z8, q9, j6, j7, j8, j9, x0, x3, x4, x5, x6, x7, x8, x9, reduceCtorEq, ↓reduceIte]
        refine ⟨?_, ?_⟩
        ·first | omega | exact ⟨by omega, by omega⟩ | exact ⟨by omega, by omega, by omega⟩
        refine kcall (rIndex_k _ [47] (by omega) (by simp; omega) ?_)
        rw [hix]
        simp only [sxZ, evs, evp, setd, SV.ev, AV.flat, AV.one, AV.cells, resAs, resA, tupA, pub, pubs, AV.plain, plains, srcOf, splice, fillA, eqA, eqAs, z6, z7, z8, q9, j6, j7, j8, j9, x0, x3, x4, x5, x6, x7, x8, x9, reduceCtorEq, ↓reduceIte]
        have h2t : twoSl (l2.drop (idxS l2 [58, 47] + 1)) = true := h2s
        simp only [splitF, q1, q3, hsc, List.length_take, hq5, h2t, authL, pathL, uriAV, sxZ, evs, evp, setd, SV.ev, AV.flat, AV.one, AV.cells, resAs, resA, tupA, pub, pubs, AV.plain, plains, srcOf, splice, fillA, eqA, eqAs, z6, z7, z8, q9, j6, j7, j8, j9, x0, x3, x4, x5, x6, x7, x8, x9, reduceCtorEq, ↓reduceIte] at e63
        rw [auth_cut, auth_rest]
        refine ⟨?_, ?_, ?_, e63⟩
        ·first | omega | exact ⟨by omega, by omega⟩ | exact ⟨by omega, by omega, by omega⟩
        ·first | omega | exact ⟨by omega, by omega⟩ | exact ⟨by omega, by omega, by omega⟩
        ·first | omega | exact ⟨by omega, by omega⟩ | exact ⟨by omega, by omega, by omega⟩
       ·have h2t : ¬ twoSl (l2.drop (idxS l2 [58, 47] + 1)) = true := h2s
        simp only [h2s, sxZ, evs, evp, setd, SV.ev, AV.flat, AV.one, AV.cells, resAs, resA, tupA, pub, pubs, AV.plain, plains, srcOf, splice, fillA, eqA, eqAs, z6, z7, z8, q9, j6, j7, j8, j9, x0, x3, x4, x5, x6, x7, x8, x9, reduceCtorEq, ↓reduceIte]
        simp only [splitF, q1, q3, hsc, List.length_take, hq5, h2t, authL, pathL, uriAV, sxZ, evs, evp, setd, SV.ev, AV.flat, AV.one, AV.cells, resAs, resA, tupA, pub, pubs, AV.plain, plains, srcOf, splice, fillA, eqA, eqAs, z6, z7, z8, q9, j6, j7, j8, j9, x0, x3, x4, x5, x6, x7, x8, x9, reduceCtorEq, ↓reduceIte] at e63
        exact e63
      ·simp only [hsc, sxZ, evs, evp, setd, SV.ev, AV.flat, AV.one, AV.cells, resAs, resA, tupA, pub, pubs, AV.plain, plains, srcOf, splice, fillA, eqA, eqAs, z6, z7, z8, q9, j6, j7, j8, j9, x0, x3, x4, x5, x6, x7, x8, x9, reduceCtorEq, ↓reduceIte]
       simp only [splitF, q1, q3, hsc, uriZ, uriAV, sxZ, evs, evp, setd, SV.ev, AV.flat, AV.one, AV.cells, resAs, resA, tupA, pub, pubs, AV.plain, plains, srcOf, splice, fillA, eqA, eqAs, z6, z7, z8, q9, j6, j7, j8, j9, x0, x3, x4, x5, x6, x7, x8, x9, reduceCtorEq, ↓reduceIte] at e63
       exact e63
     ·have e58 : ¬ ((l2[idxS l2 [58, 47]].toNat : Nat) : Int) = 58 := fun e => h58 (UInt8.toNat_inj.1 (by have : (58 : UInt8).toNat = 58 := rfl; omega))
      have q3 := sch.2 (fun _ => h58)
      simp only [e58, sxZ, evs, evp, setd, SV.ev, AV.flat, AV.one, AV.cells, resAs, resA, tupA, pub, pubs, AV.plain, plains, srcOf, splice, fillA, eqA, eqAs, z6, z7, z8, q9, j6, j7, j8, j9, x0, x3, x4, x5, x6, x7, x8, x9, reduceCtorEq, ↓reduceIte]
      refine kcall (rPrefix_k (l2) [47, 47] (by first | omega | (simp; omega)) ?_)
      by_cases h2s : Lib.hasPrefix (l2) [47, 47] = true
      ·have t2 := twoSl_len h2s
       have hfl := (firstL_pre ((l2).drop 2)).2
       have hix : idxS ((l2).drop 2) [47] = (firstL ((l2).drop 2)).length := idxS_one 47 _
       have hd2 : ((l2).drop 2).length = (l2).length - 2 := List.length_drop ..
       simp only [h2s, sxZ, evs, evp, setd, SV.ev, AV.flat, AV.one, AV.cells, resAs, resA, tupA, pub, pubs, AV.plain, plains, srcOf, splice, fillA, eqA, eqAs, z6, z7, z8, q9, j6, j7, j8, j9, x0, x3, x4, x5, x6, x7, x8, x9, reduceCtorEq, ↓reduceIte]
       refine ⟨?_, ?_⟩
       ·first | omega | exact ⟨by omega, by omega⟩ | exact ⟨by omega, by omega, by omega⟩
       refine kcall (rIndex_k _ [47] (by omega) (by simp; omega) ?_)
       rw [hix]
       simp only [sxZ, evs, evp, setd, SV.ev, AV.flat, AV.one, AV.cells, resAs, resA, tupA, pub, pubs, AV.plain, plains, srcOf, splice, fillA, eqA, eqAs, z6, z7, z8, q9, j6, j7, j8, j9, x0, x3, x4, x5, x6, x7, x8, x9, reduceCtorEq, ↓reduceIte]
       have h2t : twoSl (l2) = true := h2s
       simp only [splitF, q3, h2t, authL, pathL, uriAV, sxZ, evs, evp, setd, SV.ev, AV.flat, AV.one, AV.cells, resAs, resA, tupA, pub, pubs, AV.plain, plains, srcOf, splice, fillA, eqA, eqAs, z6, z7, z8, q9, j6, j7, j8, j9, x0, x3, x4, x5, x6, x7, x8, x9, reduceCtorEq, ↓reduceIte] at e63
       rw [auth_cut, auth_rest]
       refine ⟨?_, ?_, ?_, e63⟩
       ·first | omega | exact ⟨by omega, by omega⟩ | exact ⟨by omega, by omega, by omega⟩
       ·first | omega | exact ⟨by omega, by omega⟩ | exact ⟨by omega, by omega, by omega⟩
       ·first | omega | exact ⟨by omega, by omega⟩ | exact ⟨by omega, by omega, by omega⟩
      ·have h2t : ¬ twoSl (l2) = true := h2s
       simp only [h2s, sxZ, evs, evp, setd, SV.ev, AV.flat, AV.one, AV.cells, resAs, resA, tupA, pub, pubs, AV.plain, plains, srcOf, splice, fillA, eqA, eqAs, z6, z7, z8, q9, j6, j7, j8, j9, x0, x3, x4, x5, x6, x7, x8, x9, reduceCtorEq, ↓reduceIte]
       simp only [splitF, q3, h2t, authL, pathL, uriAV, sxZ, evs, evp, setd, SV.ev, AV.flat, AV.one, AV.cells, resAs, resA, tupA, pub, pubs, AV.plain, plains, srcOf, splice, fillA, eqA, eqAs, z6, z7, z8, q9, j6, j7, j8, j9, x0, x3, x4, x5, x6, x7, x8, x9, reduceCtorEq, ↓reduceIte] at e63
       exact e63
    ·have q3 := sch.2 (fun h => absurd h (by omega))
     simp only [h3, sxZ, evs, evp, setd, SV.ev, AV.flat, AV.one, AV.cells, resAs, resA, tupA, pub, pubs, AV.plain, plains, srcOf, splice, fillA, eqA, eqAs, z6, z7, z8, q9, j6, j7, j8, j9, x0, x3, x4, x5, x6, x7, x8, x9, reduceCtorEq, ↓reduceIte]
     refine kcall (rPrefix_k (l2) [47, 47] (by first | omega | (simp; omega)) ?_)
     by_cases h2s : Lib.hasPrefix (l2) [47, 47] = true
     ·have t2 := twoSl_len h2s
      have hfl := (firstL_pre ((l2).drop 2)).2
      have hix : idxS ((l2).drop 2) [47] = (firstL ((l2).drop 2)).length := idxS_one 47 _
      have hd2 : ((l2).drop 2).length = (l2).length - 2 := List.length_drop ..
      simp only [h2s, sxZ, evs, evp, setd, SV.ev, AV.flat, AV.one, AV.cells, resAs, resA, tupA, pub, pubs, AV.plain, plains, srcOf, splice, fillA, eqA, eqAs, z6, z7, z8, q9, j6, j7, j8, j9, x0, x3, x4, x5, x6, x7, x8, x9, reduceCtorEq, ↓reduceIte]
      refine ⟨?_, ?_⟩
      ·first | omega | exact ⟨by omega, by omega⟩ | exact ⟨by omega, by omega, by omega⟩
      refine kcall (rIndex_k _ [47] (by omega) (by simp; omega) ?_)
      rw [hix]
      simp only [sxZ, evs, evp, setd, SV.ev, AV.flat, AV.one, AV.cells, resAs, resA, tupA, pub, pubs, AV.plain, plains, srcOf, splice, fillA, eqA, eqAs, z6, z7, z8, q9, j6, j7, j8, j9, x0, x3, x4, x5, x6, x7, x8, x9, reduceCtorEq, ↓reduceIte]
      have h2t : twoSl (l2) = true := h2s
      simp only [splitF, q3, h2t, authL, pathL, uriAV, sxZ, evs, evp, setd, SV.ev, AV.flat, AV.one, AV.cells, resAs, resA, tupA, pub, pubs, AV.plain, plains, srcOf, splice, fillA, eqA, eqAs, z6, z7, z8, q9, j6, j7, j8, j9, x0, x3, x4, x5, x6, x7, x8, x9, reduceCtorEq, ↓reduceIte] at e63
      rw [auth_cut, auth_rest]
      refine ⟨?_, ?_, ?_, e63⟩
      ·first | omega | exact ⟨by omega, by omega⟩ | exact ⟨by omega, by omega, by omega⟩
      ·first | omega | exact ⟨by omega, by omega⟩ | exact ⟨by omega, by omega, by omega⟩
      ·first | omega | exact ⟨by omega, by omega⟩ | exact ⟨by omega, by omega, by omega⟩
     ·have h2t : ¬ twoSl (l2) = true := h2s
      simp only [h2s, sxZ, evs, evp, setd, SV.ev, AV.flat, AV.one, AV.cells, resAs, resA, tupA, pub, pubs, AV.plain, plains, srcOf, splice, fillA, eqA, eqAs, z6, z7, z8, q9, j6, j7, j8, j9, x0, x3, x4, x5, x6, x7, x8, x9, reduceCtorEq, ↓reduceIte]
      simp only [splitF, q3, h2t, authL, pathL, uriAV, sxZ, evs, evp, setd, SV.ev, AV.flat, AV.one, AV.cells, resAs, resA, tupA, pub, pubs, AV.plain, plains, srcOf, splice, fillA, eqA, eqAs, z6, z7, z8, q9, j6, j7, j8, j9, x0, x3, x4, x5, x6, x7, x8, x9, reduceCtorEq, ↓reduceIte] at e63
      exact e63
   ·have e63 := hsf2 (c63.2 (by omega))
    refine kcall (rIndex_k l1 [58, 47] (by omega) (by simp; omega) ?_)
    have sch := sch_idx l1
    by_cases h3 : ((idxS l1 [58, 47] : Nat) : Int) < ((l1.length : Nat) : Int)
    ·have h3n : idxS l1 [58, 47] < l1.length := by omega
     have eg : l1.getD (idxS l1 [58, 47]) 0 = l1[idxS l1 [58, 47]] := by rw [List.getD_eq_getElem?_getD, List.getElem?_eq_getElem h3n]; rfl
     simp only [h3, sxZ, evs, evp, setd, SV.ev, AV.flat, AV.one, AV.cells, resAs, resA, tupA, pub, pubs, AV.plain, plains, srcOf, splice, fillA, eqA, eqAs, z6, z7, z8, q9, j6, j7, j8, j9, x0, x3, x4, x5, x6, x7, x8, x9, reduceCtorEq, ↓reduceIte]
     refine ⟨by omega, ?_⟩
     rw [eg]
     by_cases h58 : l1[idxS l1 [58, 47]] = 58
     ·have e58 : ((l1[idxS l1 [58, 47]].toNat : Nat) : Int) = 58 := by rw [h58]; rfl
      obtain ⟨q1, q2, q3⟩ := sch.1 h3n h58
      simp only [e58, sxZ, evs, evp, setd, SV.ev, AV.flat, AV.one, AV.cells, resAs, resA, tupA, pub, pubs, AV.plain, plains, srcOf, splice, fillA, eqA, eqAs, z6, z7, z8, q9, j6, j7, j8, j9, x0, x3, x4, x5, x6, x7, x8, x9, reduceCtorEq, ↓reduceIte]
      refine ⟨⟨by omega, by omega⟩, ?_⟩
      have htl : (l1.take (idxS l1 [58, 47])).length ≤ l1.length := by rw [List.length_take]; omega
      refine kcall (rscheme_k _ (by omega) ?_)
      by_cases hsc : schemeB (l1.take (idxS l1 [58, 47])) = true
      ·simp only [hsc, sxZ, evs, evp, setd, SV.ev, AV.flat, AV.one, AV.cells, resAs, resA, tupA, pub, pubs, AV.plain, plains, srcOf, splice, fillA, eqA, eqAs, z6, z7, z8, q9, j6, j7, j8, j9, x0, x3, x4, x5, x6, x7, x8, x9, reduceCtorEq, ↓reduceIte]
       refine ⟨⟨by omega, by omega⟩, ⟨by omega, by omega⟩, ⟨by omega, by omega, by omega⟩, ?_⟩
       have hdl : (l1.drop (idxS l1 [58, 47] + 1)).length ≤ l1.length := by rw [List.length_drop]; omega
       have hq5 : min (idxS l1 [58, 47]) l1.length = idxS l1 [58, 47] := by omega
       have q4 : (cutL 58 (firstL l1)).1.length = idxS l1 [58, 47] := q2
       refine kcall (rPrefix_k (l1.drop (idxS l1 [58, 47] + 1)) [47, 47] (by first | omega | (simp; omega)) ?_)
       by_cases h2s : Lib.hasPrefix (l1.drop (idxS l1 [58, 47] + 1)) [47, 47] = true
       ·have t2 := twoSl_len h2s
        have hfl := (firstL_pre ((l1.drop (idxS l1 [58, 47] + 1)).drop 2)).2
        have hix : idxS ((l1.drop (idxS l1 [58, 47] + 1)).drop 2) [47] = (firstL ((l1.drop (idxS l1 [58, 47] + 1)).drop 2)).length := idxS_one 47 _
        have hd2 : ((l1.drop (idxS l1 [58, 47] + 1)).drop 2).length = (l1.drop (idxS l1 [58, 47] + 1)).length - 2 := List.length_drop ..
        simp only [h2s, sxZ, evs, evp, setd, SV.ev, AV.flat, AV.one, AV.cells, resAs, resA, tupA, pub, pubs, AV.plain, plains, srcOf, splice, fillA, eqA, eqAs, z6, z7, z8, q9, j6, j7, j8, j9, x0, x3, x4, x5, x6, x7, x8, x9, reduceCtorEq, ↓reduceIte]
        refine ⟨?_, ?_⟩
        ·first | omega | exact ⟨by omega, by omega⟩ | exact ⟨by omega, by omega, by omega⟩
        refine kcall (rIndex_k _ [47] (by omega) (by simp; omega) ?_)
        rw [hix]
        simp only [sxZ, evs, evp, setd, SV.ev, AV.flat, AV.one, AV.cells, resAs, resA, tupA, pub, pubs, AV.plain, plains, srcOf, splice, fillA, eqA, eqAs, z6, z7, z8, q9, j6, j7, j8, j9, x0, x3, x4, x5, x6, x7, x8, x9, reduceCtorEq, ↓reduceIte]
        have h2t : twoSl (l1.drop (idxS l1 [58, 47] + 1)) = true := h2s
        simp only [splitF, q1, q3, hsc, List.length_take, hq5, h2t, authL, pathL, uriAV, sxZ, evs, evp, setd, SV.ev, AV.flat, AV.one, AV.cells, resAs, resA, tupA, pub, pubs, AV.plain, plains, srcOf, splice, fillA, eqA, eqAs, z6, z7, z8, q9, j6, j7, j8, j9, x0, x3, x4, x5, x6, x7, x8, x9, reduceCtorEq, ↓reduceIte] at e63
        rw [auth_cut, auth_rest]
        refine ⟨?_, ?_, ?_, e63⟩
        ·first | omega | exact ⟨by omega, by omega⟩ | exact ⟨by omega, by omega, by omega⟩
        ·first | omega | exact ⟨by omega, by omega⟩ | exact ⟨by omega, by omega, by omega⟩
        ·first | omega | exact ⟨by omega, by omega⟩ | exact ⟨by omega, by omega, by omega⟩
       ·have h2t : ¬ twoSl (l1.drop (idxS l1 [58, 47] + 1)) = true := h2s
        simp only [h2s, sxZ, evs, evp, setd, SV.ev, AV.flat, AV.one, AV.cells, resAs, resA, tupA, pub, pubs, AV.plain, plains, srcOf, splice, fillA, eqA, eqAs, z6, z7, z8, q9, j6, j7, j8, j9, x0, x3, x4, x5, x6, x7, x8, x9, reduceCtorEq, ↓reduceIte]
        simp only [splitF, q1, q3, hsc, List.length_take, hq5, h2t, authL, pathL, uriAV, sxZ, evs, evp, setd, SV.ev, AV.flat, AV.one, AV.cells, resAs, resA, tupA, pub, pubs, AV.plain, plains, srcOf, splice, fillA, eqA, eqAs, z6, z7, z8, q9, j6, j7, j8, j9, x0, x3, x4, x5, x6, x7, x8, x9, reduceCtorEq, ↓reduceIte] at e63
        exact e63
      ·simp only [hsc, sxZ, evs, evp, setd, SV.ev, AV.flat, AV.one, AV.cells, resAs, resA, tupA, pub, pubs, AV.plain, plains, srcOf, splice, fillA, eqA, eqAs, z6, z7, z8, q9, j6, j7, j8, j9, x0, x3, x4, x5, x6, x7, x8, x9, reduceCtorEq, ↓reduceIte]
       simp only [splitF, q1, q3, hsc, uriZ, uriAV, sxZ, evs, evp, setd, SV.ev, AV.flat, AV.one, AV.cells, resAs, resA, tupA, pub, pubs, AV.plain, plains, srcOf, splice, fillA, eqA, eqAs, z6, z7, z8, q9, j6, j7, j8, j9, x0, x3, x4, x5, x6, x7, x8, x9, reduceCtorEq, ↓reduceIte] at e63
       exact e63
     ·have e58 : ¬ ((l1[idxS l1 [58, 47]].toNat : Nat) : Int) = 58 := fun e => h58 (UInt8.toNat_inj.1 (by have : (58 : UInt8).toNat = 58 := rfl; omega))
      have q3 := sch.2 (fun _ => h58)
      simp only [e58, sxZ, evs, evp, setd, SV.ev, AV.flat, AV.one, AV.cells, resAs, resA, tupA, pub, pubs, AV.plain, plains, srcOf, splice, fillA, eqA, eqAs, z6, z7, z8, q9, j6, j7, j8, j9, x0, x3, x4, x5, x6, x7, x8, x9, reduceCtorEq, ↓reduceIte]
      refine kcall (rPrefix_k (l1) [47, 47] (by first | omega | (simp; omega)) ?_)
      by_cases h2s : Lib.hasPrefix (l1) [47, 47] = true
      ·have t2 := twoSl_len h2s
       have hfl := (firstL_pre ((l1).drop 2)).2
       have hix : idxS ((l1).drop 2) [47] = (firstL ((l1).drop 2)).length := idxS_one 47 _
       have hd2 : ((l1).drop 2).length = (l1).length - 2 := List.length_drop ..
       simp only [h2s, sxZ, evs, evp, setd, SV.ev, AV.flat, AV.one, AV.cells, resAs, resA, tupA, pub, pubs, AV.plain, plains, srcOf, splice, fillA, eqA, eqAs, z6, z7, z8, q9, j6, j7, j8, j9, x0, x3, x4, x5, x6, x7, x8, x9, reduceCtorEq, ↓reduceIte]
       refine ⟨?_, ?_⟩
       ·first | omega | exact ⟨by omega, by omega⟩ | exact ⟨by omega, by omega, by omega⟩
       refine kcall (rIndex_k _ [47] (by omega) (by simp; omega) ?_)
       rw [hix]
       simp only [sxZ, evs, evp, setd, SV.ev, AV.flat, AV.one, AV.cells, resAs, resA, tupA, pub, pubs, AV.plain, plains, srcOf, splice, fillA, eqA, eqAs, z6, z7, z8, q9, j6, j7, j8, j9, x0, x3, x4, x5, x6, x7, x8, x9, reduceCtorEq, ↓reduceIte]
       have h2t : twoSl (l1) = true := h2s
       simp only [splitF, q3, h2t, authL, pathL, uriAV, sxZ, evs, evp, setd, SV.ev, AV.flat, AV.one, AV.cells, resAs, resA, tupA, pub, pubs, AV.plain, plains, srcOf, splice, fillA, eqA, eqAs, z6, z7, z8, q9, j6, j7, j8, j9, x0, x3, x4, x5, x6, x7, x8, x9, reduceCtorEq, ↓reduceIte] at e63
       rw [auth_cut, auth_rest]
       refine ⟨?_, ?_, ?_, e63⟩
       ·first | omega | exact ⟨by omega, by omega⟩ | exact ⟨by omega, by omega, by omega⟩
       ·first | omega | exact ⟨by omega, by omega⟩ | exact ⟨by omega, by omega, by omega⟩
       ·first | omega | exact ⟨by omega, by omega⟩ | exact ⟨by omega, by omega, by omega⟩
      ·have h2t : ¬ twoSl (l1) = true := h2s
       simp only [h2s, sxZ, evs, evp, setd, SV.ev, AV.flat, AV.one, AV.cells, resAs, resA, tupA, pub, pubs, AV.plain, plains, srcOf, splice, fillA, eqA, eqAs, z6, z7, z8, q9, j6, j7, j8, j9, x0, x3, x4, x5, x6, x7, x8, x9, reduceCtorEq, ↓reduceIte]
       simp only [splitF, q3, h2t, authL, pathL, uriAV, sxZ, evs, evp, setd, SV.ev, AV.flat, AV.one, AV.cells, resAs, resA, tupA, pub, pubs, AV.plain, plains, srcOf, splice, fillA, eqA, eqAs, z6, z7, z8, q9, j6, j7, j8, j9, x0, x3, x4, x5, x6, x7, x8, x9, reduceCtorEq, ↓reduceIte] at e63
       exact e63
    ·have q3 := sch.2 (fun h => absurd h (by omega))
     simp only [h3, sxZ, evs, evp, setd, SV.ev, AV.flat, AV.one, AV.cells, resAs, resA, tupA, pub, pubs, AV.plain, plains, srcOf, splice, fillA, eqA, eqAs, z6, z7, z8, q9, j6, j7, j8, j9, x0, x3, x4, x5, x6, x7, x8, x9, reduceCtorEq, ↓reduceIte]
     refine kcall (rPrefix_k (l1) [47, 47] (by first | omega | (simp; omega)) ?_)
     by_cases h2s : Lib.hasPrefix (l1) [47, 47] = true
     ·have t2 := twoSl_len h2s
      have hfl := (firstL_pre ((l1).drop 2)).2
      have hix : idxS ((l1).drop 2) [47] = (firstL ((l1).drop 2)).length := idxS_one 47 _
      have hd2 : ((l1).drop 2).length = (l1).length - 2 := List.length_drop ..
      simp only [h2s, sxZ, evs, evp, setd, SV.ev, AV.flat, AV.one, AV.cells, resAs, resA, tupA, pub, pubs, AV.plain, plains, srcOf, splice, fillA, eqA, eqAs, z6, z7, z8, q9, j6, j7, j8, j9, x0, x3, x4, x5, x6, x7, x8, x9, reduceCtorEq, ↓reduceIte]
      refine ⟨?_, ?_⟩
      ·first | omega | exact ⟨by omega, by omega⟩ | exact ⟨by omega, by omega, by omega⟩
      refine kcall (rIndex_k _ [47] (by omega) (by simp; omega) ?_)
      rw [hix]
      simp only [sxZ, evs, evp, setd, SV.ev, AV.flat, AV.one, AV.cells, resAs, resA, tupA, pub, pubs, AV.plain, plains, srcOf, splice, fillA, eqA, eqAs, z6, z7, z8, q9, j6, j7, j8, j9, x0, x3, x4, x5, x6, x7, x8, x9, reduceCtorEq, ↓reduceIte]
      have h2t : twoSl (l1) = true := h2s
      simp only [splitF, q3, h2t, authL, pathL, uriAV, sxZ, evs, evp, setd, SV.ev, AV.flat, AV.one, AV.cells, resAs, resA, tupA, pub, pubs, AV.plain, plains, srcOf, splice, fillA, eqA, eqAs, z6, z7, z8, q9, j6, j7, j8, j9, x0, x3, x4, x5, x6, x7, x8, x9, reduceCtorEq, ↓reduceIte] at e63
      rw [auth_cut, auth_rest]
      refine ⟨?_, ?_, ?_, e63⟩
      ·first | omega | exact ⟨by omega, by omega⟩ | exact ⟨by omega, by omega, by omega⟩
      ·first | omega | exact ⟨by omega, by omega⟩ | exact ⟨by omega, by omega, by omega⟩
      ·first | omega | exact ⟨by omega, by omega⟩ | exact ⟨by omega, by omega, by omega⟩
     ·have h2t : ¬ twoSl (l1) = true := h2s
      simp only [h2s, sxZ, evs, evp, setd, SV.ev, AV.flat, AV.one, AV.cells, resAs, resA, tupA, pub, pubs, AV.plain, plains, srcOf, splice, fillA, eqA, eqAs, z6, z7, z8, q9, j6, j7, j8, j9, x0, x3, x4, x5, x6, x7, x8, x9, reduceCtorEq, ↓reduceIte]
      simp only [splitF, q3, h2t, authL, pathL, uriAV, sxZ, evs, evp, setd, SV.ev, AV.flat, AV.one, AV.cells, resAs, resA, tupA, pub, pubs, AV.plain, plains, srcOf, splice, fillA, eqA, eqAs, z6, z7, z8, q9, j6, j7, j8, j9, x0, x3, x4, x5, x6, x7, x8, x9, reduceCtorEq, ↓reduceIte] at e63
      exact e63
  ·have e35 := c35.2 (by omega)
   have hsf2 := fun {l2 qu : List UInt8} {bq : Bool} => hsf (l2 := l2) (qu := qu) (bq := bq) e35
   refine kcall (rIndex_k s [63] (by omega) (by simp; omega) ?_)
   have c63 := cut_idx 63 s
   by_cases h63 : ((idxS s [63] : Nat) : Int) < ((s.length : Nat) : Int)
   all_goals simp only [h63, sxZ, evs, evp, setd, SV.ev, AV.flat, AV.one, AV.cells, resAs, resA, tupA, pub, pubs, AV.plain, plains, srcOf, splice, fillA, eqA, eqAs, z6, z7, z8, q9, j6, j7, j8, j9, x0, x3, x4, x5, x6, x7, x8, x9, reduceCtorEq, ↓reduceIte]
   ·refine ⟨⟨by omega, by omega⟩, ⟨by omega, by omega, by omega⟩, ⟨by omega, by omega⟩, ?_⟩
    have e63 := hsf2 (c63.1 (by omega))
    have hl2 : (s.take (idxS s [63])).length ≤ s.length := by rw [List.length_take]; omega
    clear c63
    generalize s.take (idxS s [63]) = l2 at *
    generalize s.drop (idxS s [63] + 1) = qu at *
    refine kcall (rIndex_k l2 [58, 47] (by omega) (by simp; omega) ?_)
    have sch := sch_idx l2
    by_cases h3 : ((idxS l2 [58, 47] : Nat) : Int) < ((l2.length : Nat) : Int)
    ·have h3n : idxS l2 [58, 47] < l2.length := by omega
     have eg : l2.getD (idxS l2 [58, 47]) 0 = l2[idxS l2 [58, 47]] := by rw [List.getD_eq_getElem?_getD, List.getElem?_eq_getElem h3n]; rfl
     simp only [h3, sxZ, evs, evp, setd, SV.ev, AV.flat, AV.one, AV.cells, resAs, resA, tupA, pub, pubs, AV.plain, plains, srcOf, splice, fillA, eqA, eqAs, z6, z7, z8, q9, j6, j7, j8, j9, x0, x3, x4, x5, x6, x7, x8, x9, reduceCtorEq, ↓reduceIte]
     refine ⟨by omega, ?_⟩
     rw [eg]
     by_cases h58 : l2[idxS l2 [58, 47]] = 58
     ·have e58 : ((l2[idxS l2 [58, 47]].toNat : Nat) : Int) = 58 := by rw [h58]; rfl
      obtain ⟨q1, q2, q3⟩ := sch.1 h3n h58
      simp only [e58, sxZ, evs, evp, setd, SV.ev, AV.flat, AV.one, AV.cells, resAs, resA, tupA, pub, pubs, AV.plain, plains, srcOf, splice, fillA, eqA, eqAs, z6, z7, z8, q9, j6, j7, j8, j9, x0, x3, x4, x5, x6, x7, x8, x9, reduceCtorEq, ↓reduceIte]
      refine ⟨⟨by omega, by omega⟩, ?_⟩
      have htl : (l2.take (idxS l2 [58, 47])).length ≤ l2.length := by rw [List.length_take]; omega
      refine kcall (rscheme_k _ (by omega) ?_)
      by_cases hsc : schemeB (l2.take (idxS l2 [58, 47])) = true
      ·simp only [hsc, sxZ, evs, evp, setd, SV.ev, AV.flat, AV.one, AV.cells, resAs, resA, tupA, pub, pubs, AV.plain, plains, srcOf, splice, fillA, eqA, eqAs, z6, z7, z8, q9, j6, j7, j8, j9, x0, x3, x4, x5, x6, x7, x8, x9, reduceCtorEq, ↓reduceIte]
       refine ⟨⟨by omega, by omega⟩, ⟨by omega, by omega⟩, ⟨by omega, by omega, by omega⟩, ?_⟩
       have hdl : (l2.drop (idxS l2 [58, 47] + 1)).length ≤ l2.length := by rw [List.length_drop]; omega
       have hq5 : min (idxS l2 [58, 47]) l2.length = idxS l2 [58, 47] := by omega
       have q4 : (cutL 58 (firstL l2)).1.length = idxS l2 [58, 47] := q2
       refine kcall (rPrefix_k (l2.drop (idxS l2 [58, 47] + 1)) [47, 47] (by first | omega | (simp; omega)) ?_)
       by_cases h2s : Lib.hasPrefix (l2.drop (idxS l2 [58, 47] + 1)) [47, 47] = true
       ·have t2 := twoSl_len h2s
        have hfl := (firstL_pre ((l2.drop (idxS l2 [58, 47] + 1)).drop 2)).2
        have hix : idxS ((l2.drop (idxS l2 [58, 47] + 1)).drop 2) [47] = (firstL ((l2.drop (idxS l2 [58, 47] + 1)).drop 2)).length := idxS_one 47 _
        have hd2 : ((l2.drop (idxS l2 [58, 47] + 1)).drop 2).length = (l2.drop (idxS l2 [58, 47] + 1)).length - 2 := List.length_drop ..
        simp only [h2s, sxZ, evs, evp, setd, SV.ev, AV.flat, AV.one, AV.cells, resAs, resA, tupA, pub, pubs, AV.plain, plains, srcOf, splice, fillA, eqA, eqAs, z6, z7, z8, q9, j6, j7, j8, j9, x0, x3, x4, x5, x6, x7, x8, x9, reduceCtorEq, ↓reduceIte]
        refine ⟨?_, ?_⟩
        ·first | omega | exact ⟨by omega, by omega⟩ | exact ⟨by omega, by omega, by omega⟩
        refine kcall (rIndex_k _ [47] (by omega) (by simp; omega) ?_)
        rw [hix]
        simp only [sxZ, evs, evp, setd, SV.ev, AV.flat, AV.one, AV.cells, resAs, resA, tupA, pub, pubs, AV.plain, plains, srcOf, splice, fillA, eqA, eqAs, z6, z7, z8, q9, j6, j7, j8, j9, x0, x3, x4, x5, x6, x7, x8, x9, reduceCtorEq, ↓reduceIte]
        have h2t : twoSl (l2.drop (idxS l2 [58, 47] + 1)) = true := h2s
        simp only [splitF, q1, q3, hsc, List.length_take, hq5, h2t, authL, pathL, uriAV, sxZ, evs, evp, setd, SV.ev, AV.flat, AV.one, AV.cells, resAs, resA, tupA, pub, pubs, AV.plain, plains, srcOf, splice, fillA, eqA, eqAs, z6, z7, z8, q9, j6, j7, j8, j9, x0, x3, x4, x5, x6, x7, x8, x9, reduceCtorEq, ↓reduceIte] at e63
        rw [auth_cut, auth_rest]
        refine ⟨?_, ?_, ?_, e63⟩
        ·first | omega | exact ⟨by omega, by omega⟩ | exact ⟨by omega, by omega, by omega⟩
        ·first | omega | exact ⟨by omega, by omega⟩ | exact ⟨by omega, by omega, by omega⟩
        ·first | omega | exact ⟨by omega, by omega⟩ | exact ⟨by omega, by omega, by omega⟩
       ·have h2t : ¬ twoSl (l2.drop (idxS l2 [58, 47] + 1)) = true := h2s
        simp only [h2s, sxZ, evs, evp, setd, SV.ev, AV.flat, AV.one, AV.cells, resAs, resA, tupA, pub, pubs, AV.plain, plains, srcOf, splice, fillA, eqA, eqAs, z6, z7, z8, q9, j6, j7, j8, j9, x0, x3, x4, x5, x6, x7, x8, x9, reduceCtorEq, ↓reduceIte]
        simp only [splitF, q1, q3, hsc, List.length_take, hq5, h2t, authL, pathL, uriAV, sxZ, evs, evp, setd, SV.ev, AV.flat, AV.one, AV.cells, resAs, resA, tupA, pub, pubs, AV.plain, plains, srcOf, splice, fillA, eqA, eqAs, z6, z7, z8, q9, j6, j7, j8, j9, x0, x3, x4, x5, x6, x7, x8, x9, reduceCtorEq, ↓reduceIte] at e63
        exact e63
      ·simp only [hsc, sxZ, evs, evp, setd, SV.ev, AV.flat, AV.one, AV.cells, resAs, resA, tupA, pub, pubs, AV.plain, plains, srcOf, splice, fillA, eqA, eqAs, z6, z7, z8, q9, j6, j7, j8, j9, x0, x3, x4, x5, x6, x7, x8, x9, reduceCtorEq, ↓reduceIte]
       simp only [splitF, q1, q3, hsc, uriZ, uriAV, sxZ, evs, evp, setd, SV.ev, AV.flat, AV.one, AV.cells, resAs, resA, tupA, pub, pubs, AV.plain, plains, srcOf, splice, fillA, eqA, eqAs, z6, z7, z8, q9, j6, j7, j8, j9, x0, x3, x4, x5, x6, x7, x8, x9, reduceCtorEq, ↓reduceIte] at e63
       exact e63
     ·have e58 : ¬ ((l2[idxS l2 [58, 47]].toNat : Nat) : Int) = 58 := fun e => h58 (UInt8.toNat_inj.1 (by have : (58 : UInt8).toNat = 58 := rfl; omega))
      have q3 := sch.2 (fun _ => h58)
      simp only [e58, sxZ, evs, evp, setd, SV.ev, AV.flat, AV.one, AV.cells, resAs, resA, tupA, pub, pubs, AV.plain, plains, srcOf, splice, fillA, eqA, eqAs, z6, z7, z8, q9, j6, j7, j8, j9, x0, x3, x4, x5, x6, x7, x8, x9, reduceCtorEq, ↓reduceIte]
      refine kcall (rPrefix_k (l2) [47, 47] (by first | omega | (simp; omega)) ?_)
      by_cases h2s : Lib.hasPrefix (l2) [47, 47] = true
      ·have t2 := twoSl_len h2s
       have hfl := (firstL_pre ((l2).drop 2)).2
       have hix : idxS ((l2).drop 2) [47] = (firstL ((l2).drop 2)).length := idxS_one 47 _
       have hd2 : ((l2).drop 2).length = (l2).length - 2 := List.length_drop ..
       simp only [h2s, sxZ, evs, evp, setd, SV.ev, AV.flat, AV.one, AV.cells, resAs, resA, tupA, pub, pubs, AV.plain, plains, srcOf, splice, fillA, eqA, eqAs, z6, z7, z8, q9, j6, j7, j8, j9, x0, x3, x4, x5, x6, x7, x8, x9, reduceCtorEq, ↓reduceIte]
       refine ⟨?_, ?_⟩
       ·first | omega | exact ⟨by omega, by omega⟩ | exact ⟨by omega, by omega, by omega⟩
       refine kcall (rIndex_k _ [47] (by omega) (by simp; omega) ?_)
       rw [hix]
       simp only [sxZ, evs, evp, setd, SV.ev, AV.flat, AV.one, AV.cells, resAs, resA, tupA, pub, pubs, AV.plain, plains, srcOf, splice, fillA, eqA, eqAs, z6, z7, z8, q9, j6, j7, j8, j9, x0, x3, x4, x5, x6, x7, x8, x9, reduceCtorEq, ↓reduceIte]
       have h2t : twoSl (l2) = true := h2s
       simp only [splitF, q3, h2t, authL, pathL, uriAV, sxZ, evs, evp, setd, SV.ev, AV.flat, AV.one, AV.cells, resAs, resA, tupA, pub, pubs, AV.plain, plains, srcOf, splice, fillA, eqA, eqAs, z6, z7, z8, q9, j6, j7, j8, j9, x0, x3, x4, x5, x6, x7, x8, x9, reduceCtorEq, ↓reduceIte] at e63
       rw [auth_cut, auth_rest]
       refine ⟨?_, ?_, ?_, e63⟩
       ·first | omega | exact ⟨by omega, by omega⟩ | exact ⟨by omega, by omega, by omega⟩
       ·first | omega | exact ⟨by omega, by omega⟩ | exact ⟨by omega, by omega, by omega⟩
       ·first | omega | exact ⟨by omega, by omega⟩ | exact ⟨by omega, by omega, by omega⟩
      ·have h2t : ¬ twoSl (l2) = true := h2s
       simp only [h2s, sxZ, evs, evp, setd, SV.ev, AV.flat, AV.one, AV.cells, resAs, resA, tupA, pub, pubs, AV.plain, plains, srcOf, splice, fillA, eqA, eqAs, z6, z7, z8, q9, j6, j7, j8, j9, x0, x3, x4, x5, x6, x7, x8, x9, reduceCtorEq, ↓reduceIte]
       simp only [splitF, q3, h2t, authL, pathL, uriAV, sxZ, evs, evp, setd, SV.ev, AV.flat, AV.one, AV.cells, resAs, resA, tupA, pub, pubs, AV.plain, plains, srcOf, splice, fillA, eqA, eqAs, z6, z7, z8, q9, j6, j7, j8, j9, x0, x3, x4, x5, x6, x7, x8, x9, reduceCtorEq, ↓reduceIte] at e63
       exact e63
    ·have q3 := sch.2 (fun h => absurd h (by omega))
     simp only [h3, sxZ, evs, evp, setd, SV.ev, AV.flat, AV.one, AV.cells, resAs, resA, tupA, pub, pubs, AV.plain, plains, srcOf, splice, fillA, eqA, eqAs, z6, z7, z8, q9, j6, j7, j8, j9, x0, x3, x4, x5, x6, x7, x8, x9, reduceCtorEq, ↓reduceIte]
     refine kcall (rPrefix_k (l2) [47, 47] (by first | omega | (simp; omega)) ?_)
     by_cases h2s : Lib.hasPrefix (l2) [47, 47] = true
     ·have t2 := twoSl_len h2s
      have hfl := (firstL_pre ((l2).drop 2)).2
      have hix : idxS ((l2).drop 2) [47] = (firstL ((l2).drop 2)).length := idxS_one 47 _
      have hd2 : ((l2).drop 2).length = (l2).length - 2 := List.length_drop ..
      simp only [h2s, sxZ, evs, evp, setd, SV.ev, AV.flat, AV.one, AV.cells, resAs, resA, tupA, pub, pubs, AV.plain, plains, srcOf, splice, fillA, eqA, eqAs, z6, z7, z8, q9, j6, j7, j8, j9, x0, x3, x4, x5, x6, x7, x8, x9, reduceCtorEq, ↓reduceIte]
      refine ⟨?_, ?_⟩
      ·first | omega | exact ⟨by omega, by omega⟩ | exact ⟨by omega, by omega, by omega⟩
      refine kcall (rIndex_k _ [47] (by omega) (by simp; omega) ?_)
      rw [hix]
      simp only [sxZ, evs, evp, setd, SV.ev, AV.flat, AV.one, AV.cells, resAs, resA, tupA, pub, pubs, AV.plain, plains, srcOf, splice, fillA, eqA, eqAs, z6, z7, z8, q9, j6, j7, j8, j9, x0, x3, x4, x5, x6, x7, x8, x9, reduceCtorEq, ↓reduceIte]
      have h2t : twoSl (l2) = true := h2s
      simp only [splitF, q3, h2t, authL, pathL, uriAV, sxZ, evs, evp, setd, SV.ev, AV.flat, AV.one, AV.cells, resAs, resA, tupA, pub, pubs, AV.plain, plains, srcOf, splice, fillA, eqA, eqAs, z6, z7, z8, q9, j6, j7, j8, j9, x0, x3, x4, x5, x6, x7, x8, x9, reduceCtorEq, ↓reduceIte] at e63
      rw [auth_cut, auth_rest]
      refine ⟨?_, ?_, ?_, e63⟩
      ·first | omega | exact ⟨by omega, by omega⟩ | exact ⟨by omega, by omega, by omega⟩
      ·first | omega | exact ⟨by omega, by omega⟩ | exact ⟨by omega, by omega, by omega⟩
      ·first | omega | exact ⟨by omega, by omega⟩ | exact ⟨by omega, by omega, by omega⟩
     ·have h2t : ¬ twoSl (l2) = true := h2s
      simp only [h2s, sxZ, evs, evp, setd, SV.ev, AV.flat, AV.one, AV.cells, resAs, resA, tupA, pub, pubs, AV.plain, plains, srcOf, splice, fillA, eqA, eqAs, z6, z7, z8, q9, j6, j7, j8, j9, x0, x3, x4, x5, x6, x7, x8, x9, reduceCtorEq, ↓reduceIte]
      simp only [splitF, q3, h2t, authL, pathL, uriAV, sxZ, evs, evp, setd, SV.ev, AV.flat, AV.one, AV.cells, resAs, resA, tupA, pub, pubs, AV.plain, plains, srcOf, splice, fillA, eqA, eqAs, z6, z7, z8, q9, j6, j7, j8, j9, x0, x3, x4, x5, x6, x7, x8, x9, reduceCtorEq, ↓reduceIte] at e63
      exact e63
   ·have e63 := hsf2 (c63.2 (by omega))
    refine kcall (rIndex_k s [58, 47] (by omega) (by simp; omega) ?_)
    have sch := sch_idx s
    by_cases h3 : ((idxS s [58, 47] : Nat) : Int) < ((s.length : Nat) : Int)
    ·have h3n : idxS s [58, 47] < s.length := by omega
     have eg : s.getD (idxS s [58, 47]) 0 = s[idxS s [58, 47]] := by rw [List.getD_eq_getElem?_getD, List.getElem?_eq_getElem h3n]; rfl
     simp only [h3, sxZ, evs, evp, setd, SV.ev, AV.flat, AV.one, AV.cells, resAs, resA, tupA, pub, pubs, AV.plain, plains, srcOf, splice, fillA, eqA, eqAs, z6, z7, z8, q9, j6, j7, j8, j9, x0, x3, x4, x5, x6, x7, x8, x9, reduceCtorEq, ↓reduceIte]
     refine ⟨by omega, ?_⟩
     rw [eg]
     by_cases h58 : s[idxS s [58, 47]] = 58
     ·have e58 : ((s[idxS s [58, 47]].toNat : Nat) : Int) = 58 := by rw [h58]; rfl
      obtain ⟨q1, q2, q3⟩ := sch.1 h3n h58
      simp only [e58, sxZ, evs, evp, setd, SV.ev, AV.flat, AV.one, AV.cells, resAs, resA, tupA, pub, pubs, AV.plain, plains, srcOf, splice, fillA, eqA, eqAs, z6, z7, z8, q9, j6, j7, j8, j9, x0, x3, x4, x5, x6, x7, x8, x9, reduceCtorEq, ↓reduceIte]
      refine ⟨⟨by omega, by omega⟩, ?_⟩
      have htl : (s.take (idxS s [58, 47])).length ≤ s.length := by rw [List.length_take]; omega
      refine kcall (rscheme_k _ (by omega) ?_)
      by_cases hsc : schemeB (s.take (idxS s [58, 47])) = true
      ·simp only [hsc, sxZ, evs, evp, setd, SV.ev, AV.flat, AV.one, AV.cells, resAs, resA, tupA, pub, pubs, AV.plain, plains, srcOf, splice, fillA, eqA, eqAs, z6, z7, z8, q9, j6, j7, j8, j9, x0, x3, x4, x5, x6, x7, x8, x9, reduceCtorEq, ↓reduceIte]
       refine ⟨⟨by omega, by omega⟩, ⟨by omega, by omega⟩, ⟨by omega, by omega, by omega⟩, ?_⟩
       have hdl : (s.drop (idxS s [58, 47] + 1)).length ≤ s.length := by rw [List.length_drop]; omega
       have hq5 : min (idxS s [58, 47]) s.length = idxS s [58, 47] := by omega
       have q4 : (cutL 58 (firstL s)).1.length = idxS s [58, 47] := q2
       refine kcall (rPrefix_k (s.drop (idxS s [58, 47] + 1)) [47, 47] (by first | omega | (simp; omega)) ?_)
       by_cases h2s : Lib.hasPrefix (s.drop (idxS s [58, 47] + 1)) [47, 47] = true
       ·have t2 := twoSl_len h2s
        have hfl := (firstL_pre ((s.drop (idxS s [58, 47] + 1)).drop 2)).2
        have hix : idxS ((s.drop (idxS s [58, 47] + 1)).drop 2) [47] = (firstL ((s.drop (idxS s [58, 47] + 1)).drop 2)).length := idxS_one 47 _
        have hd2 : ((s.drop (idxS s [58, 47] + 1)).drop 2).length = (s.drop (idxS s [58, 47] + 1)).length - 2 := List.length_drop ..
        simp only [h2s, sxZ, evs, evp, setd, SV.ev, AV.flat, AV.one, AV.cells, resAs, resA, tupA, pub, pubs, AV.plain, plains, srcOf, splice, fillA, eqA, eqAs, z6, z7, z8, q9, j6, j7, j8, j9, x0, x3, x4, x5, x6, x7, x8, x9, reduceCtorEq, ↓reduceIte]
        refine ⟨?_, ?_⟩
        ·first | omega | exact ⟨by omega, by omega⟩ | exact ⟨by omega, by omega, by omega⟩
        refine kcall (rIndex_k _ [47] (by omega) (by simp; omega) ?_)
        rw [hix]
        simp only [sxZ, evs, evp, setd, SV.ev, AV.flat, AV.one, AV.cells, resAs, resA, tupA, pub, pubs, AV.plain, plains, srcOf, splice, fillA, eqA, eqAs, z6, z7, z8, q9, j6, j7, j8, j9, x0, x3, x4, x5, x6, x7, x8, x9, reduceCtorEq, ↓reduceIte]
        have h2t : twoSl (s.drop (idxS s [58, 47] + 1)) = true := h2s
        simp only [splitF, q1, q3, hsc, List.length_take, hq5, h2t, authL, pathL, uriAV, sxZ, evs, evp, setd, SV.ev, AV.flat, AV.one, AV.cells, resAs, resA, tupA, pub, pubs, AV.plain, plains, srcOf, splice, fillA, eqA, eqAs, z6, z7, z8, q9, j6, j7, j8, j9, x0, x3, x4, x5, x6, x7, x8, x9, reduceCtorEq, ↓reduceIte] at e63
        rw [auth_cut, auth_rest]
        refine ⟨?_, ?_, ?_, e63⟩
        ·first | omega | exact ⟨by omega, by omega⟩ | exact ⟨by omega, by omega, by omega⟩
        ·first | omega | exact ⟨by omega, by omega⟩ | exact ⟨by omega, by omega, by omega⟩
        ·first | omega | exact ⟨by omega, by omega⟩ | exact ⟨by omega, by omega, by omega⟩
       ·have h2t : ¬ twoSl (s.drop (idxS s [58, 47] + 1)) = true := h2s
        simp only [h2s, sxZ, evs, evp, setd, SV.ev, AV.flat, AV.one, AV.cells, resAs, resA, tupA, pub, pubs, AV.plain, plains, srcOf, splice, fillA, eqA, eqAs, z6, z7, z8, q9, j6, j7, j8, j9, x0, x3, x4, x5, x6, x7, x8, x9, reduceCtorEq, ↓reduceIte]
        simp only [splitF, q1, q3, hsc, List.length_take, hq5, h2t, authL, pathL, uriAV, sxZ, evs, evp, setd, SV.ev, AV.flat, AV.one, AV.cells, resAs, resA, tupA, pub, pubs, AV.plain, plains, srcOf, splice, fillA, eqA, eqAs, z6, z7, z8, q9, j6, j7, j8, j9, x0, x3, x4, x5, x6, x7, x8, x9, reduceCtorEq, ↓reduceIte] at e63
        exact e63
      ·simp only [hsc, sxZ, evs, evp, setd, SV.ev, AV.flat, AV.one, AV.cells, resAs, resA, tupA, pub, pubs, AV.plain, plains, srcOf, splice, fillA, eqA, eqAs, z6, z7, z8, q9, j6, j7, j8, j9, x0, x3, x4, x5, x6, x7, x8, x9, reduceCtorEq, ↓reduceIte]
       simp only [splitF, q1, q3, hsc, uriZ, uriAV, sxZ, evs, evp, setd, SV.ev, AV.flat, AV.one, AV.cells, resAs, resA, tupA, pub, pubs, AV.plain, plains, srcOf, splice, fillA, eqA, eqAs, z6, z7, z8, q9, j6, j7, j8, j9, x0, x3, x4, x5, x6, x7, x8, x9, reduceCtorEq, ↓reduceIte] at e63
       exact e63
     ·have e58 : ¬ ((s[idxS s [58, 47]].toNat : Nat) : Int) = 58 := fun e => h58 (UInt8.toNat_inj.1 (by have : (58 : UInt8).toNat = 58 := rfl; omega))
      have q3 := sch.2 (fun _ => h58)
      simp only [e58, sxZ, evs, evp, setd, SV.ev, AV.flat, AV.one, AV.cells, resAs, resA, tupA, pub, pubs, AV.plain, plains, srcOf, splice, fillA, eqA, eqAs, z6, z7, z8, q9, j6, j7, j8, j9, x0, x3, x4, x5, x6, x7, x8, x9, reduceCtorEq, ↓reduceIte]
      refine kcall (rPrefix_k (s) [47, 47] (by first | omega | (simp; omega)) ?_)
      by_cases h2s : Lib.hasPrefix (s) [47, 47] = true
      ·have t2 := twoSl_len h2s
       have hfl := (firstL_pre ((s).drop 2)).2
       have hix : idxS ((s).drop 2) [47] = (firstL ((s).drop 2)).length := idxS_one 47 _
       have hd2 : ((s).drop 2).length = (s).length - 2 := List.length_drop ..
       simp only [h2s, sxZ, evs, evp, setd, SV.ev, AV.flat, AV.one, AV.cells, resAs, resA, tupA, pub, pubs, AV.plain, plains, srcOf, splice, fillA, eqA, eqAs, z6, z7, z8, q9, j6, j7, j8, j9, x0, x3, x4, x5, x6, x7, x8, x9, reduceCtorEq, ↓reduceIte]
       refine ⟨?_, ?_⟩
       ·first | omega | exact ⟨by omega, by omega⟩ | exact ⟨by omega, by omega, by omega⟩
       refine kcall (rIndex_k _ [47] (by omega) (by simp; omega) ?_)
       rw [hix]
       simp only [sxZ, evs, evp, setd, SV.ev, AV.flat, AV.one, AV.cells, resAs, resA, tupA, pub, pubs, AV.plain, plains, srcOf, splice, fillA, eqA, eqAs, z6, z7, z8, q9, j6, j7, j8, j9, x0, x3, x4, x5, x6, x7, x8, x9, reduceCtorEq, ↓reduceIte]
       have h2t : twoSl (s) = true := h2s
       simp only [splitF, q3, h2t, authL, pathL, uriAV, sxZ, evs, evp, setd, SV.ev, AV.flat, AV.one, AV.cells, resAs, resA, tupA, pub, pubs, AV.plain, plains, srcOf, splice, fillA, eqA, eqAs, z6, z7, z8, q9, j6, j7, j8, j9, x0, x3, x4, x5, x6, x7, x8, x9, reduceCtorEq, ↓reduceIte] at e63
       rw [auth_cut, auth_rest]
       refine ⟨?_, ?_, ?_, e63⟩
       ·first | omega | exact ⟨by omega, by omega⟩ | exact ⟨by omega, by omega, by omega⟩
       ·first | omega | exact ⟨by omega, by omega⟩ | exact ⟨by omega, by omega, by omega⟩
       ·first | omega | exact ⟨by omega, by omega⟩ | exact ⟨by omega, by omega, by omega⟩
      ·have h2t : ¬ twoSl (s) = true := h2s
       simp only [h2s, sxZ, evs, evp, setd, SV.ev, AV.flat, AV.one, AV.cells, resAs, resA, tupA, pub, pubs, AV.plain, plains, srcOf, splice, fillA, eqA, eqAs, z6, z7, z8, q9, j6, j7, j8, j9, x0, x3, x4, x5, x6, x7, x8, x9, reduceCtorEq, ↓reduceIte]
       simp only [splitF, q3, h2t, authL, pathL, uriAV, sxZ, evs, evp, setd, SV.ev, AV.flat, AV.one, AV.cells, resAs, resA, tupA, pub, pubs, AV.plain, plains, srcOf, splice, fillA, eqA, eqAs, z6, z7, z8, q9, j6, j7, j8, j9, x0, x3, x4, x5, x6, x7, x8, x9, reduceCtorEq, ↓reduceIte] at e63
       exact e63
    ·have q3 := sch.2 (fun h => absurd h (by omega))
     simp only [h3, sxZ, evs, evp, setd, SV.ev, AV.flat, AV.one, AV.cells, resAs, resA, tupA, pub, pubs, AV.plain, plains, srcOf, splice, fillA, eqA, eqAs, z6, z7, z8, q9, j6, j7, j8, j9, x0, x3, x4, x5, x6, x7, x8, x9, reduceCtorEq, ↓reduceIte]
     refine kcall (rPrefix_k (s) [47, 47] (by first | omega | (simp; omega)) ?_)
     by_cases h2s : Lib.hasPrefix (s) [47, 47] = true
     ·have t2 := twoSl_len h2s
      have hfl := (firstL_pre ((s).drop 2)).2
      have hix : idxS ((s).drop 2) [47] = (firstL ((s).drop 2)).length := idxS_one 47 _
      have hd2 : ((s).drop 2).length = (s).length - 2 := List.length_drop ..
      simp only [h2s, sxZ, evs, evp, setd, SV.ev, AV.flat, AV.one, AV.cells, resAs, resA, tupA, pub, pubs, AV.plain, plains, srcOf, splice, fillA, eqA, eqAs, z6, z7, z8, q9, j6, j7, j8, j9, x0, x3, x4, x5, x6, x7, x8, x9, reduceCtorEq, ↓reduceIte]
      refine ⟨?_, ?_⟩
      ·first | omega | exact ⟨by omega, by omega⟩ | exact ⟨by omega, by omega, by omega⟩
      refine kcall (rIndex_k _ [47] (by omega) (by simp; omega) ?_)
      rw [hix]
      simp only [sxZ, evs, evp, setd, SV.ev, AV.flat, AV.one, AV.cells, resAs, resA, tupA, pub, pubs, AV.plain, plains, srcOf, splice, fillA, eqA, eqAs, z6, z7, z8, q9, j6, j7, j8, j9, x0, x3, x4, x5, x6, x7, x8, x9, reduceCtorEq, ↓reduceIte]
      have h2t : twoSl (s) = true := h2s
      simp only [splitF, q3, h2t, authL, pathL, uriAV, sxZ, evs, evp, setd, SV.ev, AV.flat, AV.one, AV.cells, resAs, resA, tupA, pub, pubs, AV.plain, plains, srcOf, splice, fillA, eqA, eqAs, z6, z7, z8, q9, j6, j7, j8, j9, x0, x3, x4, x5, x6, x7, x8, x9, reduceCtorEq, ↓reduceIte] at e63
      rw [auth_cut, auth_rest]
      refine ⟨?_, ?_, ?_, e63⟩
      ·first | omega | exact ⟨by omega, by omega⟩ | exact ⟨by omega, by omega, by omega⟩
      ·first | omega | exact ⟨by omega, by omega⟩ | exact ⟨by omega, by omega, by omega⟩
      ·first | omega | exact ⟨by omega, by omega⟩ | exact ⟨by omega, by omega, by omega⟩
     ·have h2t : ¬ twoSl (s) = true := h2s
      simp only [h2s, sxZ, evs, evp, setd, SV.ev, AV.flat, AV.one, AV.cells, resAs, resA, tupA, pub, pubs, AV.plain, plains, srcOf, splice, fillA, eqA, eqAs, z6, z7, z8, q9, j6, j7, j8, j9, x0, x3, x4, x5, x6, x7, x8, x9, reduceCtorEq, ↓reduceIte]
      simp only [splitF, q3, h2t, authL, pathL, uriAV, sxZ, evs, evp, setd, SV.ev, AV.flat, AV.one, AV.cells, resAs, resA, tupA, pub, pubs, AV.plain, plains, srcOf, splice, fillA, eqA, eqAs, z6, z7, z8, q9, j6, j7, j8, j9, x0, x3, x4, x5, x6, x7, x8, x9, reduceCtorEq, ↓reduceIte] at e63
      exact e63
end
end Go.Proofs.YtjkdiojicmcbaaaGreatDoor
namespace Go.Proofs.YtjkdiojicmcbaaaGreatDoor
def dvN (c : UInt8) : Nat := if c.toNat ≤ 57 then c.toNat - 48 else if c.toNat ≤ 70 then c.toNat - 55 else c.toNat - 87
def valU (base most : Nat) : List UInt8 → Nat → Option Nat
 | [], n => some n
 | c :: l, n => if n * base + dvN c ≤ most then valU base most l (n * base + dvN c) else none
def optE : Option Nat → Int × Nat
 | some n => (0, n)
 | none => (4, 0)
def valE (base most : Nat) (l : List UInt8) : Int × Nat := optE (valU base most l 0)
def checkE (p : UInt8 → Bool) (l : List UInt8) : Int := if l = [] then 3 else if l.all p = true then 0 else 1
def numOf (p : UInt8 → Bool) (base most : Nat) (l : List UInt8) : Int × Nat := if checkE p l = 0 then valE base most l else (checkE p l, 0)
def zeroLed : List UInt8 → Bool
 | 48 :: _ :: _ => true
 | _ => false
def strictOf (most : Nat) (l : List UInt8) : Int × Nat := if checkE isDigit l = 0 then (if zeroLed l = true then (6, 0) else valE 10 most l) else (checkE isDigit l, 0)
def numV (r : Int × Nat) : Value := .tuple #[.int .u64 r.2, .int .i64 r.1]
theorem hexC {c : UInt8} (h : isHex c = true) : 48 ≤ c.toNat ∧ c.toNat ≤ 57 ∨ 97 ≤ c.toNat ∧ c.toNat ≤ 102 ∨ 65 ≤ c.toNat ∧ c.toNat ≤ 70 := of_decide_eq_true h
theorem dvN_lt {c : UInt8} (h : isHex c = true) : dvN c < 16 := by have := hexC h; unfold dvN; (repeat' split) <;> omega
theorem dvN_digit {c : UInt8} (h : isDigit c = true) : dvN c = c.toNat - 48 ∧ 48 ≤ c.toNat ∧ c.toNat ≤ 57 := by
 have h2 : 48 ≤ c.toNat ∧ c.toNat ≤ 57 := of_decide_eq_true h
 exact ⟨by unfold dvN; rw [if_pos h2.2], h2⟩
theorem digit_hex {c : UInt8} (h : isDigit c = true) : isHex c = true := by
 have h2 : 48 ≤ c.toNat ∧ c.toNat ≤ 57 := of_decide_eq_true h
 exact decide_eq_true (.inl h2)
theorem all_digit_hex {l : List UInt8} (h : l.all isDigit = true) : l.all isHex = true := by
 rw [List.all_eq_true] at h ⊢
 exact fun c hc => digit_hex (h c hc)
theorem checkE_ok {p : UInt8 → Bool} {l : List UInt8} (h0 : l ≠ []) (h : l.all p = true) : checkE p l = 0 := by unfold checkE; rw [if_neg h0, if_pos h]
theorem checkE_bad {p : UInt8 → Bool} {l : List UInt8} (h0 : l ≠ []) (h : l.all p = false) : checkE p l = 1 := by unfold checkE; rw [if_neg h0, if_neg (by rw [h]; exact Bool.false_ne_true)]
theorem checkE_all {p : UInt8 → Bool} {l : List UInt8} (h : checkE p l = 0) : l ≠ [] ∧ l.all p = true := by
 unfold checkE at h
 by_cases h0 : l = []
 ·rw [if_pos h0] at h; cases h
 ·rw [if_neg h0] at h
  by_cases h1 : l.all p = true
  ·exact ⟨h0, h1⟩
  ·rw [if_neg h1] at h; cases h
theorem checkE_cases (p : UInt8 → Bool) (l : List UInt8) : checkE p l = 0 ∨ checkE p l = 1 ∨ checkE p l = 3 := by
 unfold checkE; repeat' split
 all_goals simp
theorem valU_le (base most : Nat) : ∀ (l : List UInt8) (n m : Nat), n ≤ most → valU base most l n = some m → m ≤ most
 | [], n, m, hn, h => by rw [valU] at h; injection h with h; omega
 | c :: l, n, m, hn, h => by
  rw [valU] at h
  split at h
  ·rename_i h1; exact valU_le base most l _ m h1 h
  ·cases h
theorem valE_le (base most : Nat) (l : List UInt8) : (valE base most l).2 ≤ most := by
 unfold valE
 rcases h : valU base most l 0 with _ | n
 ·exact Nat.zero_le _
 ·exact valU_le base most l 0 n (Nat.zero_le _) h
theorem strictOf_le (most : Nat) (l : List UInt8) : (strictOf most l).2 ≤ most := by
 unfold strictOf; split
 ·split
  ·exact Nat.zero_le _
  ·exact valE_le _ _ _
 ·exact Nat.zero_le _
theorem zeroLed_iff (s : ByteArray) : zeroLed s.data.toList = true ↔ ∃ h : 1 < s.size, s[0] = 48 := by
 by_cases h0 : 0 < s.size
 ·have e := drop_cons s 0 h0
  rw [List.drop_zero] at e
  rw [e]
  by_cases h1 : 1 < s.size
  ·rw [drop_cons s 1 h1]
   constructor
   ·intro h
    refine ⟨h1, ?_⟩
    unfold zeroLed at h
    split at h
    ·rename_i h2; injection h2
    ·cases h
   ·rintro ⟨_, h⟩
    rw [h]; rfl
  ·constructor
   ·intro h
    rw [List.drop_of_length_le (by rw [size_list]; omega)] at h
    unfold zeroLed at h
    split at h
    ·rename_i h2; injection h2 with h2 h3; cases h3
    ·cases h
   ·rintro ⟨h, _⟩; exact absurd h h1
 ·have : s.data.toList = [] := List.eq_nil_of_length_eq_zero (by rw [size_list]; omega)
  rw [this]
  constructor
  ·intro h; cases h
  ·rintro ⟨h, _⟩; omega
end Go.Proofs.YtjkdiojicmcbaaaGreatDoor
namespace Go.Proofs.YtjkdiojicmcbaaaGreatDoor
def lbB (c : UInt8) : Bool := isAlpha c || isDigit c || (c.toNat == 45)
def hyB (c : UInt8) : Bool := c.toNat == 45
def labelB (l : List UInt8) : Bool := !l.isEmpty && decide (l.length ≤ 63) && !((l.head?.map hyB).getD false) && !((l.getLast?.map hyB).getD false) && l.all lbB
def nameB (l : List UInt8) : Bool := (splitL 46 l).all labelB && !digitsL ((splitL 46 l).getLastD [])
def byteOk (l : List UInt8) : Bool := decide ((strictOf 255 l).1 = 0)
def ipvN (n : Nat) (l : List UInt8) : Bool := decide ((splitL 46 l).length = n) && (splitL 46 l).all byteOk
def ipv4B (l : List UInt8) : Bool := ipvN 4 l
def hostE (l : List UInt8) : Int × List UInt8 := if l = [] then (3, []) else if 253 < l.length then (5, []) else if (nameB l || ipv4B l) = true then (0, lowL l) else (50, [])
def portE (l : List UInt8) : Int × Nat := if (strictOf 65535 l).1 = 0 ∧ (strictOf 65535 l).2 ≠ 0 then (0, (strictOf 65535 l).2) else (51, 0)
def portV (r : Int × Nat) : Value := .tuple #[.int .i64 r.2, .int .i64 r.1]
theorem labelB_at (s : ByteArray) (h : 0 < s.size) : labelB s.data.toList = (decide (s.size ≤ 63) && !hyB s[0] && !hyB s[s.size - 1] && s.data.toList.all lbB) := by
 have e := drop_cons s 0 h
 rw [List.drop_zero] at e
 have e1 : s.data.toList.isEmpty = false := by rw [e]; rfl
 have e2 : s.data.toList.head? = some s[0] := by rw [e]; rfl
 have e3 : s.data.toList.getLast? = some s[s.size - 1] := by
  rw [List.getLast?_eq_getElem?, size_list, List.getElem?_eq_getElem (by rw [size_list]; omega)]; rfl
 unfold labelB
 rw [e1, e2, e3, size_list]
 simp only [Option.map_some, Option.getD_some]
 rfl
theorem nameB_more {l : List UInt8} (h : (cutL 46 l).2.2 = true) : nameB l = (labelB (cutL 46 l).1 && nameB (cutL 46 l).2.1) := by
 unfold nameB
 rw [splitL_cut 46 l, if_pos h]
 obtain ⟨p, ps, e⟩ := splitL_ne 46 (cutL 46 l).2.1
 rw [e, List.all_cons, Bool.and_assoc]
 rfl
theorem nameB_last {l : List UInt8} (h : (cutL 46 l).2.2 = false) : nameB l = (labelB l && !digitsL l) := by
 unfold nameB
 rw [splitL_cut 46 l, if_neg (by rw [h]; exact Bool.false_ne_true)]
 simp [List.getLastD]
theorem ipvN_more {l : List UInt8} {n : Nat} (h : (cutL 46 l).2.2 = true) : ipvN (n + 1) l = (byteOk (cutL 46 l).1 && ipvN n (cutL 46 l).2.1) := by
 unfold ipvN
 rw [splitL_cut 46 l, if_pos h, List.length_cons, List.all_cons]
 have : decide ((splitL 46 (cutL 46 l).2.1).length + 1 = n + 1) = decide ((splitL 46 (cutL 46 l).2.1).length = n) := decide_eq_decide.2 (by omega)
 rw [this]
 rcases byteOk (cutL 46 l).1 <;> simp
theorem ipvN_one {l : List UInt8} (h : (cutL 46 l).2.2 = false) : ipvN 1 l = byteOk l := by
 unfold ipvN
 rw [splitL_cut 46 l, if_neg (by rw [h]; exact Bool.false_ne_true)]
 simp
theorem ipvN_stop {l : List UInt8} {n : Nat} (h : (cutL 46 l).2.2 = false) : ipvN (n + 2) l = false := by
 unfold ipvN
 rw [splitL_cut 46 l, if_neg (by rw [h]; exact Bool.false_ne_true)]
 simp
theorem ipvN_long {l : List UInt8} (h : (cutL 46 l).2.2 = true) : ipvN 1 l = false := by
 rw [ipvN_more h]
 have : ipvN 0 (cutL 46 l).2.1 = false := by
  unfold ipvN
  have := splitL_pos 46 (cutL 46 l).2.1
  rw [decide_eq_false (by omega)]; rfl
 rw [this, Bool.and_false]
theorem labelB_pos {l : List UInt8} (h : labelB l = true) : 1 ≤ l.length := by
 rcases l with _ | ⟨c, t⟩
 ·cases h
 ·simp
end Go.Proofs.YtjkdiojicmcbaaaGreatDoor
namespace Go.Proofs.YtjkdiojicmcbaaaGreatDoor
open Go.RowKit
theorem nand_223 : ∀ n : Fin 256, bits .and .u8 ((n.val : Nat) : Int) 223 = ((n.val &&& 223 : Nat) : Int) := by decide +kernel
theorem nor_32 : ∀ n : Fin 256, (97 ≤ n.val ∧ n.val ≤ 102 ∨ 65 ≤ n.val ∧ n.val ≤ 70) → bits .or .u8 ((n.val : Nat) : Int) 32 = (((if n.val ≤ 70 then n.val + 32 else n.val) : Nat) : Int) := by decide +kernel
theorem nhex_223 : ∀ n : Fin 256, (97 ≤ n.val ∧ n.val ≤ 102 ∨ 65 ≤ n.val ∧ n.val ≤ 70) → (n.val &&& 223) = (if n.val ≤ 70 then n.val else n.val - 32) := by decide +kernel
theorem ndigit_any (c : UInt8) (h : isHex c = true) (w : World) :
  Calls Tryz.prog 180 #[.int .u8 c.toNat] w fun e w' => e = .returned (.int .u64 (dvN c : Int)) ∧ w = w' := by
 rcases hd : isDigit c with _ | _
 ·have h3 := hexC h
  have h2 : ¬ (48 ≤ c.toNat ∧ c.toNat ≤ 57) := of_decide_eq_false hd
  have h4 : 97 ≤ c.toNat ∧ c.toNat ≤ 102 ∨ 65 ≤ c.toNat ∧ c.toNat ≤ 70 := by omega
  obtain ⟨x, hx, hx0, hx1, hx2⟩ : ∃ x : Int, bits .and .u8 (c.toNat : Int) 223 = x ∧ 65 ≤ x ∧ x ≤ 70 ∧ x - 65 + 10 = dvN c := by
   refine ⟨_, (nand_223 ⟨c.toNat, c.toNat_lt⟩).trans (congrArg Nat.cast (nhex_223 ⟨c.toNat, c.toNat_lt⟩ h4)), ?_, ?_, ?_⟩
   all_goals simp only [dvN]
   all_goals (repeat' split)
   all_goals omega
  have HX := Lib.hid hx2
  have HD := Lib.hid hd
  clear h h3 h2 h4 hd hx2
  go_enter Tryz.func180, Tryz.ntmps180
  go_wp2_with fail
  refine (IsDigit_any _ _).mono ?_
  rintro e w' ⟨rfl, rfl⟩
  rw [HD.out]
  go_wp2_with fail
  go_ret
  exact ⟨ret_int (by rw [← HX.out]), rfl⟩
 ·have h2 := dvN_digit hd
  have HX := Lib.hid h2.1
  have hx0 := h2.2.1
  have hx1 := h2.2.2
  have HD := Lib.hid hd
  clear h hd h2
  go_enter Tryz.func180, Tryz.ntmps180
  go_wp2_with fail
  refine (IsDigit_any _ _).mono ?_
  rintro e w' ⟨rfl, rfl⟩
  rw [HD.out]
  go_wp2_with fail
  go_ret
  exact ⟨ret_int (by rw [HX.out]; omega), rfl⟩
theorem checkDigit_any (s : ByteArray) (w : World) (hs : s.size ≤ maxLen) :
  Calls Tryz.prog 156 #[.string s, .func (.func 117) #[] #[]] w fun e w' => e = .returned (.int .i64 (checkE isDigit s.data.toList)) ∧ w = w' := by
 unfold maxLen at hs
 by_cases h0 : s.size = 0
 ·obtain rfl : s = S [] := S_nil_of h0
  clear h0 hs
  go_enter Tryz.func156, Tryz.ntmps156
  go_wp2_with fail
  go_ret
  exact ⟨rfl, rfl⟩
 ·have hne : s.data.toList ≠ [] := fun e => h0 (by rw [← size_list, e]; rfl)
  have HE := Lib.hid hne
  have he1 : s.toList.isEmpty = false := by rw [ByteArray.toList_eq]; simpa using hne
  have hpos : 0 < s.size := by omega
  clear h0 hne
  go_enter Tryz.func156, Tryz.ntmps156
  go_wp2_with fail
  go_loop [10] (fun i => ∃ k : Nat, k ≤ s.size ∧ i = .int .i64 k ∧ Hid ((s.data.toList.take k).all isDigit = true)) (fun i => s.size - (intOf i).toNat)
  case atStart => exact ⟨0, Nat.zero_le _, rfl, Lib.hid rfl⟩
  case round =>
   obtain ⟨k, hk, rfl, HA⟩ := hrel
   by_cases hlt : k < s.size
   ·rcases hp : isDigit s[k] with _ | _
    ·have HB : Hid (s.data.toList.all isDigit = false) := Lib.hid (all_take_false _ _ (k + 1) (by rw [all_snoc _ _ _ hlt, hp, Bool.and_false]))
     have HP := Lib.hid hp
     clear hp
     go_wp2_with fail
     refine (IsDigit_any _ _).mono ?_
     rintro e w' ⟨rfl, rfl⟩
     rw [HP.out]
     go_wp2_with fail
     go_ret
     exact ⟨ret_int (by rw [checkE_bad HE.out HB.out]), rfl⟩
    ·have HB : Hid ((s.data.toList.take (k + 1)).all isDigit = true) := Lib.hid (by rw [all_snoc _ _ _ hlt, hp, HA.out]; rfl)
     have HP := Lib.hid hp
     clear hp
     go_wp2_with fail
     refine (IsDigit_any _ _).mono ?_
     rintro e w' ⟨rfl, rfl⟩
     rw [HP.out]
     go_wp2_with fail
     go_round
     case rel => exact ⟨k + 1, by omega, by go_num, HB⟩
     case measure => simp [intOf]; omega
   ·have HB : Hid (s.data.toList.all isDigit = true) := Lib.hid (by rw [← take_all s k hlt]; exact HA.out)
    go_wp2_with fail
    go_ret
    exact ⟨ret_int (by rw [checkE_ok HE.out HB.out]), rfl⟩
theorem all_at {p : UInt8 → Bool} {s : ByteArray} (h : s.data.toList.all p = true) (k : Nat) (hk : k < s.size) : p s[k] = true := by
 rw [List.all_eq_true] at h
 exact h _ (by rw [← getD_list s k hk, List.getD_eq_getElem?_getD, List.getElem?_eq_getElem (by rw [size_list]; exact hk)]; exact List.getElem_mem _)
theorem value10_any (s : ByteArray) (most : Int) (w : World) (hs : s.size ≤ maxLen) (h0 : 0 ≤ most) (h1 : most ≤ 18446744073709551615) (hh : s.data.toList.all isHex = true) :
  Calls Tryz.prog 157 #[.string s, .int .u64 10, .int .u64 most] w fun e w' => e = .returned (numV (valE 10 most.toNat s.data.toList)) ∧ w = w' := by
 unfold maxLen at hs
 obtain ⟨M, rfl⟩ := Int.eq_ofNat_of_zero_le h0
 rw [Int.toNat_natCast]
 have HH := Lib.hid hh
 clear hh h0
 go_enter Tryz.func157, Tryz.ntmps157
 go_wp2_with fail
 go_loop [8, 13] (fun n i => ∃ k m : Nat, k ≤ s.size ∧ m ≤ M ∧ i = .int .i64 k ∧ n = .int .u64 m ∧ Hid (valU 10 M s.data.toList 0 = valU 10 M (s.data.toList.drop k) m)) (fun _ i => s.size - (intOf i).toNat)
 case atStart => exact ⟨0, 0, Nat.zero_le _, Nat.zero_le _, rfl, rfl, Lib.hid rfl⟩
 case round =>
  obtain ⟨k, m, hk, hm, rfl, rfl, HV⟩ := hrel
  by_cases hlt : k < s.size
  ·have hx := all_at HH.out k hlt
   have hd16 := dvN_lt hx
   have HX := Lib.hid hx
   have HC : Hid (valU 10 M (s.data.toList.drop k) m = if m * 10 + dvN s[k] ≤ M then valU 10 M (s.data.toList.drop (k + 1)) (m * 10 + dvN s[k]) else none) := Lib.hid (by rw [drop_cons s k hlt]; rfl)
   clear hx
   generalize hdv : dvN s[k] = d at *
   have HD := Lib.hid hdv
   clear hdv
   by_cases hdm : d ≤ M
   ·by_cases hok : m * 10 + d ≤ M
    ·have hq1 : (m : Int) ≤ ((M : Int) - d) / 10 := by omega
     have HN : Hid (valU 10 M s.data.toList 0 = valU 10 M (s.data.toList.drop (k + 1)) (m * 10 + d)) := Lib.hid (by rw [HV.out, HC.out, if_pos hok])
     go_wp2_with fail
     refine (ndigit_any _ HX.out _).mono ?_
     rintro e w' ⟨rfl, rfl⟩
     rw [HD.out]
     go_wp2_with fail
     go_round
     case rel => exact ⟨k + 1, m * 10 + d, by omega, hok, by go_num, by go_num, HN⟩
     case measure => simp [intOf]; omega
    ·have hq1 : ((M : Int) - d) / 10 < m := by omega
     have HN : Hid (valU 10 M s.data.toList 0 = none) := Lib.hid (by rw [HV.out, HC.out, if_neg hok])
     clear hok
     go_wp2_with fail
     refine (ndigit_any _ HX.out _).mono ?_
     rintro e w' ⟨rfl, rfl⟩
     rw [HD.out]
     go_wp2_with fail
     go_ret2
     exact ⟨by unfold valE; rw [HN.out]; rfl, rfl⟩
   ·have hdm1 : (M : Int) < d := by omega
    have HN : Hid (valU 10 M s.data.toList 0 = none) := Lib.hid (by rw [HV.out, HC.out, if_neg (by omega)])
    clear hdm
    go_wp2_with fail
    refine (ndigit_any _ HX.out _).mono ?_
    rintro e w' ⟨rfl, rfl⟩
    rw [HD.out]
    go_wp2_with fail
    go_ret2
    exact ⟨by unfold valE; rw [HN.out]; rfl, rfl⟩
  ·have HN : Hid (valU 10 M s.data.toList 0 = some m) := Lib.hid (by rw [HV.out, List.drop_of_length_le (by rw [size_list]; omega)]; rfl)
   go_wp2_with fail
   go_ret2
   exact ⟨by unfold valE; rw [HN.out]; rfl, rfl⟩
theorem nStrict_any (s : ByteArray) (most : Int) (w : World) (hs : s.size ≤ maxLen) (h0 : 0 ≤ most) (h1 : most ≤ 18446744073709551615) :
  Calls Tryz.prog 124 #[.string s, .int .u64 most] w fun e w' => e = .returned (numV (strictOf most.toNat s.data.toList)) ∧ w = w' := by
 rcases checkE_cases isDigit s.data.toList with hc | hc | hc
 ·have HA : Hid (s.data.toList.all isHex = true) := Lib.hid (all_digit_hex (checkE_all hc).2)
  have hpos : 0 < s.size := by
   have := (checkE_all hc).1
   have h2 : s.data.toList.length ≠ 0 := fun e => this (List.eq_nil_of_length_eq_zero e)
   rw [size_list] at h2; omega
  rcases hz : zeroLed s.data.toList with _ | _
  ·have HN : Hid (strictOf most.toNat s.data.toList = valE 10 most.toNat s.data.toList) := Lib.hid (by unfold strictOf; rw [if_pos hc, if_neg (by rw [hz]; exact Bool.false_ne_true)])
   have HC := Lib.hid hc
   rw [HN.out]
   have hor : s.size ≤ 1 ∨ ((s[0].toNat : Int) == 48) = false := by
    by_cases h : s.size ≤ 1
    ·exact .inl h
    ·refine .inr (beq_eq_false_iff_ne.2 fun e => ?_)
     have : s[0] = 48 := UInt8.toNat_inj.1 (by show s[0].toNat = 48; omega)
     have := (zeroLed_iff s).2 ⟨by omega, this⟩
     rw [hz] at this; cases this
   clear hc hz
   unfold maxLen at hs
   rcases hor with hor | hor
   ·go_enter Tryz.func124, Tryz.ntmps124
    go_wp2_with fail
    refine (checkDigit_any s _ hs).mono ?_
    rintro e w' ⟨rfl, rfl⟩
    rw [HC.out]
    go_wp2_with fail
    refine (value10_any s most _ hs h0 h1 HA.out).mono ?_
    rintro e w' ⟨rfl, rfl⟩
    unfold numV
    go_wp2_with fail
    go_ret2
    exact ⟨rfl, rfl⟩
   ·by_cases h1s : s.size ≤ 1
    ·clear hor
     go_enter Tryz.func124, Tryz.ntmps124
     go_wp2_with fail
     refine (checkDigit_any s _ hs).mono ?_
     rintro e w' ⟨rfl, rfl⟩
     rw [HC.out]
     go_wp2_with fail
     refine (value10_any s most _ hs h0 h1 HA.out).mono ?_
     rintro e w' ⟨rfl, rfl⟩
     unfold numV
     go_wp2_with fail
     go_ret2
     exact ⟨rfl, rfl⟩
    ·have h2s : 1 < s.size := by omega
     clear h1s
     go_enter Tryz.func124, Tryz.ntmps124
     go_wp2_with fail
     refine (checkDigit_any s _ hs).mono ?_
     rintro e w' ⟨rfl, rfl⟩
     rw [HC.out]
     go_wp2_with fail
     refine (value10_any s most _ hs h0 h1 HA.out).mono ?_
     rintro e w' ⟨rfl, rfl⟩
     unfold numV
     go_wp2_with fail
     go_ret2
     exact ⟨rfl, rfl⟩
  ·obtain ⟨h2s, h48⟩ := (zeroLed_iff s).1 hz
   have HN : Hid (strictOf most.toNat s.data.toList = (6, 0)) := Lib.hid (by unfold strictOf; rw [if_pos hc, if_pos hz])
   have hb : ((s[0].toNat : Int) == 48) = true := by rw [h48]; rfl
   have HC := Lib.hid hc
   rw [HN.out]
   clear hc hz h48
   go_enter Tryz.func124, Tryz.ntmps124
   go_wp2_with fail
   refine (checkDigit_any s _ hs).mono ?_
   rintro e w' ⟨rfl, rfl⟩
   rw [HC.out]
   go_wp2_with fail
   go_ret2
   exact ⟨rfl, rfl⟩
 ·have HN : Hid (strictOf most.toNat s.data.toList = (1, 0)) := Lib.hid (by unfold strictOf; rw [hc, if_neg (by decide)])
  have HC := Lib.hid hc
  clear hc
  rw [HN.out]
  go_enter Tryz.func124, Tryz.ntmps124
  go_wp2_with fail
  refine (checkDigit_any s _ hs).mono ?_
  rintro e w' ⟨rfl, rfl⟩
  rw [HC.out]
  go_wp2_with fail
  go_ret2
  exact ⟨rfl, rfl⟩
 ·have HN : Hid (strictOf most.toNat s.data.toList = (3, 0)) := Lib.hid (by unfold strictOf; rw [hc, if_neg (by decide)])
  have HC := Lib.hid hc
  clear hc
  rw [HN.out]
  go_enter Tryz.func124, Tryz.ntmps124
  go_wp2_with fail
  refine (checkDigit_any s _ hs).mono ?_
  rintro e w' ⟨rfl, rfl⟩
  rw [HC.out]
  go_wp2_with fail
  go_ret2
  exact ⟨rfl, rfl⟩
end Go.Proofs.YtjkdiojicmcbaaaGreatDoor
namespace Go.Proofs.YtjkdiojicmcbaaaGreatDoor
open Go.RowKit
theorem hyT {c : UInt8} (h : hyB c = true) : ((c.toNat : Int) == 45) = true := by
 have : c.toNat = 45 := by simpa [hyB] using h
 rw [this]; rfl
theorem hyF {c : UInt8} (h : hyB c = false) : ((c.toNat : Int) == 45) = false := by
 have : c.toNat ≠ 45 := by simpa [hyB] using h
 rw [beq_eq_false_iff_ne]; omega
theorem hyT' {c : UInt8} (h : hyB c = true) : ((c.toNat : Int) != 45) = false := by
 have : c.toNat = 45 := by simpa [hyB] using h
 rw [this]; rfl
theorem hyF' {c : UInt8} (h : hyB c = false) : ((c.toNat : Int) != 45) = true := by
 have : c.toNat ≠ 45 := by simpa [hyB] using h
 rw [bne_iff_ne]; omega
theorem lb_of (c : UInt8) : lbB c = (isAlpha c || isDigit c || hyB c) := rfl
set_option maxHeartbeats 1000000 in
theorem isLabel_any (s : ByteArray) (w : World) (hs : s.size ≤ maxLen) :
  Calls Tryz.prog 154 #[.string s] w fun e w' => e = .returned (.bool (labelB s.data.toList)) ∧ w = w' := by
 unfold maxLen at hs
 by_cases h0 : s.size = 0
 ·obtain rfl : s = S [] := S_nil_of h0
  clear h0 hs
  go_enter Tryz.func154, Tryz.ntmps154
  go_wp2_with fail
  go_ret
  exact ⟨rfl, rfl⟩
 have hpos : 0 < s.size := by omega
 have HL := Lib.hid (labelB_at s hpos)
 have he1 : s.toList.isEmpty = false := by
  rw [ByteArray.toList_eq]
  rcases hl : s.data.toList with _ | ⟨c, t⟩
  ·have := size_list s; rw [hl] at this; simp at this; omega
  ·rfl
 clear h0
 by_cases h63 : 63 < s.size
 ·go_enter Tryz.func154, Tryz.ntmps154
  go_wp2_with fail
  go_ret
  exact ⟨ret_bool (by rw [HL.out, decide_eq_false (by omega)]; rfl), rfl⟩
 have h63' : s.size ≤ 63 := by omega
 have hidx : s.size - 1 < s.size := by omega
 clear h63
 rcases hy0 : hyB s[0] with _ | _
 ·rcases hy1 : hyB s[s.size - 1] with _ | _
  ·have b0 := hyF hy0
   have b1 := hyF hy1
   have HA : Hid (labelB s.data.toList = s.data.toList.all lbB) := Lib.hid (by rw [HL.out, hy0, hy1, decide_eq_true h63']; simp)
   clear hy0 hy1
   go_enter Tryz.func154, Tryz.ntmps154
   go_wp2_with fail
   clear b0 b1
   go_loop [26] (fun i => ∃ k : Nat, k ≤ s.size ∧ i = .int .i64 k ∧ Hid ((s.data.toList.take k).all lbB = true)) (fun i => s.size - (intOf i).toNat)
   case atStart => exact ⟨0, Nat.zero_le _, rfl, Lib.hid rfl⟩
   case round =>
    obtain ⟨k, hk, rfl, HT⟩ := hrel
    by_cases hlt : k < s.size
    ·have hst : lbB s[k] = true → Hid ((s.data.toList.take (k + 1)).all lbB = true) := fun h => Lib.hid (by rw [all_snoc _ _ _ hlt, h, HT.out]; rfl)
     have hbad : lbB s[k] = false → Hid (s.data.toList.all lbB = false) := fun h => Lib.hid (all_take_false _ _ (k + 1) (by rw [all_snoc _ _ _ hlt, h, Bool.and_false]))
     rcases ha : isAlpha s[k] with _ | _
     ·rcases hd : isDigit s[k] with _ | _
      ·rcases hy : hyB s[k] with _ | _
       ·have HB := hbad (by rw [lb_of, ha, hd, hy]; rfl)
        have b := hyF' hy
        have H1 := Lib.hid ha
        have H2 := Lib.hid hd
        clear ha hd hy hst hbad
        go_wp2_with fail
        refine (IsAlpha_any _ _).mono ?_
        rintro e w' ⟨rfl, rfl⟩
        rw [H1.out]
        go_wp2_with fail
        refine (IsDigit_any _ _).mono ?_
        rintro e w' ⟨rfl, rfl⟩
        rw [H2.out]
        go_wp2_with fail
        go_ret
        exact ⟨ret_bool (by rw [HA.out, HB.out]), rfl⟩
       ·have HB := hst (by rw [lb_of, ha, hd, hy]; rfl)
        have b := hyT' hy
        have H1 := Lib.hid ha
        have H2 := Lib.hid hd
        clear ha hd hy hst hbad
        go_wp2_with fail
        refine (IsAlpha_any _ _).mono ?_
        rintro e w' ⟨rfl, rfl⟩
        rw [H1.out]
        go_wp2_with fail
        refine (IsDigit_any _ _).mono ?_
        rintro e w' ⟨rfl, rfl⟩
        rw [H2.out]
        go_wp2_with fail
        go_round
        case rel => exact ⟨k + 1, by omega, by go_num, HB⟩
        case measure => simp [intOf]; omega
      ·have HB := hst (by rw [lb_of, ha, hd]; rfl)
       have H1 := Lib.hid ha
       have H2 := Lib.hid hd
       clear ha hd hst hbad
       go_wp2_with fail
       refine (IsAlpha_any _ _).mono ?_
       rintro e w' ⟨rfl, rfl⟩
       rw [H1.out]
       go_wp2_with fail
       refine (IsDigit_any _ _).mono ?_
       rintro e w' ⟨rfl, rfl⟩
       rw [H2.out]
       go_wp2_with fail
       go_round
       case rel => exact ⟨k + 1, by omega, by go_num, HB⟩
       case measure => simp [intOf]; omega
     ·have HB := hst (by rw [lb_of, ha]; rfl)
      have H1 := Lib.hid ha
      clear ha hst hbad
      go_wp2_with fail
      refine (IsAlpha_any _ _).mono ?_
      rintro e w' ⟨rfl, rfl⟩
      rw [H1.out]
      go_wp2_with fail
      go_round
      case rel => exact ⟨k + 1, by omega, by go_num, HB⟩
      case measure => simp [intOf]; omega
    ·have HB : Hid (s.data.toList.all lbB = true) := Lib.hid (by rw [← take_all s k hlt]; exact HT.out)
     go_wp2_with fail
     go_ret
     exact ⟨ret_bool (by rw [HA.out, HB.out]), rfl⟩
  ·have b0 := hyF hy0
   have b1 := hyT hy1
   have HA : Hid (labelB s.data.toList = false) := Lib.hid (by rw [HL.out, hy0, hy1]; simp)
   clear hy0 hy1
   go_enter Tryz.func154, Tryz.ntmps154
   go_wp2_with fail
   go_ret
   exact ⟨ret_bool (by rw [HA.out]), rfl⟩
 ·have b0 := hyT hy0
  have HA : Hid (labelB s.data.toList = false) := Lib.hid (by rw [HL.out, hy0]; simp)
  clear hy0
  go_enter Tryz.func154, Tryz.ntmps154
  go_wp2_with fail
  go_ret
  exact ⟨ret_bool (by rw [HA.out]), rfl⟩
theorem isName_any (s : ByteArray) (w : World) (hs : s.size ≤ maxLen) :
  Calls Tryz.prog 122 #[.string s] w fun e w' => e = .returned (.bool (nameB s.data.toList)) ∧ Qb w w' := by
 unfold maxLen at hs
 go_enter Tryz.func122, Tryz.ntmps122
 go_wp2_with fail
 go_loopw [3, 4, 5, 6, 10] (fun r _ _ _ i wr => ∃ (k : Nat) (c : ByteArray), k ≤ s.size ∧ c.size + k ≤ s.size ∧ i = .int .i64 k ∧ r = .string c ∧ Hid (nameB s.data.toList = nameB c.data.toList) ∧ Qb w wr) (fun _ _ _ _ i _ => s.size - (intOf i).toNat)
 case atStart => exact ⟨0, s, Nat.zero_le _, by omega, rfl, rfl, Lib.hid rfl, Qb.refl w⟩
 case round =>
  obtain ⟨k, c, hk, hck, rfl, rfl, HN, hq⟩ := hrel
  by_cases hlt : k < s.size
  ·have hl := cutL_len 46 c.data.toList
   have hlens := cutL_lens 46 c.data.toList
   obtain ⟨p, q, b, hcut⟩ : ∃ p q b, cutL 46 c.data.toList = (p, q, b) := ⟨_, _, _, rfl⟩
   have HC := Lib.hid hcut
   have hsp : (S p).size ≤ maxLen := by unfold maxLen; rw [S_size]; rw [hcut] at hlens; have := hlens.1; rw [size_list] at this; simp at this; omega
   rcases hlb : labelB p with _ | _
   ·have HF : Hid (nameB c.data.toList = false) := Lib.hid (by
     rcases hb : b with _ | _
     ·subst hb
      have h2 : (cutL 46 c.data.toList).2.2 = false := by rw [hcut]
      have h3 := (hl.2.2 h2).1
      rw [hcut] at h3
      rw [nameB_last h2, ← h3, hlb]; rfl
     ·subst hb
      rw [nameB_more (by rw [hcut]), hcut, hlb]; rfl)
    have H1 := Lib.hid hlb
    clear hl hlens hcut hlb
    go_wp2_with fail
    refine (Cut_any c 46 _ (by unfold maxLen; omega)).mono ?_
    rintro e w1 ⟨rfl, hq1⟩
    rw [HC.out]
    unfold cutV
    go_wp2_with fail
    refine (isLabel_any _ _ hsp).mono ?_
    rintro e w2 ⟨rfl, rfl⟩
    rw [S_list, H1.out]
    go_wp2_with fail
    go_ret
    exact ⟨ret_bool (by rw [HN.out, HF.out]), hq.trans hq1⟩
   ·have H1 := Lib.hid hlb
    rcases hb : b with _ | _
    ·subst hb
     have h2 : (cutL 46 c.data.toList).2.2 = false := by rw [hcut]
     have h3 := (hl.2.2 h2).1
     rw [hcut] at h3
     have HF : Hid (nameB c.data.toList = !digitsL p) := Lib.hid (by rw [nameB_last h2, ← h3, hlb, Bool.true_and])
     clear hl hlens hcut hlb h2 h3
     go_wp2_with fail
     refine (Cut_any c 46 _ (by unfold maxLen; omega)).mono ?_
     rintro e w1 ⟨rfl, hq1⟩
     rw [HC.out]
     unfold cutV
     go_wp2_with fail
     refine (isLabel_any _ _ hsp).mono ?_
     rintro e w2 ⟨rfl, rfl⟩
     rw [S_list, H1.out]
     go_wp2_with fail
     refine (Digits_any _ _ hsp).mono ?_
     rintro e w2 ⟨rfl, rfl⟩
     rw [S_list]
     go_wp2_with fail
     go_ret
     exact ⟨ret_bool (by rw [HN.out, HF.out]), hq.trans hq1⟩
    ·subst hb
     have h2 : (cutL 46 c.data.toList).2.2 = true := by rw [hcut]
     have h3 := hl.2.1 h2
     rw [hcut, size_list] at h3
     simp only at h3
     have h4 := labelB_pos hlb
     have HF : Hid (nameB c.data.toList = nameB (S q).data.toList) := Lib.hid (by rw [nameB_more h2, hcut, hlb, Bool.true_and])
     have h5 : (S q).size + (k + 1) ≤ s.size := by rw [S_size]; omega
     clear hl hlens hcut hlb h2 h3 h4
     go_wp2_with fail
     refine (Cut_any c 46 _ (by unfold maxLen; omega)).mono ?_
     rintro e w1 ⟨rfl, hq1⟩
     rw [HC.out]
     unfold cutV
     go_wp2_with fail
     refine (isLabel_any _ _ hsp).mono ?_
     rintro e w2 ⟨rfl, rfl⟩
     rw [S_list, H1.out]
     go_wp2_with fail
     go_roundw
     case rel => exact ⟨k + 1, S q, by omega, h5, by go_num, rfl, Lib.hid (by rw [HN.out, HF.out]), hq.trans hq1⟩
     case measure => simp [intOf]; omega
  ·have hc0 : c.size = 0 := by omega
   obtain rfl : c = S [] := S_nil_of hc0
   clear hc0
   go_wp2_with fail
   go_ret
   exact ⟨ret_bool (by rw [HN.out]; decide), hq⟩
theorem byteOk_iff (l : List UInt8) : byteOk l = decide ((strictOf (255 : Int).toNat l).1 = 0) := rfl
theorem isIPv4_any (s : ByteArray) (w : World) (hs : s.size ≤ maxLen) :
  Calls Tryz.prog 123 #[.string s] w fun e w' => e = .returned (.bool (ipv4B s.data.toList)) ∧ Qb w w' := by
 unfold maxLen at hs
 go_enter Tryz.func123, Tryz.ntmps123
 go_wp2_with fail
 go_loopw [3, 4, 5, 6, 7, 8, 9, 10, 12] (fun r _ _ _ _ _ _ _ i wr => ∃ (k : Nat) (c : ByteArray), k ≤ 4 ∧ c.size ≤ s.size ∧ i = .int .i64 k ∧ r = .string c ∧ Hid (ipv4B s.data.toList = if k = 4 then true else ipvN (4 - k) c.data.toList) ∧ Qb w wr) (fun _ _ _ _ _ _ _ _ i _ => 4 - (intOf i).toNat)
 case atStart => exact ⟨0, s, by omega, Nat.le_refl _, rfl, rfl, Lib.hid rfl, Qb.refl w⟩
 case round =>
  obtain ⟨k, c, hk, hck, rfl, rfl, HN, hq⟩ := hrel
  by_cases hlt : k < 4
  ·have hl := cutL_len 46 c.data.toList
   have hlens := cutL_lens 46 c.data.toList
   obtain ⟨p, q, b, hcut⟩ : ∃ p q b, cutL 46 c.data.toList = (p, q, b) := ⟨_, _, _, rfl⟩
   have HC := Lib.hid hcut
   have hsp : (S p).size ≤ maxLen := by unfold maxLen; rw [S_size]; rw [hcut] at hlens; have := hlens.1; rw [size_list] at this; simp at this; omega
   have hsq : (S q).size ≤ s.size := by rw [S_size]; rw [hcut] at hlens; have := hlens.2; rw [size_list] at this; simp at this; omega
   have HN' : Hid (ipv4B s.data.toList = ipvN (4 - k) c.data.toList) := Lib.hid (by rw [HN.out, if_neg (by omega)])
   clear HN
   obtain ⟨er, v, hst⟩ : ∃ er v, strictOf (255 : Int).toNat p = (er, v) := ⟨_, _, rfl⟩
   have HS := Lib.hid hst
   have hok : byteOk p = decide (er = 0) := by rw [byteOk_iff, hst]
   by_cases hk3 : k = 3
   ·subst hk3
    rcases hb : b with _ | _
    ·subst hb
     have h2 : (cutL 46 c.data.toList).2.2 = false := by rw [hcut]
     have h3 := (hl.2.2 h2).1
     rw [hcut] at h3
     have HF : Hid (ipv4B s.data.toList = decide (er = 0)) := Lib.hid (by rw [HN'.out, show 4 - 3 = 1 from rfl, ipvN_one h2, ← h3, hok])
     clear hl hlens hcut h2 h3 hok hst
     by_cases he : er = 0
     ·subst he
      go_wp2_with fail
      refine (Cut_any c 46 _ (by unfold maxLen; omega)).mono ?_
      rintro e w1 ⟨rfl, hq1⟩
      rw [HC.out]
      unfold cutV
      go_wp2_with fail
      refine (nStrict_any _ _ _ hsp (by decide) (by decide)).mono ?_
      rintro e w2 ⟨rfl, rfl⟩
      rw [S_list, HS.out]
      unfold numV
      go_wp2_with fail
      go_roundw
      case rel => exact ⟨4, S q, by omega, hsq, by go_num, rfl, Lib.hid (by rw [HF.out]; rfl), hq.trans hq1⟩
      case measure => simp [intOf]
     ·have he1 : (er != 0) = true := bne_iff_ne.2 he
      have HF2 : Hid (ipv4B s.data.toList = false) := Lib.hid (by rw [HF.out, decide_eq_false he])
      clear he HF
      go_wp2_with fail
      refine (Cut_any c 46 _ (by unfold maxLen; omega)).mono ?_
      rintro e w1 ⟨rfl, hq1⟩
      rw [HC.out]
      unfold cutV
      go_wp2_with fail
      refine (nStrict_any _ _ _ hsp (by decide) (by decide)).mono ?_
      rintro e w2 ⟨rfl, rfl⟩
      rw [S_list, HS.out]
      unfold numV
      go_wp2_with fail
      go_ret
      exact ⟨ret_bool (by rw [HF2.out]), hq.trans hq1⟩
    ·subst hb
     have HF : Hid (ipv4B s.data.toList = false) := Lib.hid (by rw [HN'.out, show 4 - 3 = 1 from rfl, ipvN_long (by rw [hcut])])
     clear hl hlens hcut hok hst
     go_wp2_with fail
     refine (Cut_any c 46 _ (by unfold maxLen; omega)).mono ?_
     rintro e w1 ⟨rfl, hq1⟩
     rw [HC.out]
     unfold cutV
     go_wp2_with fail
     go_ret
     exact ⟨ret_bool (by rw [HF.out]), hq.trans hq1⟩
   ·have hk2 : k ≤ 2 := by omega
    have hkb : ((k : Int) == 3) = false := by rw [beq_eq_false_iff_ne]; omega
    clear hk3
    rcases hb : b with _ | _
    ·subst hb
     have HF : Hid (ipv4B s.data.toList = false) := Lib.hid (by rw [HN'.out, show 4 - k = (2 - k) + 2 from by omega, ipvN_stop (by rw [hcut])])
     clear hl hlens hcut hok hst
     go_wp2_with fail
     refine (Cut_any c 46 _ (by unfold maxLen; omega)).mono ?_
     rintro e w1 ⟨rfl, hq1⟩
     rw [HC.out]
     unfold cutV
     go_wp2_with fail
     go_ret
     exact ⟨ret_bool (by rw [HF.out]), hq.trans hq1⟩
    ·subst hb
     have HF : Hid (ipv4B s.data.toList = (decide (er = 0) && ipvN (4 - (k + 1)) (S q).data.toList)) := Lib.hid (by rw [HN'.out, show 4 - k = (4 - (k + 1)) + 1 from by omega, ipvN_more (by rw [hcut]), hcut, hok])
     clear hl hlens hcut hok hst
     by_cases he : er = 0
     ·subst he
      go_wp2_with fail
      refine (Cut_any c 46 _ (by unfold maxLen; omega)).mono ?_
      rintro e w1 ⟨rfl, hq1⟩
      rw [HC.out]
      unfold cutV
      go_wp2_with fail
      refine (nStrict_any _ _ _ hsp (by decide) (by decide)).mono ?_
      rintro e w2 ⟨rfl, rfl⟩
      rw [S_list, HS.out]
      unfold numV
      go_wp2_with fail
      go_roundw
      case rel => exact ⟨k + 1, S q, by omega, hsq, by go_num, rfl, Lib.hid (by rw [HF.out, if_neg (by omega)]; rfl), hq.trans hq1⟩
      case measure => simp [intOf]; omega
     ·have he1 : (er != 0) = true := bne_iff_ne.2 he
      have HF2 : Hid (ipv4B s.data.toList = false) := Lib.hid (by rw [HF.out, decide_eq_false he]; rfl)
      clear he HF
      go_wp2_with fail
      refine (Cut_any c 46 _ (by unfold maxLen; omega)).mono ?_
      rintro e w1 ⟨rfl, hq1⟩
      rw [HC.out]
      unfold cutV
      go_wp2_with fail
      refine (nStrict_any _ _ _ hsp (by decide) (by decide)).mono ?_
      rintro e w2 ⟨rfl, rfl⟩
      rw [S_list, HS.out]
      unfold numV
      go_wp2_with fail
      go_ret
      exact ⟨ret_bool (by rw [HF2.out]), hq.trans hq1⟩
  ·obtain rfl : k = 4 := by omega
   go_wp2_with fail
   go_ret
   exact ⟨ret_bool (by rw [HN.out]; rfl), hq⟩
end Go.Proofs.YtjkdiojicmcbaaaGreatDoor
namespace Go.Proofs.YtjkdiojicmcbaaaGreatDoor
open Go.RowKit
theorem rdig_cases {c : UInt8} (h : isHex c = true) : (48 ≤ c.toNat ∧ c.toNat ≤ 57 ∧ dvN c = c.toNat - 48) ∨ (57 < c.toNat ∧ ∃ x : Int, bits .or .u8 (c.toNat : Int) 32 = x ∧ 97 ≤ x ∧ x ≤ 102 ∧ x - 97 + 10 = dvN c) := by
 have h3 := hexC h
 by_cases hd : c.toNat ≤ 57
 ·refine .inl ⟨by omega, hd, ?_⟩
  unfold dvN; rw [if_pos hd]
 ·have h4 : 97 ≤ c.toNat ∧ c.toNat ≤ 102 ∨ 65 ≤ c.toNat ∧ c.toNat ≤ 70 := by omega
  refine .inr ⟨by omega, _, nor_32 ⟨c.toNat, c.toNat_lt⟩ h4, ?_, ?_, ?_⟩
  all_goals simp only [dvN]
  all_goals (repeat' split)
  all_goals omega
theorem sub_wrap {M d : Nat} (hM : (M : Int) ≤ 18446744073709551615) (hd : d < 16) (h : M < d) : ∃ y : Int, IntKind.u64.wrap ((M : Int) - (d : Int)) = y ∧ 1000 < y := by
 refine ⟨_, rfl, ?_⟩
 rw [IntKind.wrap_u64]
 omega
set_option maxHeartbeats 4000000 in
theorem rparse10_any (s : ByteArray) (most : Int) (w : World) (hs : s.size ≤ maxLen) (h0 : 0 ≤ most) (h1 : most ≤ 18446744073709551615) :
  Calls Tryz.prog 164 #[.string s, .int .u64 10, .int .u64 most] w fun e w' => e = .returned (numV (numOf isDigit 10 most.toNat s.data.toList)) ∧ w = w' := by
 unfold maxLen at hs
 obtain ⟨M, rfl⟩ := Int.eq_ofNat_of_zero_le h0
 rw [Int.toNat_natCast]
 clear h0
 by_cases h0 : s.size = 0
 ·obtain rfl : s = S [] := S_nil_of h0
  clear h0 hs
  go_enter Tryz.func164, Tryz.ntmps164
  go_wp2_with fail
  go_ret2
  exact ⟨rfl, rfl⟩
 ·have hne : s.data.toList ≠ [] := fun e => h0 (by rw [← size_list, e]; rfl)
  have HE := Lib.hid hne
  have he1 : s.toList.isEmpty = false := by rw [ByteArray.toList_eq]; simpa using hne
  have hpos : 0 < s.size := by omega
  clear h0 hne
  go_enter Tryz.func164, Tryz.ntmps164
  go_wp2_with fail
  go_loop [8] (fun i => ∃ k : Nat, k ≤ s.size ∧ i = .int .i64 k ∧ Hid ((s.data.toList.take k).all isDigit = true)) (fun i => s.size - (intOf i).toNat)
  case atStart => exact ⟨0, Nat.zero_le _, rfl, Lib.hid rfl⟩
  case round =>
   obtain ⟨k, hk, rfl, HA⟩ := hrel
   by_cases hlt : k < s.size
   ·rcases hp : isDigit s[k] with _ | _
    ·have HB : Hid (s.data.toList.all isDigit = false) := Lib.hid (all_take_false _ _ (k + 1) (by rw [all_snoc _ _ _ hlt, hp, Bool.and_false]))
     have HP := Lib.hid hp
     clear hp
     go_wp2_with fail
     refine (rIsDigit_any _ _).mono ?_
     rintro e w' ⟨rfl, rfl⟩
     rw [HP.out]
     go_wp2_with fail
     go_ret2
     exact ⟨by unfold numOf; rw [checkE_bad HE.out HB.out, if_neg (by decide)]; rfl, rfl⟩
    ·have HB : Hid ((s.data.toList.take (k + 1)).all isDigit = true) := Lib.hid (by rw [all_snoc _ _ _ hlt, hp, HA.out]; rfl)
     have HP := Lib.hid hp
     clear hp
     go_wp2_with fail
     refine (rIsDigit_any _ _).mono ?_
     rintro e w' ⟨rfl, rfl⟩
     rw [HP.out]
     go_wp2_with fail
     go_round
     case rel => exact ⟨k + 1, by omega, by go_num, HB⟩
     case measure => simp [intOf]; omega
   ·have HB : Hid (s.data.toList.all isDigit = true) := Lib.hid (by rw [← take_all s k hlt]; exact HA.out)
    have HQ : Hid (numOf isDigit 10 M s.data.toList = valE 10 M s.data.toList) := Lib.hid (by unfold numOf; rw [checkE_ok HE.out HB.out, if_pos rfl])
    have HH : Hid (s.data.toList.all isHex = true) := Lib.hid (all_digit_hex HB.out)
    clear HA HB
    go_wp2_with fail
    go_loop [9, 10, 11] (fun n i _ => ∃ k m : Nat, k ≤ s.size ∧ m ≤ M ∧ i = .int .i64 k ∧ n = .int .u64 m ∧ Hid (valU 10 M s.data.toList 0 = valU 10 M (s.data.toList.drop k) m)) (fun _ i _ => s.size - (intOf i).toNat)
    case atStart => exact ⟨0, 0, Nat.zero_le _, Nat.zero_le _, rfl, rfl, Lib.hid rfl⟩
    case round =>
     obtain ⟨k, m, hk, hm, rfl, rfl, HV⟩ := hrel
     by_cases hlt : k < s.size
     ·have hx := all_at HH.out k hlt
      have hd16 := dvN_lt hx
      have hcs := rdig_cases hx
      have HC : Hid (valU 10 M (s.data.toList.drop k) m = if m * 10 + dvN s[k] ≤ M then valU 10 M (s.data.toList.drop (k + 1)) (m * 10 + dvN s[k]) else none) := Lib.hid (by rw [drop_cons s k hlt]; rfl)
      clear hx
      generalize hdv : dvN s[k] = d at *
      clear hdv
      rcases hcs with ⟨c1, c2, hc3⟩ | ⟨c1, x, hx, hx1, hx2, hx3⟩
      ·have HD := Lib.hid hc3
       clear hc3
       by_cases hdm : d ≤ M
       ·by_cases hok : m * 10 + d ≤ M
        ·have HN : Hid (valU 10 M s.data.toList 0 = valU 10 M (s.data.toList.drop (k + 1)) (m * 10 + d)) := Lib.hid (by rw [HV.out, HC.out, if_pos hok])
         have e1 : (m : Int) ≤ (M : Int) / 10 := by omega
         have hde := HD.out
         have hdi : (s[k].toNat : Int) - 48 = (d : Int) := by omega
         have e2 : (m : Int) * 10 ≤ (M : Int) - ((s[k].toNat : Int) - 48) := by omega
         have e3 : (s[k].toNat : Int) - 48 ≤ (M : Int) := by omega
         have HI := Lib.hid hdi
         clear hde hdi
         go_wp2_with fail
         go_round
         case rel => exact ⟨k + 1, m * 10 + d, by omega, hok, by go_num, congrArg (Value.int .u64) (by have := HI.out; omega), HN⟩
         case measure => simp [intOf]; omega
        ·have HN : Hid (valU 10 M s.data.toList 0 = none) := Lib.hid (by rw [HV.out, HC.out, if_neg hok])
         by_cases e1 : (m : Int) ≤ (M : Int) / 10
         ·have hde := HD.out
          have e2 : (M : Int) - ((s[k].toNat : Int) - 48) < (m : Int) * 10 := by omega
          have e3 : (s[k].toNat : Int) - 48 ≤ (M : Int) := by omega
          have e4 : (m : Int) * 10 ≤ 18446744073709551615 := by omega
          clear hde hok
          go_wp2_with fail
          go_ret2
          exact ⟨by rw [HQ.out]; unfold valE; rw [HN.out]; rfl, rfl⟩
         ·have e2 : (M : Int) / 10 < (m : Int) := by omega
          clear e1 hok
          go_wp2_with fail
          go_ret2
          exact ⟨by rw [HQ.out]; unfold valE; rw [HN.out]; rfl, rfl⟩
       ·have HN : Hid (valU 10 M s.data.toList 0 = none) := Lib.hid (by rw [HV.out, HC.out, if_neg (by omega)])
        by_cases e1 : (m : Int) ≤ (M : Int) / 10
        ·have hde := HD.out
         obtain ⟨y, hy, hy1⟩ := sub_wrap h1 hd16 (by omega : M < d)
         have hdi : (d : Int) = (s[k].toNat : Int) - 48 := by omega
         rw [hdi] at hy
         have e3 : (M : Int) < (s[k].toNat : Int) - 48 := by omega
         have e4 : (m : Int) * 10 ≤ 1000 := by omega
         clear hde hdi hdm
         go_wp2_with fail
         go_ret2
         exact ⟨by rw [HQ.out]; unfold valE; rw [HN.out]; rfl, rfl⟩
        ·have e2 : (M : Int) / 10 < (m : Int) := by omega
         clear e1 hdm
         go_wp2_with fail
         go_ret2
         exact ⟨by rw [HQ.out]; unfold valE; rw [HN.out]; rfl, rfl⟩
      ·have HD := Lib.hid hx3
       have c3 : (10 : Int) ≤ d := by omega
       clear hx3
       by_cases hdm : d ≤ M
       ·by_cases hok : m * 10 + d ≤ M
        ·have HN : Hid (valU 10 M s.data.toList 0 = valU 10 M (s.data.toList.drop (k + 1)) (m * 10 + d)) := Lib.hid (by rw [HV.out, HC.out, if_pos hok])
         have e1 : (m : Int) ≤ (M : Int) / 10 := by omega
         have hde := HD.out
         have hdi : x - 97 + 10 = (d : Int) := by omega
         have e2 : (m : Int) * 10 ≤ (M : Int) - (x - 97 + 10) := by omega
         have e3 : x - 97 + 10 ≤ (M : Int) := by omega
         have HI := Lib.hid hdi
         clear hde hdi
         go_wp2_with fail
         go_round
         case rel => exact ⟨k + 1, m * 10 + d, by omega, hok, by go_num, congrArg (Value.int .u64) (by have := HI.out; omega), HN⟩
         case measure => simp [intOf]; omega
        ·have HN : Hid (valU 10 M s.data.toList 0 = none) := Lib.hid (by rw [HV.out, HC.out, if_neg hok])
         by_cases e1 : (m : Int) ≤ (M : Int) / 10
         ·have hde := HD.out
          have e2 : (M : Int) - (x - 97 + 10) < (m : Int) * 10 := by omega
          have e3 : x - 97 + 10 ≤ (M : Int) := by omega
          have e4 : (m : Int) * 10 ≤ 18446744073709551615 := by omega
          clear hde hok
          go_wp2_with fail
          go_ret2
          exact ⟨by rw [HQ.out]; unfold valE; rw [HN.out]; rfl, rfl⟩
         ·have e2 : (M : Int) / 10 < (m : Int) := by omega
          clear e1 hok
          go_wp2_with fail
          go_ret2
          exact ⟨by rw [HQ.out]; unfold valE; rw [HN.out]; rfl, rfl⟩
       ·have HN : Hid (valU 10 M s.data.toList 0 = none) := Lib.hid (by rw [HV.out, HC.out, if_neg (by omega)])
        by_cases e1 : (m : Int) ≤ (M : Int) / 10
        ·have hde := HD.out
         obtain ⟨y, hy, hy1⟩ := sub_wrap h1 hd16 (by omega : M < d)
         have hdi : (d : Int) = x - 97 + 10 := by omega
         rw [hdi] at hy
         have e3 : (M : Int) < x - 97 + 10 := by omega
         have e4 : (m : Int) * 10 ≤ 1000 := by omega
         clear hde hdi hdm
         go_wp2_with fail
         go_ret2
         exact ⟨by rw [HQ.out]; unfold valE; rw [HN.out]; rfl, rfl⟩
        ·have e2 : (M : Int) / 10 < (m : Int) := by omega
         clear e1 hdm
         go_wp2_with fail
         go_ret2
         exact ⟨by rw [HQ.out]; unfold valE; rw [HN.out]; rfl, rfl⟩
     ·have HN : Hid (valU 10 M s.data.toList 0 = some m) := Lib.hid (by rw [HV.out, List.drop_of_length_le (by rw [size_list]; omega)]; rfl)
      go_wp2_with fail
      go_ret2
      exact ⟨by rw [HQ.out]; unfold valE; rw [HN.out]; rfl, rfl⟩
theorem strict_of_num (most : Nat) (l : List UInt8) : ((numOf isDigit 10 most l).1 = 0 ∨ (numOf isDigit 10 most l).1 = 4) ∧ (zeroLed l = true → strictOf most l = (6, 0)) ∧ (zeroLed l = false → strictOf most l = numOf isDigit 10 most l) ∨
  ((numOf isDigit 10 most l).1 = 1 ∨ (numOf isDigit 10 most l).1 = 3) ∧ strictOf most l = numOf isDigit 10 most l := by
 unfold numOf strictOf
 rcases checkE_cases isDigit l with hc | hc | hc
 ·rw [hc, if_pos rfl, if_pos rfl]
  refine .inl ⟨?_, fun hz => by rw [if_pos hz], fun hz => by rw [if_neg (by rw [hz]; exact Bool.false_ne_true)]⟩
  unfold valE
  rcases valU 10 most l 0 with _ | n
  ·exact .inr rfl
  ·exact .inl rfl
 ·rw [hc, if_neg (by decide), if_neg (by decide)]; exact .inr ⟨.inl rfl, rfl⟩
 ·rw [hc, if_neg (by decide), if_neg (by decide)]; exact .inr ⟨.inr rfl, rfl⟩
theorem rStrict_any (s : ByteArray) (most : Int) (w : World) (hs : s.size ≤ maxLen) (h0 : 0 ≤ most) (h1 : most ≤ 18446744073709551615) :
  Calls Tryz.prog 132 #[.string s, .int .u64 most] w fun e w' => e = .returned (numV (strictOf most.toNat s.data.toList)) ∧ w = w' := by
 unfold maxLen at hs
 have hcs := strict_of_num most.toNat s.data.toList
 rcases hn : numOf isDigit 10 most.toNat s.data.toList with ⟨er, v⟩
 rw [hn] at hcs
 have HN := Lib.hid hn
 clear hn
 rcases hcs with ⟨he, hz1, hz0⟩ | ⟨he, hz⟩
 ·rcases hz : zeroLed s.data.toList with _ | _
  ·have HS := Lib.hid (hz0 hz)
   have hor : s.size ≤ 1 ∨ (1 < s.size ∧ ∃ h : 0 < s.size, ((s[0].toNat : Int) == 48) = false) := by
    by_cases h : s.size ≤ 1
    ·exact .inl h
    ·refine .inr ⟨by omega, by omega, beq_eq_false_iff_ne.2 fun e => ?_⟩
     have : s[0] = 48 := UInt8.toNat_inj.1 (by show s[0].toNat = 48; omega)
     have := (zeroLed_iff s).2 ⟨by omega, this⟩
     rw [hz] at this; cases this
   rw [HS.out]
   clear hz0 hz1 hz HS
   rcases he with rfl | rfl
   all_goals rcases hor with hor | ⟨hor, hpos, hor2⟩
   all_goals go_enter Tryz.func132, Tryz.ntmps132
   all_goals go_wp2_with fail
   all_goals refine (rparse10_any s most _ hs h0 h1).mono ?_
   all_goals rintro e w' ⟨rfl, rfl⟩
   all_goals rw [HN.out]
   all_goals unfold numV
   all_goals go_wp2_with fail
   all_goals go_ret2
   all_goals exact ⟨rfl, rfl⟩
  ·obtain ⟨h2s, h48⟩ := (zeroLed_iff s).1 hz
   have hb : ((s[0].toNat : Int) == 48) = true := by rw [h48]; rfl
   have HS := Lib.hid (hz1 hz)
   rw [HS.out]
   clear hz0 hz1 hz HS h48
   rcases he with rfl | rfl
   all_goals go_enter Tryz.func132, Tryz.ntmps132
   all_goals go_wp2_with fail
   all_goals refine (rparse10_any s most _ hs h0 h1).mono ?_
   all_goals rintro e w' ⟨rfl, rfl⟩
   all_goals rw [HN.out]
   all_goals unfold numV
   all_goals go_wp2_with fail
   all_goals go_ret2
   all_goals exact ⟨rfl, rfl⟩
 ·rw [hz]
  clear hz
  rcases he with rfl | rfl
  all_goals go_enter Tryz.func132, Tryz.ntmps132
  all_goals go_wp2_with fail
  all_goals refine (rparse10_any s most _ hs h0 h1).mono ?_
  all_goals rintro e w' ⟨rfl, rfl⟩
  all_goals rw [HN.out]
  all_goals unfold numV
  all_goals go_wp2_with fail
  all_goals go_ret2
  all_goals exact ⟨rfl, rfl⟩
end Go.Proofs.YtjkdiojicmcbaaaGreatDoor
namespace Go.Proofs.YtjkdiojicmcbaaaGreatDoor
open Go.RowKit
theorem empty_false {s : ByteArray} (h : 0 < s.size) : s.toList.isEmpty = false := by
 rw [ByteArray.toList_eq]
 rcases hl : s.data.toList with _ | ⟨c, t⟩
 ·have := size_list s; rw [hl] at this; simp at this; omega
 ·rfl
theorem list_ne {s : ByteArray} (h : 0 < s.size) : s.data.toList ≠ [] := fun e => by have := size_list s; rw [e] at this; simp at this; omega
theorem Host_any (s : ByteArray) (w : World) (hs : s.size ≤ maxLen) :
  Calls Tryz.prog 91 #[.string s] w fun e w' => e = .returned (resV (hostE s.data.toList)) ∧ Qb w w' := by
 by_cases h0 : s.size = 0
 ·obtain rfl : s = S [] := S_nil_of h0
  clear h0 hs
  go_enter Tryz.func91, Tryz.ntmps91
  go_wp2_with fail
  go_ret2
  exact ⟨rfl, Qb.refl _⟩
 have hpos : 0 < s.size := by omega
 have he1 := empty_false hpos
 have hne := Lib.hid (list_ne hpos)
 clear h0
 by_cases h253 : 253 < s.size
 ·have HE : Hid (hostE s.data.toList = (5, [])) := Lib.hid (by unfold hostE; rw [if_neg hne.out, if_pos (by rw [size_list]; exact h253)])
  go_enter Tryz.func91, Tryz.ntmps91
  go_wp2_with fail
  go_ret2
  exact ⟨by rw [HE.out]; rfl, Qb.refl _⟩
 have h253' : s.size ≤ 253 := by omega
 have hml : s.size ≤ maxLen := by unfold maxLen; omega
 have HE : Hid (hostE s.data.toList = if (nameB s.data.toList || ipv4B s.data.toList) = true then (0, lowL s.data.toList) else (50, [])) := Lib.hid (by unfold hostE; rw [if_neg hne.out, if_neg (by rw [size_list]; omega)])
 clear h253
 rcases h1 : nameB s.data.toList with _ | _
 ·rcases h2 : ipv4B s.data.toList with _ | _
  ·have HF : Hid (hostE s.data.toList = (50, [])) := Lib.hid (by rw [HE.out, h1, h2]; rfl)
   have H1 := Lib.hid h1
   have H2 := Lib.hid h2
   clear h1 h2
   go_enter Tryz.func91, Tryz.ntmps91
   go_wp2_with fail
   refine (isName_any s _ hml).mono ?_
   rintro e w1 ⟨rfl, hq1⟩
   rw [H1.out]
   go_wp2_with fail
   refine (isIPv4_any s _ hml).mono ?_
   rintro e w2 ⟨rfl, hq2⟩
   rw [H2.out]
   go_wp2_with fail
   go_ret2
   exact ⟨by rw [HF.out]; rfl, hq1.trans hq2⟩
  ·have HF : Hid (hostE s.data.toList = (0, lowL s.data.toList)) := Lib.hid (by rw [HE.out, h1, h2]; rfl)
   have H1 := Lib.hid h1
   have H2 := Lib.hid h2
   clear h1 h2
   go_enter Tryz.func91, Tryz.ntmps91
   go_wp2_with fail
   refine (isName_any s _ hml).mono ?_
   rintro e w1 ⟨rfl, hq1⟩
   rw [H1.out]
   go_wp2_with fail
   refine (isIPv4_any s _ hml).mono ?_
   rintro e w2 ⟨rfl, hq2⟩
   rw [H2.out]
   go_wp2_with fail
   refine (Lower_any s _ (by omega)).mono ?_
   rintro e w3 ⟨rfl, hq3⟩
   go_wp2_with fail
   go_ret2
   exact ⟨by rw [HF.out]; rfl, (hq1.trans hq2).trans hq3⟩
 ·have HF : Hid (hostE s.data.toList = (0, lowL s.data.toList)) := Lib.hid (by rw [HE.out, h1]; simp)
  have H1 := Lib.hid h1
  clear h1
  go_enter Tryz.func91, Tryz.ntmps91
  go_wp2_with fail
  refine (isName_any s _ hml).mono ?_
  rintro e w1 ⟨rfl, hq1⟩
  rw [H1.out]
  go_wp2_with fail
  refine (Lower_any s _ (by omega)).mono ?_
  rintro e w3 ⟨rfl, hq3⟩
  go_wp2_with fail
  go_ret2
  exact ⟨by rw [HF.out]; rfl, hq1.trans hq3⟩
theorem Port_any (s : ByteArray) (w : World) (hs : s.size ≤ maxLen) :
  Calls Tryz.prog 92 #[.string s] w fun e w' => e = .returned (portV (portE s.data.toList)) ∧ w = w' := by
 obtain ⟨er, v, hst⟩ : ∃ er v, strictOf (65535 : Int).toNat s.data.toList = (er, v) := ⟨_, _, rfl⟩
 have HS := Lib.hid hst
 have hle := strictOf_le 65535 s.data.toList
 rw [show strictOf 65535 s.data.toList = (er, v) from hst] at hle
 have HP : Hid (portE s.data.toList = if er = 0 ∧ v ≠ 0 then (0, v) else (51, 0)) := Lib.hid (by
  unfold portE; rw [show strictOf 65535 s.data.toList = (er, v) from hst])
 simp only at hle
 clear hst
 by_cases he : er = 0
 ·subst he
  by_cases hv : v = 0
  ·subst hv
   go_enter Tryz.func92, Tryz.ntmps92
   go_wp2_with fail
   refine (nStrict_any _ _ _ hs (by decide) (by decide)).mono ?_
   rintro e w2 ⟨rfl, rfl⟩
   rw [HS.out]
   unfold numV
   go_wp2_with fail
   go_ret2
   exact ⟨by rw [HP.out]; rfl, rfl⟩
  ·have hb : ((v : Int) == 0) = false := by rw [beq_eq_false_iff_ne]; omega
   have HF : Hid (portE s.data.toList = (0, v)) := Lib.hid (by rw [HP.out, if_pos ⟨rfl, hv⟩])
   clear hv
   go_enter Tryz.func92, Tryz.ntmps92
   go_wp2_with fail
   refine (nStrict_any _ _ _ hs (by decide) (by decide)).mono ?_
   rintro e w2 ⟨rfl, rfl⟩
   rw [HS.out]
   unfold numV
   go_wp2_with fail
   go_ret2
   exact ⟨by rw [HF.out]; rfl, rfl⟩
 ·have hb : (er != 0) = true := bne_iff_ne.2 he
  have HF : Hid (portE s.data.toList = (51, 0)) := Lib.hid (by rw [HP.out, if_neg (fun h => he h.1)])
  clear he
  go_enter Tryz.func92, Tryz.ntmps92
  go_wp2_with fail
  refine (nStrict_any _ _ _ hs (by decide) (by decide)).mono ?_
  rintro e w2 ⟨rfl, rfl⟩
  rw [HS.out]
  unfold numV
  go_wp2_with fail
  go_ret2
  exact ⟨by rw [HF.out]; rfl, rfl⟩
theorem rPort_any (s : ByteArray) (w : World) (hs : s.size ≤ maxLen) :
  Calls Tryz.prog 100 #[.string s] w fun e w' => e = .returned (portV (portE s.data.toList)) ∧ w = w' := by
 obtain ⟨er, v, hst⟩ : ∃ er v, strictOf (65535 : Int).toNat s.data.toList = (er, v) := ⟨_, _, rfl⟩
 have HS := Lib.hid hst
 have hle := strictOf_le 65535 s.data.toList
 rw [show strictOf 65535 s.data.toList = (er, v) from hst] at hle
 have HP : Hid (portE s.data.toList = if er = 0 ∧ v ≠ 0 then (0, v) else (51, 0)) := Lib.hid (by
  unfold portE; rw [show strictOf 65535 s.data.toList = (er, v) from hst])
 simp only at hle
 clear hst
 by_cases he : er = 0
 ·subst he
  by_cases hv : v = 0
  ·subst hv
   go_enter Tryz.func100, Tryz.ntmps100
   go_wp2_with fail
   refine (rStrict_any _ _ _ hs (by decide) (by decide)).mono ?_
   rintro e w2 ⟨rfl, rfl⟩
   rw [HS.out]
   unfold numV
   go_wp2_with fail
   go_ret2
   exact ⟨by rw [HP.out]; rfl, rfl⟩
  ·have hb : ((v : Int) == 0) = false := by rw [beq_eq_false_iff_ne]; omega
   have HF : Hid (portE s.data.toList = (0, v)) := Lib.hid (by rw [HP.out, if_pos ⟨rfl, hv⟩])
   clear hv
   go_enter Tryz.func100, Tryz.ntmps100
   go_wp2_with fail
   refine (rStrict_any _ _ _ hs (by decide) (by decide)).mono ?_
   rintro e w2 ⟨rfl, rfl⟩
   rw [HS.out]
   unfold numV
   go_wp2_with fail
   go_ret2
   exact ⟨by rw [HF.out]; rfl, rfl⟩
 ·have hb : (er != 0) = true := bne_iff_ne.2 he
  have HF : Hid (portE s.data.toList = (51, 0)) := Lib.hid (by rw [HP.out, if_neg (fun h => he h.1)])
  clear he
  go_enter Tryz.func100, Tryz.ntmps100
  go_wp2_with fail
  refine (rStrict_any _ _ _ hs (by decide) (by decide)).mono ?_
  rintro e w2 ⟨rfl, rfl⟩
  rw [HS.out]
  unfold numV
  go_wp2_with fail
  go_ret2
  exact ⟨by rw [HF.out]; rfl, rfl⟩
theorem rlabel_end (s : ByteArray) (h : 0 < s.size) : labelB s.data.toList = (s.data.toList.all lbB && decide (s.size ≤ 63) && !hyB s[0] && !hyB s[s.size - 1]) := by
 rw [labelB_at s h]
 rcases decide (s.size ≤ 63) <;> rcases hyB s[0] <;> rcases hyB s[s.size - 1] <;> rcases s.data.toList.all lbB <;> rfl
set_option maxHeartbeats 1000000 in
theorem rlabel_any (s : ByteArray) (w : World) (hs : s.size ≤ maxLen) :
  Calls Tryz.prog 162 #[.string s] w fun e w' => e = .returned (.bool (labelB s.data.toList)) ∧ w = w' := by
 unfold maxLen at hs
 go_enter Tryz.func162, Tryz.ntmps162
 go_wp2_with fail
 go_loop [3] (fun i => ∃ k : Nat, k ≤ s.size ∧ i = .int .i64 k ∧ Hid ((s.data.toList.take k).all lbB = true)) (fun i => s.size - (intOf i).toNat)
 case atStart => exact ⟨0, Nat.zero_le _, rfl, Lib.hid rfl⟩
 case round =>
  obtain ⟨k, hk, rfl, HT⟩ := hrel
  by_cases hlt : k < s.size
  ·have hpos : 0 < s.size := by omega
   have HL := Lib.hid (rlabel_end s hpos)
   have hst : lbB s[k] = true → Hid ((s.data.toList.take (k + 1)).all lbB = true) := fun h => Lib.hid (by rw [all_snoc _ _ _ hlt, h, HT.out]; rfl)
   have hbad : lbB s[k] = false → Hid (labelB s.data.toList = false) := fun h => Lib.hid (by rw [HL.out, all_take_false _ _ (k + 1) (by rw [all_snoc _ _ _ hlt, h, Bool.and_false])]; rfl)
   rcases ha : isAlpha s[k] with _ | _
   ·rcases hd : isDigit s[k] with _ | _
    ·rcases hy : hyB s[k] with _ | _
     ·have HB := hbad (by rw [lb_of, ha, hd, hy]; rfl)
      have b := hyF' hy
      have H1 := Lib.hid ha
      have H2 := Lib.hid hd
      clear ha hd hy hst hbad
      go_wp2_with fail
      refine (rIsAlpha_any _ _).mono ?_
      rintro e w' ⟨rfl, rfl⟩
      rw [H1.out]
      go_wp2_with fail
      refine (rIsDigit_any _ _).mono ?_
      rintro e w' ⟨rfl, rfl⟩
      rw [H2.out]
      go_wp2_with fail
      go_ret
      exact ⟨ret_bool (by rw [HB.out]), rfl⟩
     ·have HB := hst (by rw [lb_of, ha, hd, hy]; rfl)
      have b := hyT' hy
      have H1 := Lib.hid ha
      have H2 := Lib.hid hd
      clear ha hd hy hst hbad
      go_wp2_with fail
      refine (rIsAlpha_any _ _).mono ?_
      rintro e w' ⟨rfl, rfl⟩
      rw [H1.out]
      go_wp2_with fail
      refine (rIsDigit_any _ _).mono ?_
      rintro e w' ⟨rfl, rfl⟩
      rw [H2.out]
      go_wp2_with fail
      go_round
      case rel => exact ⟨k + 1, by omega, by go_num, HB⟩
      case measure => simp [intOf]; omega
    ·have HB := hst (by rw [lb_of, ha, hd]; rfl)
     have H1 := Lib.hid ha
     have H2 := Lib.hid hd
     clear ha hd hst hbad
     go_wp2_with fail
     refine (rIsAlpha_any _ _).mono ?_
     rintro e w' ⟨rfl, rfl⟩
     rw [H1.out]
     go_wp2_with fail
     refine (rIsDigit_any _ _).mono ?_
     rintro e w' ⟨rfl, rfl⟩
     rw [H2.out]
     go_wp2_with fail
     go_round
     case rel => exact ⟨k + 1, by omega, by go_num, HB⟩
     case measure => simp [intOf]; omega
   ·have HB := hst (by rw [lb_of, ha]; rfl)
    have H1 := Lib.hid ha
    clear ha hst hbad
    go_wp2_with fail
    refine (rIsAlpha_any _ _).mono ?_
    rintro e w' ⟨rfl, rfl⟩
    rw [H1.out]
    go_wp2_with fail
    go_round
    case rel => exact ⟨k + 1, by omega, by go_num, HB⟩
    case measure => simp [intOf]; omega
  ·have HA : Hid (s.data.toList.all lbB = true) := Lib.hid (by rw [← take_all s k hlt]; exact HT.out)
   obtain rfl : k = s.size := by omega
   clear HT hlt
   by_cases h0 : s.size = 0
   ·obtain rfl : s = S [] := S_nil_of h0
    clear h0 hs hk HA
    go_wp2_with fail
    go_ret
    exact ⟨rfl, rfl⟩
   have hpos : 0 < s.size := by omega
   have he1 := empty_false hpos
   have HL : Hid (labelB s.data.toList = (decide (s.size ≤ 63) && !hyB s[0] && !hyB s[s.size - 1])) := Lib.hid (by rw [rlabel_end s hpos, HA.out, Bool.true_and])
   have hidx : s.size - 1 < s.size := by omega
   clear h0
   by_cases h63 : s.size ≤ 63
   ·rcases hy0 : hyB s[0] with _ | _
    ·rcases hy1 : hyB s[s.size - 1] with _ | _
     ·have b0 := hyF' hy0
      have b1 := hyF' hy1
      have HF : Hid (labelB s.data.toList = true) := Lib.hid (by rw [HL.out, hy0, hy1, decide_eq_true h63]; rfl)
      clear hy0 hy1
      go_wp2_with fail
      go_ret
      exact ⟨ret_bool (by rw [HF.out]), rfl⟩
     ·have b0 := hyF' hy0
      have b1 := hyT' hy1
      have HF : Hid (labelB s.data.toList = false) := Lib.hid (by rw [HL.out, hy0, hy1]; simp)
      clear hy0 hy1
      go_wp2_with fail
      go_ret
      exact ⟨ret_bool (by rw [HF.out]), rfl⟩
    ·have b0 := hyT' hy0
     have HF : Hid (labelB s.data.toList = false) := Lib.hid (by rw [HL.out, hy0]; simp)
     clear hy0
     go_wp2_with fail
     go_ret
     exact ⟨ret_bool (by rw [HF.out]), rfl⟩
   ·have HF : Hid (labelB s.data.toList = false) := Lib.hid (by rw [HL.out, decide_eq_false h63]; rfl)
    go_wp2_with fail
    go_ret
    exact ⟨ret_bool (by rw [HF.out]), rfl⟩
theorem part_len (c : UInt8) : ∀ (l x : List UInt8), x ∈ splitL c l → x.length ≤ l.length
 | [], x, h => by simp [splitL] at h; subst h; simp
 | y :: t, x, h => by
  rw [splitL_cons] at h
  by_cases hy : y = c
  ·rw [if_pos hy] at h
   rcases List.mem_cons.1 h with rfl | h
   ·simp
   ·have := part_len c t x h; simp; omega
  ·obtain ⟨p, ps, e⟩ := splitL_ne c t
   have ih := part_len c t
   rw [if_neg hy, e] at h
   rw [e] at ih
   rcases List.mem_cons.1 h with rfl | h
   ·have := ih p (by simp); simp; omega
   ·have := ih x (List.mem_cons_of_mem _ h); simp; omega
theorem all_snocP {α : Type} (p : α → Bool) (l : List α) (k : Nat) (h : k < l.length) : (l.take (k + 1)).all p = ((l.take k).all p && p l[k]) := by
 rw [List.take_succ_eq_append_getElem h, List.all_append]; simp
theorem all_falseP {α : Type} (p : α → Bool) (l : List α) (k : Nat) (h : (l.take k).all p = false) : l.all p = false := by
 rw [← List.take_append_drop k l, List.all_append, h, Bool.false_and]
theorem getLastD_getElem {α : Type} (l : List α) (d : α) (h : 0 < l.length) : l.getLastD d = l[l.length - 1] := by
 rw [List.getLastD_eq_getLast?, List.getLast?_eq_getElem?, List.getElem?_eq_getElem (by omega)]; rfl
theorem rname_any (s : ByteArray) (w : World) (hs : s.size ≤ 1000000) :
  Calls Tryz.prog 131 #[.string s] w fun e w' => e = .returned (.bool (nameB s.data.toList)) ∧ Qb w w' := by
 have hpos := splitL_pos 46 s.data.toList
 have hlen := splitL_len 46 s.data.toList
 have hparts : ∀ k (h : k < (splitL 46 s.data.toList).length), (S (splitL 46 s.data.toList)[k]).size ≤ maxLen := fun k h => by
  have := part_len 46 s.data.toList _ (List.getElem_mem h)
  unfold maxLen; rw [S_size]; rw [size_list] at this; omega
 have HB : Hid (nameB s.data.toList = ((splitL 46 s.data.toList).all labelB && !digitsL ((splitL 46 s.data.toList).getLastD []))) := Lib.hid rfl
 rw [size_list] at hlen
 have HP := Lib.hid hparts
 clear hparts
 go_enter Tryz.func131, Tryz.ntmps131
 go_wp2_with fail
 refine (rSplit_any s 46 _ hs).mono ?_
 rintro e w1 ⟨v, rfl, hrow, hq1⟩
 generalize splitL 46 s.data.toList = ls at *
 obtain ⟨g, cap, rfl, hg0, hg1, hcap⟩ := hrow.form hpos
 have HR := Lib.hid hrow
 clear hrow
 go_wp2_with fail
 go_loop [5, 10] (fun _ i => ∃ k : Nat, k ≤ ls.length ∧ i = .int .i64 k ∧ Hid ((ls.take k).all labelB = true)) (fun _ i => ls.length - (intOf i).toNat)
 case atStart => exact ⟨0, Nat.zero_le _, rfl, Lib.hid rfl⟩
 case round =>
  obtain ⟨k, hk, rfl, HT⟩ := hrel
  by_cases hlt : k < ls.length
  ·have hcell := HR.out.cell k hlt
   have hsz := HP.out k hlt
   have HS := Lib.hid (all_snocP labelB ls k hlt)
   have HF := all_falseP labelB ls (k + 1)
   generalize ls[k] = x at *
   rcases hx : labelB x with _ | _
   ·have HB2 : Hid (nameB s.data.toList = false) := Lib.hid (by rw [HB.out, HF (by rw [HS.out, hx, Bool.and_false])]; rfl)
    have H1 := Lib.hid hx
    clear hx HF
    go_wp2_with fail
    refine (rlabel_any _ _ hsz).mono ?_
    rintro e w2 ⟨rfl, rfl⟩
    rw [S_list, H1.out]
    go_wp2_with fail
    go_ret
    exact ⟨ret_bool (by rw [HB2.out]), hq1⟩
   ·have HT2 : Hid ((ls.take (k + 1)).all labelB = true) := Lib.hid (by rw [HS.out, hx, HT.out]; rfl)
    have H1 := Lib.hid hx
    clear hx HF
    go_wp2_with fail
    refine (rlabel_any _ _ hsz).mono ?_
    rintro e w2 ⟨rfl, rfl⟩
    rw [S_list, H1.out]
    go_wp2_with fail
    go_round
    case rel => exact ⟨k + 1, by omega, by go_num, HT2⟩
    case measure => simp [intOf]; omega
  ·obtain rfl : k = ls.length := by omega
   have hidx : ls.length - 1 < ls.length := by omega
   have hcell := HR.out.cell (ls.length - 1) hidx
   have hsz := HP.out _ hidx
   have HD : Hid (nameB s.data.toList = !digitsL ls[ls.length - 1]) := Lib.hid (by
    have := HT.out
    rw [List.take_length] at this
    rw [HB.out, this, Bool.true_and, getLastD_getElem _ _ hpos])
   generalize ls[ls.length - 1] = x at *
   clear hlt
   go_wp2_with fail
   refine (rDigits_any _ _ hsz).mono ?_
   rintro e w2 ⟨rfl, rfl⟩
   go_wp2_with fail
   go_ret
   exact ⟨ret_bool (by rw [HD.out]), hq1⟩
theorem rIPv4_any (s : ByteArray) (w : World) (hs : s.size ≤ 1000000) :
  Calls Tryz.prog 113 #[.string s] w fun e w' => e = .returned (.bool (ipv4B s.data.toList)) ∧ Qb w w' := by
 have hpos := splitL_pos 46 s.data.toList
 have hlen := splitL_len 46 s.data.toList
 have hparts : ∀ k (h : k < (splitL 46 s.data.toList).length), (S (splitL 46 s.data.toList)[k]).size ≤ maxLen := fun k h => by
  have := part_len 46 s.data.toList _ (List.getElem_mem h)
  unfold maxLen; rw [S_size]; rw [size_list] at this; omega
 have HB : Hid (ipv4B s.data.toList = (decide ((splitL 46 s.data.toList).length = 4) && (splitL 46 s.data.toList).all byteOk)) := Lib.hid rfl
 rw [size_list] at hlen
 have HP := Lib.hid hparts
 clear hparts
 go_enter Tryz.func113, Tryz.ntmps113
 go_wp2_with fail
 refine (rSplit_any s 46 _ hs).mono ?_
 rintro e w1 ⟨v, rfl, hrow, hq1⟩
 generalize splitL 46 s.data.toList = ls at *
 obtain ⟨g, cap, rfl, hg0, hg1, hcap⟩ := hrow.form hpos
 have HR := Lib.hid hrow
 clear hrow
 go_wp2_with fail
 go_loop [5, 6, 7, 12] (fun _ _ _ i => ∃ k : Nat, k ≤ ls.length ∧ i = .int .i64 k ∧ Hid ((ls.take k).all byteOk = true)) (fun _ _ _ i => ls.length - (intOf i).toNat)
 case atStart => exact ⟨0, Nat.zero_le _, rfl, Lib.hid rfl⟩
 case round =>
  obtain ⟨k, hk, rfl, HT⟩ := hrel
  by_cases hlt : k < ls.length
  ·have hcell := HR.out.cell k hlt
   have hsz := HP.out k hlt
   have HS := Lib.hid (all_snocP byteOk ls k hlt)
   have HF := all_falseP byteOk ls (k + 1)
   generalize ls[k] = x at *
   obtain ⟨er, v, hst⟩ : ∃ er v, strictOf (255 : Int).toNat x = (er, v) := ⟨_, _, rfl⟩
   have HS1 := Lib.hid hst
   have hok : byteOk x = decide (er = 0) := by rw [byteOk_iff, hst]
   clear hst
   by_cases he : er = 0
   ·subst he
    have HT2 : Hid ((ls.take (k + 1)).all byteOk = true) := Lib.hid (by rw [HS.out, hok, HT.out]; rfl)
    clear hok HF
    go_wp2_with fail
    refine (rStrict_any _ _ _ hsz (by decide) (by decide)).mono ?_
    rintro e w2 ⟨rfl, rfl⟩
    rw [S_list, HS1.out]
    unfold numV
    go_wp2_with fail
    go_round
    case rel => exact ⟨k + 1, by omega, by go_num, HT2⟩
    case measure => simp [intOf]; omega
   ·have he1 : (er != 0) = true := bne_iff_ne.2 he
    have HB2 : Hid (ipv4B s.data.toList = false) := Lib.hid (by rw [HB.out, HF (by rw [HS.out, hok, decide_eq_false he, Bool.and_false]), Bool.and_false])
    clear hok HF he
    go_wp2_with fail
    refine (rStrict_any _ _ _ hsz (by decide) (by decide)).mono ?_
    rintro e w2 ⟨rfl, rfl⟩
    rw [S_list, HS1.out]
    unfold numV
    go_wp2_with fail
    go_ret
    exact ⟨ret_bool (by rw [HB2.out]), hq1⟩
  ·obtain rfl : k = ls.length := by omega
   have HD : Hid (ipv4B s.data.toList = decide ((ls.length : Int) = 4)) := Lib.hid (by
    have := HT.out
    rw [List.take_length] at this
    rw [HB.out, this, Bool.and_true]; exact decide_eq_decide.2 (by omega))
   clear hlt
   go_wp2_with fail
   go_ret
   exact ⟨ret_bool (by rw [HD.out]; try rfl), hq1⟩
theorem rHost_any (s : ByteArray) (w : World) (hs : s.size ≤ 1000000) :
  Calls Tryz.prog 99 #[.string s] w fun e w' => e = .returned (resV (hostE s.data.toList)) ∧ Qb w w' := by
 by_cases h0 : s.size = 0
 ·obtain rfl : s = S [] := S_nil_of h0
  clear h0 hs
  go_enter Tryz.func99, Tryz.ntmps99
  go_wp2_with fail
  go_ret2
  exact ⟨rfl, Qb.refl _⟩
 have hpos : 0 < s.size := by omega
 have he1 := empty_false hpos
 have hne := Lib.hid (list_ne hpos)
 clear h0
 by_cases h253 : 253 < s.size
 ·have HE : Hid (hostE s.data.toList = (5, [])) := Lib.hid (by unfold hostE; rw [if_neg hne.out, if_pos (by rw [size_list]; exact h253)])
  go_enter Tryz.func99, Tryz.ntmps99
  go_wp2_with fail
  go_ret2
  exact ⟨by rw [HE.out]; rfl, Qb.refl _⟩
 have h253' : s.size ≤ 253 := by omega
 have hml : s.size ≤ maxLen := by unfold maxLen; omega
 have HE : Hid (hostE s.data.toList = if (nameB s.data.toList || ipv4B s.data.toList) = true then (0, lowL s.data.toList) else (50, [])) := Lib.hid (by unfold hostE; rw [if_neg hne.out, if_neg (by rw [size_list]; omega)])
 clear h253
 rcases h1 : ipv4B s.data.toList with _ | _
 ·rcases h2 : nameB s.data.toList with _ | _
  ·have HF : Hid (hostE s.data.toList = (50, [])) := Lib.hid (by rw [HE.out, h1, h2]; rfl)
   have H1 := Lib.hid h1
   have H2 := Lib.hid h2
   clear h1 h2
   go_enter Tryz.func99, Tryz.ntmps99
   go_wp2_with fail
   refine (rIPv4_any s _ (by omega)).mono ?_
   rintro e w1 ⟨rfl, hq1⟩
   rw [H1.out]
   go_wp2_with fail
   refine (rname_any s _ (by omega)).mono ?_
   rintro e w2 ⟨rfl, hq2⟩
   rw [H2.out]
   go_wp2_with fail
   go_ret2
   exact ⟨by rw [HF.out]; rfl, hq1.trans hq2⟩
  ·have HF : Hid (hostE s.data.toList = (0, lowL s.data.toList)) := Lib.hid (by rw [HE.out, h1, h2]; rfl)
   have H1 := Lib.hid h1
   have H2 := Lib.hid h2
   clear h1 h2
   go_enter Tryz.func99, Tryz.ntmps99
   go_wp2_with fail
   refine (rIPv4_any s _ (by omega)).mono ?_
   rintro e w1 ⟨rfl, hq1⟩
   rw [H1.out]
   go_wp2_with fail
   refine (rname_any s _ (by omega)).mono ?_
   rintro e w2 ⟨rfl, hq2⟩
   rw [H2.out]
   go_wp2_with fail
   refine (rLower_any s _ (by omega)).mono ?_
   rintro e w3 ⟨rfl, hq3⟩
   go_wp2_with fail
   go_ret2
   exact ⟨by rw [HF.out]; rfl, (hq1.trans hq2).trans hq3⟩
 ·have HF : Hid (hostE s.data.toList = (0, lowL s.data.toList)) := Lib.hid (by rw [HE.out, h1]; simp)
  have H1 := Lib.hid h1
  clear h1
  go_enter Tryz.func99, Tryz.ntmps99
  go_wp2_with fail
  refine (rIPv4_any s _ (by omega)).mono ?_
  rintro e w1 ⟨rfl, hq1⟩
  rw [H1.out]
  go_wp2_with fail
  refine (rLower_any s _ (by omega)).mono ?_
  rintro e w3 ⟨rfl, hq3⟩
  go_wp2_with fail
  go_ret2
  exact ⟨by rw [HF.out]; rfl, hq1.trans hq3⟩
end Go.Proofs.YtjkdiojicmcbaaaGreatDoor
namespace Go.Proofs.YtjkdiojicmcbaaaGreatDoor
open Go.RowKit
def hpE (l : List UInt8) : Int × List UInt8 × Nat :=
 if (hostE (cutL 58 l).1).1 ≠ 0 then ((hostE (cutL 58 l).1).1, [], 0)
 else if (cutL 58 l).2.2 = false then (0, (hostE (cutL 58 l).1).2, 0)
 else if (portE (cutL 58 l).2.1).1 ≠ 0 then ((portE (cutL 58 l).2.1).1, [], 0)
 else (0, (hostE (cutL 58 l).1).2, if (portE (cutL 58 l).2.1).2 = 443 then 0 else (portE (cutL 58 l).2.1).2)
def hpV (r : Int × List UInt8 × Nat) : Value := .tuple #[.agg #[.string (S r.2.1), .int .i64 r.2.2], .int .i64 r.1]
theorem Parse_any (s : ByteArray) (w : World) (hs : s.size ≤ maxLen) :
  Calls Tryz.prog 46 #[.string s] w fun e w' => e = .returned (hpV (hpE s.data.toList)) ∧ Qb w w' := by
 obtain ⟨p, q, b, hcut⟩ : ∃ p q b, cutL 58 s.data.toList = (p, q, b) := ⟨_, _, _, rfl⟩
 obtain ⟨he, h, hh⟩ : ∃ he h, hostE p = (he, h) := ⟨_, _, rfl⟩
 obtain ⟨pe, pn, hp⟩ : ∃ pe pn, portE q = (pe, pn) := ⟨_, _, rfl⟩
 have HC := Lib.hid hcut
 have HH := Lib.hid hh
 have HP := Lib.hid hp
 have hsp : (S p).size ≤ maxLen := by
  have := (cutL_lens 58 s.data.toList).1
  rw [hcut, size_list] at this; rw [S_size]; simp at this; omega
 have hsq : (S q).size ≤ maxLen := by
  have := (cutL_lens 58 s.data.toList).2
  rw [hcut, size_list] at this; rw [S_size]; simp at this; omega
 have HE : Hid (hpE s.data.toList = if he ≠ 0 then (he, [], 0) else if b = false then (0, h, 0) else if pe ≠ 0 then (pe, [], 0) else (0, h, if pn = 443 then 0 else pn)) := Lib.hid (by
  unfold hpE; rw [hcut]; simp only; rw [hh, hp])
 clear hcut hh hp
 by_cases hee : he = 0
 ·subst hee
  rcases b with _ | _
  ·have HF : Hid (hpE s.data.toList = (0, h, 0)) := Lib.hid (by rw [HE.out, if_neg (by simp), if_pos rfl])
   go_enter Tryz.func46, Tryz.ntmps46
   go_wp2_with fail
   refine (Cut_any s 58 _ hs).mono ?_
   rintro e w1 ⟨rfl, hq1⟩
   rw [HC.out]
   unfold cutV
   go_wp2_with fail
   refine (Host_any _ _ hsp).mono ?_
   rintro e w2 ⟨rfl, hq2⟩
   rw [S_list, HH.out]
   unfold resV
   have hk := (Obk.new w _ _).qb (hq1.trans hq2)
   have hc0 := hk.cell 0
   have hc1 := hk.cell 1
   have hf0 := hk.frozen 0
   have hf1 := hk.frozen 1
   simp at hc0 hc1
   go_wp2_with fail
   exact bodyPost_ret (v := hpV (0, h, 0)) (by simp [results, Tryz.results46, go_sem, hc0, hc1, hf0, hf1, hpV]) rfl ⟨by rw [HF.out], ((((Qb.refl w).alloc _).trans (hq1.trans hq2)).set (Nat.le_refl _) _).set (Nat.le_refl _) _⟩
  ·by_cases hpe : pe = 0
   ·subst hpe
    by_cases h443 : pn = 443
    ·subst h443
     have HF : Hid (hpE s.data.toList = (0, h, 0)) := Lib.hid (by rw [HE.out, if_neg (by simp), if_neg (by simp), if_neg (by simp), if_pos rfl])
     go_enter Tryz.func46, Tryz.ntmps46
     go_wp2_with fail
     refine (Cut_any s 58 _ hs).mono ?_
     rintro e w1 ⟨rfl, hq1⟩
     rw [HC.out]
     unfold cutV
     go_wp2_with fail
     refine (Host_any _ _ hsp).mono ?_
     rintro e w2 ⟨rfl, hq2⟩
     rw [S_list, HH.out]
     unfold resV
     go_wp2_with fail
     refine (Port_any _ _ hsq).mono ?_
     rintro e w3 ⟨rfl, rfl⟩
     rw [S_list, HP.out]
     unfold portV
     have hk := (Obk.new w _ _).qb (hq1.trans hq2)
     have hc0 := hk.cell 0
     have hc1 := hk.cell 1
     have hf0 := hk.frozen 0
     have hf1 := hk.frozen 1
     simp at hc0 hc1
     go_wp2_with fail
     exact bodyPost_ret (v := hpV (0, h, 0)) (by simp [results, Tryz.results46, go_sem, hc0, hc1, hf0, hf1, hpV]) rfl ⟨by rw [HF.out], ((((Qb.refl w).alloc _).trans (hq1.trans hq2)).set (Nat.le_refl _) _).set (Nat.le_refl _) _⟩
    ·have HF : Hid (hpE s.data.toList = (0, h, pn)) := Lib.hid (by rw [HE.out, if_neg (by simp), if_neg (by simp), if_neg (by simp), if_neg h443])
     have hb4 : ((pn : Int) == 443) = false := by rw [beq_eq_false_iff_ne]; omega
     go_enter Tryz.func46, Tryz.ntmps46
     go_wp2_with fail
     refine (Cut_any s 58 _ hs).mono ?_
     rintro e w1 ⟨rfl, hq1⟩
     rw [HC.out]
     unfold cutV
     go_wp2_with fail
     refine (Host_any _ _ hsp).mono ?_
     rintro e w2 ⟨rfl, hq2⟩
     rw [S_list, HH.out]
     unfold resV
     go_wp2_with fail
     refine (Port_any _ _ hsq).mono ?_
     rintro e w3 ⟨rfl, rfl⟩
     rw [S_list, HP.out]
     unfold portV
     have hk := (Obk.new w _ _).qb (hq1.trans hq2)
     have hc0 := hk.cell 0
     have hc1 := hk.cell 1
     have hf0 := hk.frozen 0
     have hf1 := hk.frozen 1
     simp at hc0 hc1
     go_wp2_with fail
     exact bodyPost_ret (v := hpV (0, h, pn)) (by simp [results, Tryz.results46, go_sem, hc0, hc1, hf0, hf1, hpV]) rfl ⟨by rw [HF.out], ((((Qb.refl w).alloc _).trans (hq1.trans hq2)).set (Nat.le_refl _) _).set (Nat.le_refl _) _⟩
   ·have HF : Hid (hpE s.data.toList = (pe, [], 0)) := Lib.hid (by rw [HE.out, if_neg (by simp), if_neg (by simp), if_pos hpe])
    have hb := bne_iff_ne.2 hpe
    go_enter Tryz.func46, Tryz.ntmps46
    go_wp2_with fail
    refine (Cut_any s 58 _ hs).mono ?_
    rintro e w1 ⟨rfl, hq1⟩
    rw [HC.out]
    unfold cutV
    go_wp2_with fail
    refine (Host_any _ _ hsp).mono ?_
    rintro e w2 ⟨rfl, hq2⟩
    rw [S_list, HH.out]
    unfold resV
    go_wp2_with fail
    refine (Port_any _ _ hsq).mono ?_
    rintro e w3 ⟨rfl, rfl⟩
    rw [S_list, HP.out]
    unfold portV
    have hk := (Obk.new w _ _).qb (hq1.trans hq2)
    have hc0 := hk.cell 0
    have hc1 := hk.cell 1
    have hf0 := hk.frozen 0
    have hf1 := hk.frozen 1
    simp at hc0 hc1
    go_wp2_with fail
    exact bodyPost_ret (v := hpV (pe, [], 0)) (by simp [results, Tryz.results46, go_sem, hc0, hc1, hf0, hf1, hpV]) rfl ⟨by rw [HF.out], ((((Qb.refl w).alloc _).trans (hq1.trans hq2)).set (Nat.le_refl _) _).set (Nat.le_refl _) _⟩
 ·have HF : Hid (hpE s.data.toList = (he, [], 0)) := Lib.hid (by rw [HE.out, if_pos hee])
  have hb : (he != 0) = true := bne_iff_ne.2 hee
  go_enter Tryz.func46, Tryz.ntmps46
  go_wp2_with fail
  refine (Cut_any s 58 _ hs).mono ?_
  rintro e w1 ⟨rfl, hq1⟩
  rw [HC.out]
  unfold cutV
  go_wp2_with fail
  refine (Host_any _ _ hsp).mono ?_
  rintro e w2 ⟨rfl, hq2⟩
  rw [S_list, HH.out]
  unfold resV
  have hk := (Obk.new w _ _).qb (hq1.trans hq2)
  have hc0 := hk.cell 0
  have hc1 := hk.cell 1
  have hf0 := hk.frozen 0
  have hf1 := hk.frozen 1
  simp at hc0 hc1
  go_wp2_with fail
  exact bodyPost_ret (v := hpV (he, [], 0)) (by simp [results, Tryz.results46, go_sem, hc0, hc1, hf0, hf1, hpV]) rfl ⟨by rw [HF.out], ((((Qb.refl w).alloc _).trans (hq1.trans hq2)).set (Nat.le_refl _) _).set (Nat.le_refl _) _⟩
end Go.Proofs.YtjkdiojicmcbaaaGreatDoor
namespace Go.Proofs.YtjkdiojicmcbaaaGreatDoor
theorem low256 : ∀ n : Fin 256, lowB (lowB (UInt8.ofNat n.val)) = lowB (UInt8.ofNat n.val) ∧ lbB (lowB (UInt8.ofNat n.val)) = lbB (UInt8.ofNat n.val) ∧ hyB (lowB (UInt8.ofNat n.val)) = hyB (UInt8.ofNat n.val) ∧ isDigit (lowB (UInt8.ofNat n.val)) = isDigit (UInt8.ofNat n.val) ∧ (lowB (UInt8.ofNat n.val) = 46 ↔ UInt8.ofNat n.val = 46) ∧ (isDigit (UInt8.ofNat n.val) = true → lowB (UInt8.ofNat n.val) = UInt8.ofNat n.val) ∧ (UInt8.ofNat n.val = 46 → lowB (UInt8.ofNat n.val) = UInt8.ofNat n.val) := by decide +kernel
theorem low_facts (c : UInt8) : lowB (lowB c) = lowB c ∧ lbB (lowB c) = lbB c ∧ hyB (lowB c) = hyB c ∧ isDigit (lowB c) = isDigit c ∧ (lowB c = 46 ↔ c = 46) ∧ (isDigit c = true → lowB c = c) ∧ (c = 46 → lowB c = c) := by
 have := low256 ⟨c.toNat, c.toNat_lt⟩
 simp only [UInt8.ofNat_toNat] at this
 exact this
theorem lowL_lowL (l : List UInt8) : lowL (lowL l) = lowL l := by
 unfold lowL
 rw [List.map_map]
 exact List.map_congr_left fun c _ => (low_facts c).1
theorem lowL_length (l : List UInt8) : (lowL l).length = l.length := by simp [lowL]
theorem splitL_low : ∀ l, splitL 46 (lowL l) = (splitL 46 l).map lowL
 | [] => rfl
 | x :: t => by
  have ih := splitL_low t
  obtain ⟨p, ps, e⟩ := splitL_ne 46 t
  rw [e] at ih
  show splitL 46 (lowB x :: lowL t) = _
  rw [splitL_cons, splitL_cons, ih, e]
  by_cases h : x = 46
  ·rw [if_pos ((low_facts x).2.2.2.2.1.2 h), if_pos h]; rfl
  ·rw [if_neg (fun h2 => h ((low_facts x).2.2.2.2.1.1 h2)), if_neg h]; rfl
theorem all_low (p : UInt8 → Bool) (hp : ∀ c, p (lowB c) = p c) (l : List UInt8) : (lowL l).all p = l.all p := by
 unfold lowL
 rw [List.all_map]
 congr 1; funext c; exact hp c
theorem labelB_low (l : List UInt8) : labelB (lowL l) = labelB l := by
 unfold labelB
 rw [all_low lbB (fun c => (low_facts c).2.1), lowL_length]
 have e1 : (lowL l).isEmpty = l.isEmpty := by cases l <;> rfl
 have e2 : (lowL l).head?.map hyB = l.head?.map hyB := by
  cases l with
  | nil => rfl
  | cons c t => simp [lowL, (low_facts c).2.2.1]
 have e3 : (lowL l).getLast?.map hyB = l.getLast?.map hyB := by
  unfold lowL
  rw [List.getLast?_map]
  cases l.getLast? with
  | none => rfl
  | some c => simp [(low_facts c).2.2.1]
 rw [e1, e2, e3]
theorem digitsL_low (l : List UInt8) : digitsL (lowL l) = digitsL l := by
 unfold digitsL
 rw [all_low isDigit (fun c => (low_facts c).2.2.2.1)]
 have e1 : (lowL l).isEmpty = l.isEmpty := by cases l <;> rfl
 rw [e1]
theorem nameB_low (l : List UInt8) : nameB (lowL l) = nameB l := by
 unfold nameB
 rw [splitL_low, List.all_map]
 have e1 : ((splitL 46 l).map lowL).getLastD [] = lowL ((splitL 46 l).getLastD []) := by
  rw [List.getLastD_eq_getLast?, List.getLastD_eq_getLast?, List.getLast?_map]
  cases (splitL 46 l).getLast? <;> rfl
 rw [e1, digitsL_low]
 congr 1
 congr 1
 funext x
 exact labelB_low x
theorem byteOk_low {l : List UInt8} (h : byteOk l = true) : lowL l = l := by
 unfold byteOk at h
 have h1 := of_decide_eq_true h
 unfold strictOf at h1
 split at h1
 ·rename_i h2
  have h3 := (checkE_all h2).2
  unfold lowL
  rw [List.all_eq_true] at h3
  have : l.map lowB = l.map id := List.map_congr_left fun c hc => (low_facts c).2.2.2.2.2.1 (h3 c hc)
  rw [this, List.map_id]
 ·rename_i h2; exact absurd h1 h2
theorem low_of_parts : ∀ l : List UInt8, (∀ p ∈ splitL 46 l, lowL p = p) → lowL l = l
 | [], _ => rfl
 | x :: t, h => by
  obtain ⟨p, ps, e⟩ := splitL_ne 46 t
  rw [splitL_cons, e] at h
  by_cases hx : x = 46
  ·rw [if_pos hx] at h
   have ih := low_of_parts t (by rw [e]; intro q hq; exact h q (List.mem_cons_of_mem _ hq))
   show lowB x :: lowL t = _
   rw [ih, (low_facts x).2.2.2.2.2.2 hx]
  ·rw [if_neg hx] at h
   have h1 := h (x :: p) (List.mem_cons_self ..)
   have h2 : lowB x = x ∧ lowL p = p := by
    have : lowB x :: lowL p = x :: p := h1
    injection this with a b; exact ⟨a, b⟩
   have ih := low_of_parts t (by
    rw [e]; intro q hq
    rcases List.mem_cons.1 hq with rfl | hq
    ·exact h2.2
    ·exact h q (List.mem_cons_of_mem _ hq))
   show lowB x :: lowL t = _
   rw [ih, h2.1]
theorem ipv4_low {l : List UInt8} (h : ipv4B l = true) : lowL l = l := by
 refine low_of_parts l fun p hp => ?_
 unfold ipv4B ipvN at h
 simp only [Bool.and_eq_true, List.all_eq_true] at h
 exact byteOk_low (h.2 p hp)
theorem host_again {q h : List UInt8} (hh : hostE q = (0, h)) : hostE h = (0, h) ∧ h.length = q.length ∧ h.length ≤ 253 ∧ h = lowL q := by
 unfold hostE at hh
 split at hh
 ·cases hh
 ·rename_i h0
  split at hh
  ·cases hh
  ·rename_i h1
   split at hh
   ·rename_i h2
    injection hh with _ hh; subst hh
    have hl := lowL_length q
    refine ⟨?_, hl, by omega, rfl⟩
    unfold hostE
    rw [if_neg (by intro e; rw [e] at hl; exact h0 (List.eq_nil_of_length_eq_zero (by simpa using hl.symm))), if_neg (by omega), lowL_lowL]
    rw [if_pos]
    rw [nameB_low]
    rw [Bool.or_eq_true] at h2 ⊢
    rcases h2 with h2 | h2
    ·exact .inl h2
    ·exact .inr (by rw [ipv4_low h2]; exact h2)
   ·cases hh
end Go.Proofs.YtjkdiojicmcbaaaGreatDoor
namespace Go.Proofs.YtjkdiojicmcbaaaGreatDoor
theorem dec_one {m : Nat} (h : m < 10) : Lib.decDigits m = [UInt8.ofNat (48 + m)] := Lib.decDigits_one h
theorem dec_more {m : Nat} (h : ¬ m < 10) : Lib.decDigits m = Lib.decDigits (m / 10) ++ [UInt8.ofNat (48 + m % 10)] := by
 rw [Lib.decDigits, dif_neg h]
theorem valU_append (b M : Nat) : ∀ (l1 l2 : List UInt8) (a : Nat), valU b M (l1 ++ l2) a = match valU b M l1 a with | some m => valU b M l2 m | none => none
 | [], l2, a => rfl
 | c :: l, l2, a => by
  rw [List.cons_append, valU, valU]
  split
  ·exact valU_append b M l l2 _
  ·rfl
theorem dig_nat {d : Nat} (h : d < 10) : (UInt8.ofNat (48 + d)).toNat = 48 + d := by rw [UInt8.toNat_ofNat']; omega
theorem dig_dv {d : Nat} (h : d < 10) : dvN (UInt8.ofNat (48 + d)) = d ∧ isDigit (UInt8.ofNat (48 + d)) = true := by
 have e := dig_nat h
 have h2 : isDigit (UInt8.ofNat (48 + d)) = true := decide_eq_true (by rw [e]; omega)
 exact ⟨by rw [(dvN_digit h2).1, e]; omega, h2⟩
theorem valU_dec (M : Nat) : ∀ (k n : Nat), n ≤ k → n ≤ M → valU 10 M (Lib.decDigits n) 0 = some n := by
 intro k
 induction k with
 | zero =>
  intro n hn hM
  obtain rfl : n = 0 := by omega
  rw [dec_one (by decide)]
  rfl
 | succ k ih =>
  intro n hn hM
  by_cases h10 : n < 10
  ·rw [dec_one h10, valU, (dig_dv h10).1, if_pos (by omega), valU]
   congr 1; omega
  ·rw [dec_more h10, valU_append, ih (n / 10) (by omega) (by omega)]
   simp only
   rw [valU, (dig_dv (show n % 10 < 10 by omega)).1, if_pos (by omega), valU]
   congr 1; omega
theorem dec_all : ∀ (k n : Nat), n ≤ k → (Lib.decDigits n).all isDigit = true ∧ Lib.decDigits n ≠ [] := by
 intro k
 induction k with
 | zero =>
  intro n hn
  obtain rfl : n = 0 := by omega
  rw [dec_one (by decide)]
  exact ⟨by decide, by simp⟩
 | succ k ih =>
  intro n hn
  by_cases h10 : n < 10
  ·rw [dec_one h10]
   exact ⟨by rw [List.all_cons, (dig_dv h10).2]; rfl, by simp⟩
  ·rw [dec_more h10]
   exact ⟨by rw [List.all_append, (ih (n / 10) (by omega)).1, List.all_cons, (dig_dv (show n % 10 < 10 by omega)).2]; rfl, by simp⟩
theorem dec_head : ∀ (k n : Nat), n ≤ k → 1 ≤ n → ∃ c t, Lib.decDigits n = c :: t ∧ c ≠ 48 := by
 intro k
 induction k with
 | zero => intro n hn h; omega
 | succ k ih =>
  intro n hn h
  by_cases h10 : n < 10
  ·refine ⟨_, _, dec_one h10, fun e => ?_⟩
   have := congrArg UInt8.toNat e
   rw [dig_nat h10] at this
   have h48 : (48 : UInt8).toNat = 48 := rfl
   omega
  ·obtain ⟨c, t, h1, h2⟩ := ih (n / 10) (by omega) (by omega)
   exact ⟨c, t ++ [UInt8.ofNat (48 + n % 10)], by rw [dec_more h10, h1]; rfl, h2⟩
theorem zeroLed_ne {c : UInt8} {t : List UInt8} (h : c ≠ 48) : zeroLed (c :: t) = false := by
 unfold zeroLed
 split
 ·rename_i h2; injection h2 with h2; exact absurd h2 h
 ·rfl
theorem dec_zeroLed (n : Nat) : zeroLed (Lib.decDigits n) = false := by
 by_cases h : n = 0
 ·subst h; rw [dec_one (by decide)]; rfl
 ·obtain ⟨c, t, h1, h2⟩ := dec_head n n (Nat.le_refl _) (by omega)
  rw [h1]; exact zeroLed_ne h2
theorem strict_dec (n M : Nat) (h : n ≤ M) : strictOf M (Lib.decDigits n) = (0, n) := by
 have ha := dec_all n n (Nat.le_refl _)
 unfold strictOf
 rw [checkE_ok ha.2 ha.1, if_pos rfl, if_neg (by rw [dec_zeroLed]; exact Bool.false_ne_true)]
 unfold valE
 rw [valU_dec M n n (Nat.le_refl _) h]
 rfl
end Go.Proofs.YtjkdiojicmcbaaaGreatDoor
namespace Go.Proofs.YtjkdiojicmcbaaaGreatDoor
open Go.RowKit Go.Sort
def Pw (w : World) : Prop := Lib.TabIs Tryz.prog w "internal/strconv.uint64pow10" .u64 Lib.pow10Tab
theorem Pw.keep {w w' : World} (h : Pw w) (hq : Qb w w') : Pw w' := Lib.tabBelow_of_tabIs h w' hq
theorem Pw.drew {w : World} (h : Pw w) : Pw w.drew := h
theorem Pw.alloc {w : World} (h : Pw w) (o : Obj) : Pw (w.alloc o) := Lib.tabIs_alloc h o
theorem qb_grow (w : World) (k : Nat) (os : Array Obj) : Qb w (grow (w.drewN k) os) := Lib.below_grow w.heap.size w (Nat.le_refl _) k os
end Go.Proofs.YtjkdiojicmcbaaaGreatDoor
namespace Go.Proofs.YtjkdiojicmcbaaaGreatDoor
open Go.RowKit
theorem str_cons (x : Nat) (t : List UInt8) : (strOfNums [48 + (x : Int)] ++ S t : ByteArray) = S (UInt8.ofNat (48 + x) :: t) := by
 rw [← S_of (strOfNums [48 + (x : Int)] ++ S t), ByteArray.data_append, Array.toList_append, strOfNums_data]
 have : (48 + (x : Int)).toNat = 48 + x := by omega
 simp [this]
set_option maxHeartbeats 1000000 in
theorem rnFormat_any (u : Nat) (hu64 : u < 18446744073709551616) (w : World) :
  Calls Tryz.prog 106 #[.int .u64 u] w fun e w' => e = .returned (.string (S (Lib.decDigits u))) ∧ Qb w w' := by
 go_enter Tryz.func106, Tryz.ntmps106
 go_wp2_with fail
 go_loopw [0, 3] (fun n s wr => ∃ (m : Nat) (t : List UInt8), m ≤ u ∧ n = .int .u64 m ∧ s = .string (S t) ∧ Hid (Lib.decDigits u = Lib.decDigits m ++ t) ∧ Qb w wr) (fun n _ _ => (intOf n).toNat)
 case atStart => exact ⟨u, [], Nat.le_refl _, rfl, rfl, Lib.hid (by simp), Qb.refl w⟩
 case round =>
  obtain ⟨m, t, hm, rfl, rfl, HD, hq⟩ := hrel
  have hst := conv_new wr [48 + (m : Int) % 10] 1 rfl
  simp only [List.map_cons, List.map_nil] at hst
  have HC : Hid ((strOfNums [48 + (m : Int) % 10] ++ S t : ByteArray) = S (UInt8.ofNat (48 + m % 10) :: t)) := Lib.hid (str_cons (m % 10) t)
  have hsz : (S t).size ≤ 30 := by
   have h1 := congrArg List.length HD.out
   rw [List.length_append, Lib.decDigits_length] at h1
   have h2 := Lib.nDigits_le20 u hu64
   rw [S_size]; omega
  have hsx : (strOfNums [48 + (m : Int) % 10]).size ≤ 1 := by rw [← size_list, strOfNums_data]; simp
  by_cases h10 : m < 10
  ·have HN : Hid (Lib.decDigits u = UInt8.ofNat (48 + m % 10) :: t) := Lib.hid (by rw [HD.out, dec_one h10, Nat.mod_eq_of_lt h10]; rfl)
   have hz : ((m : Int) / 10 == 0) = true := by rw [beq_iff_eq]; omega
   clear HD
   go_wp2_with fail
   go_ret
   exact ⟨ret_str (by rw [HN.out, HC.out]), hq.alloc _⟩
  ·have HN : Hid (Lib.decDigits u = Lib.decDigits (m / 10) ++ (UInt8.ofNat (48 + m % 10) :: t)) := Lib.hid (by rw [HD.out, dec_more h10, List.append_assoc]; rfl)
   have hz : ((m : Int) / 10 == 0) = false := by rw [beq_eq_false_iff_ne]; omega
   clear HD
   go_wp2_with fail
   go_roundw
   case rel => exact ⟨m / 10, _, by omega, by go_num, congrArg Value.string HC.out, HN, hq.alloc _⟩
   case measure => simp [intOf]; omega
end Go.Proofs.YtjkdiojicmcbaaaGreatDoor
namespace Go.Proofs.YtjkdiojicmcbaaaGreatDoor
open Go.RowKit
def hvN (c : UInt8) : Nat := if c.toNat ≤ 57 then c.toNat - 48 else if c.toNat ≤ 70 then c.toNat - 55 else c.toNat - 87
def hv (c : UInt8) : UInt8 := UInt8.ofNat (hvN c)
theorem hex_cases {c : UInt8} (h : isHex c = true) : 48 ≤ c.toNat ∧ c.toNat ≤ 57 ∨ 97 ≤ c.toNat ∧ c.toNat ≤ 102 ∨ 65 ≤ c.toNat ∧ c.toNat ≤ 70 := of_decide_eq_true h
theorem hv_nat {c : UInt8} (h : isHex c = true) : (hv c).toNat = hvN c ∧ hvN c < 16 := by
 have := hex_cases h
 have h2 : hvN c < 16 := by unfold hvN; (repeat' split) <;> omega
 exact ⟨by unfold hv; rw [UInt8.toNat_ofNat']; omega, h2⟩
theorem and_223 : ∀ n : Fin 256, bits .and .u8 ((n.val : Nat) : Int) 223 = ((n.val &&& 223 : Nat) : Int) := by decide +kernel
theorem and_15 : ∀ n : Fin 256, bits .and .u8 ((n.val : Nat) : Int) 15 = ((n.val % 16 : Nat) : Int) := by decide +kernel
theorem hex_223 : ∀ n : Fin 256, (97 ≤ n.val ∧ n.val ≤ 102 ∨ 65 ≤ n.val ∧ n.val ≤ 70) → (n.val &&& 223) = (if n.val ≤ 70 then n.val else n.val - 32) := by decide +kernel
theorem pdigit_any (c : UInt8) (h : isHex c = true) (w : World) :
  Calls Tryz.prog 121 #[.int .u8 c.toNat] w fun e w' => e = .returned (.int .u8 (hv c).toNat) ∧ w = w' := by
 have H := Lib.hid h
 clear h
 go_enter Tryz.func121, Tryz.ntmps121
 go_wp2_with (go_at_call 117; refine (IsDigit_any _ _).mono ?_; rintro e w' ⟨rfl, rfl⟩)
 ·have hd : isDigit c = true := by assumption
  go_ret
  refine ⟨ret_int ?_, rfl⟩
  have h1 := hv_nat H.out
  have h2 : 48 ≤ c.toNat ∧ c.toNat ≤ 57 := of_decide_eq_true hd
  rw [h1.1]; unfold hvN; rw [if_pos h2.2]; omega
 ·have hd : isDigit c = false := by assumption
  go_ret
  refine ⟨ret_int ?_, rfl⟩
  have h1 := hv_nat H.out
  have h2 : ¬ (48 ≤ c.toNat ∧ c.toNat ≤ 57) := of_decide_eq_false hd
  have h3 := hex_cases H.out
  rw [h1.1, and_223 ⟨c.toNat, c.toNat_lt⟩, hex_223 ⟨c.toNat, c.toNat_lt⟩ (by show _ ∨ _; simp only; omega)]
  unfold hvN
  simp only
  split <;> split <;> (try split) <;> omega
theorem rdigit_any (c : UInt8) (h : isHex c = true) (w : World) :
  Calls Tryz.prog 115 #[.int .u8 c.toNat] w fun e w' => e = .returned (.int .u8 (hv c).toNat) ∧ w = w' := by
 have h1 := hv_nat h
 have h3 := hex_cases h
 have H := Lib.hid (And.intro h1 h3)
 clear h h1 h3
 go_enter Tryz.func115, Tryz.ntmps115
 go_wp2
 all_goals go_ret
 all_goals refine ⟨ret_int ?_, rfl⟩
 all_goals have h1 := H.out.1
 all_goals have h3 := H.out.2
 all_goals rw [h1.1]
 all_goals unfold hvN
 all_goals (repeat' split) <;> omega
def hexc (n : Nat) : UInt8 := [48, 49, 50, 51, 52, 53, 54, 55, 56, 57, 65, 66, 67, 68, 69, 70].getD n 0
def escB (c : UInt8) : List UInt8 := [37, hexc (c.toNat / 16), hexc (c.toNat % 16)]
theorem hexc_get (i : Nat) (h : i < ByteArray.size { data := #[48, 49, 50, 51, 52, 53, 54, 55, 56, 57, 65, 66, 67, 68, 69, 70] }) :
  ({ data := #[48, 49, 50, 51, 52, 53, 54, 55, 56, 57, 65, 66, 67, 68, 69, 70] } : ByteArray)[i] = hexc i := by
 have h' : i < [(48 : UInt8), 49, 50, 51, 52, 53, 54, 55, 56, 57, 65, 66, 67, 68, 69, 70].length := h
 unfold hexc
 rw [List.getD_eq_getElem?_getD, List.getElem?_eq_getElem h']
 rfl
theorem news3 (W : World) (a b c : Value) : ∀ j u, [a, b, c][j]? = some u → (W.alloc (.cells #[a, b, c] 5)).cell? ((⟨W.heap.size, 0, none⟩ : Addr).add j) = some u := by
 intro j u hj
 rw [add_plain, World.cell?_alloc_at _ _ _ _ rfl]
 simpa using hj
theorem news1 (W : World) (a : Value) : ∀ j u, [a][j]? = some u → (W.alloc (.cells #[a] 5)).cell? ((⟨W.heap.size, 0, none⟩ : Addr).add j) = some u := by
 intro j u hj
 rw [add_plain, World.cell?_alloc_at _ _ _ _ rfl]
 simpa using hj
theorem escB_cells (c : UInt8) (i j : Nat) (hi : i = c.toNat / 16) (hj : j = c.toNat % 16) (h1 : i < ByteArray.size { data := #[48, 49, 50, 51, 52, 53, 54, 55, 56, 57, 65, 66, 67, 68, 69, 70] }) (h2 : j < ByteArray.size { data := #[48, 49, 50, 51, 52, 53, 54, 55, 56, 57, 65, 66, 67, 68, 69, 70] }) :
  bv (escB c) = [.int .u8 37, .int .u8 (({ data := #[48, 49, 50, 51, 52, 53, 54, 55, 56, 57, 65, 66, 67, 68, 69, 70] } : ByteArray)[i]).toNat, .int .u8 (({ data := #[48, 49, 50, 51, 52, 53, 54, 55, 56, 57, 65, 66, 67, 68, 69, 70] } : ByteArray)[j]).toNat] := by
 rw [hexc_get, hexc_get, hi, hj]; rfl
theorem appendEscape_any (v : Value) (l : List UInt8) (c : UInt8) (B : Nat) (w : World) (h : Brow w B v l) (hl : l.length ≤ 1000000000) (hB : B ≤ w.heap.size) :
  Calls Tryz.prog 130 #[v, .int .u8 c.toNat] w fun e w' => ∃ v', e = .returned v' ∧ Brow w' B v' (l ++ escB c) ∧ Below B w w' := by
 have hc := c.toNat_lt
 have a1 : (0 : Int) ≤ (c.toNat : Int) / 16 := by omega
 have a2 : (c.toNat : Int) / 16 < 16 := by omega
 have b1 : (0 : Int) ≤ (c.toNat : Int) % 16 := by omega
 have b2 : (c.toNat : Int) % 16 < 16 := by omega
 have hand := and_15 ⟨c.toNat, c.toNat_lt⟩
 simp only at hand
 have hcells := Lib.hid (escB_cells c ((c.toNat : Int) / 16).toNat ((c.toNat : Int) % 16).toNat (by omega) (by omega) (by show _ < 16; omega) (by show _ < 16; omega))
 go_enter Tryz.func130, Tryz.ntmps130
 go_wp2_with fail
 go_region_law (first | (refine step_append_row rfl (.tmp 5) (.tmp 12) rfl B v l (escB c) rfl (Brow.drew (h.alloc _)) _ _ _ rfl rfl (by rw [hcells.out]; exact news3 _ _ _ _) (by simp [escB]; omega) (by simp; omega) ?_; intro v1 w1 hr1 hb1) | fail)
 all_goals have hb2 : Below B w w1 := (((Below.refl B w).alloc hB _).drew).trans hb1
 all_goals (try go_wp2_with fail)
 all_goals go_ret
 all_goals exact ⟨_, rfl, hr1, hb2⟩
theorem crow3 (W : World) (x y z : UInt8) : Crow ((W.alloc (.cells #[.int .u8 x.toNat, .int .u8 y.toNat, .int .u8 z.toNat] 5)).drew) W.heap.size [x, y, z] := by
 intro j hj
 refine ⟨?_, World.frozen?_alloc_at _ _ _ _ rfl⟩
 show (W.alloc _).cell? _ = _
 rw [World.cell?_alloc_at _ _ _ _ rfl]
 match j, hj with
 | 0, _ => rfl
 | 1, _ => rfl
 | 2, _ => rfl
theorem rEscape_any (c : UInt8) (w : World) :
  Calls Tryz.prog 84 #[.int .u8 c.toNat] w fun e w' => e = .returned (.string (S (escB c))) ∧ Qb w w' := by
 have hc := c.toNat_lt
 have e1 := hexc_get (c.toNat / 16) (by show _ < 16; omega)
 have e2 := hexc_get (c.toNat % 16) (by show _ < 16; omega)
 have hst : (convert 72 9 (.slice (some ⟨w.heap.size, 0, none⟩) 3 3)).run Tryz.prog ((w.alloc (.cells #[.int .u8 37, .int .u8 (hexc (c.toNat / 16)).toNat, .int .u8 (hexc (c.toNat % 16)).toNat] 5)).drew) = .ok (.string ⟨[37, hexc (c.toNat / 16), hexc (c.toNat % 16)].toArray⟩) _ := (crow3 w 37 (hexc (c.toNat / 16)) (hexc (c.toNat % 16))).str 3 3 rfl
 rw [← e1, ← e2] at hst
 have H := Lib.hid (And.intro e1 e2)
 clear e1 e2
 have a1 : (0 : Int) ≤ (c.toNat : Int) / 16 := by omega
 have a2 : (c.toNat : Int) / 16 < 16 := by omega
 have b1 : (0 : Int) ≤ (c.toNat : Int) % 16 := by omega
 have b2 : (c.toNat : Int) % 16 < 16 := by omega
 go_enter Tryz.func84, Tryz.ntmps84
 go_wp2_with fail
 go_region
 all_goals (try go_wp2_with fail)
 all_goals go_ret
 all_goals refine ⟨ret_str ?_, ((Qb.refl w).alloc _).drew⟩
 all_goals rw [H.out.1, H.out.2]
 all_goals rfl
def plainB (c : UInt8) (also : List UInt8) : Bool := isUnres c || (c.toNat != 37 && hasB c also)
theorem isPlain_any (c : UInt8) (s : ByteArray) (w : World) :
  Calls Tryz.prog 129 #[.int .u8 c.toNat, .string s] w fun e w' => e = .returned (.bool (plainB c s.data.toList)) ∧ w = w' := by
 go_enter Tryz.func129, Tryz.ntmps129
 go_wp2_with (first | (go_at_call 138; refine (IsUnres_any _ _).mono ?_; rintro e w' ⟨rfl, rfl⟩) | (go_at_call 148; refine (Tryz.strings_IndexByte _ _ _).mono ?_; rintro e w' ⟨rfl, rfl⟩))
 ·have h1 : isUnres c = true := by assumption
  go_ret
  exact ⟨ret_bool (by unfold plainB; rw [h1]; rfl), rfl⟩
 ·have h1 : ¬ isUnres c = true := by assumption
  have h2 : (c.toNat : Int) = 37 := by assumption
  go_ret
  refine ⟨ret_bool ?_, rfl⟩
  unfold plainB
  have h3 : c.toNat = 37 := by omega
  rw [Bool.eq_false_iff.2 h1, h3]; rfl
 ·have h1 : ¬ isUnres c = true := by assumption
  have h2 : ¬ (c.toNat : Int) = 37 := by assumption
  go_ret
  refine ⟨ret_bool ?_, rfl⟩
  unfold plainB hasB
  have h3 : ¬ c.toNat = 37 := by omega
  rw [Bool.eq_false_iff.2 h1, Lib.contains_iff_indexByte, bne_iff_ne.2 h3, bne_iff_ne.2 h2]; rfl
def escOk : List UInt8 → Bool
 | _ :: a :: b :: _ => isHex a && isHex b
 | _ => false
def escV : List UInt8 → UInt8
 | _ :: a :: b :: _ => UInt8.ofNat (16 * hvN a + hvN b)
 | _ => 0
theorem drop3 (s : ByteArray) (k : Nat) (h : k + 2 < s.size) : s.data.toList.drop k = s[k] :: s[k + 1] :: s[k + 2] :: s.data.toList.drop (k + 3) := by
 rw [drop_cons s k (by omega), drop_cons s (k + 1) (by omega), drop_cons s (k + 2) (by omega)]
theorem escOk_short (s : ByteArray) (k : Nat) (h : ¬ k + 2 < s.size) : escOk (s.data.toList.drop k) = false := by
 have hl : (s.data.toList.drop k).length ≤ 2 := by rw [List.length_drop, size_list]; omega
 revert hl
 generalize s.data.toList.drop k = l
 intro hl
 match l, hl with
 | [], _ => rfl
 | [_], _ => rfl
 | [_, _], _ => rfl
theorem isEscapeAt_any (s : ByteArray) (k : Nat) (hk : k ≤ s.size) (hs : s.size ≤ maxLen) (w : World) :
  Calls Tryz.prog 120 #[.string s, .int .i64 k] w fun e w' => e = .returned (.bool (escOk (s.data.toList.drop k))) ∧ w = w' := by
 unfold maxLen at hs
 by_cases hlt : k + 2 < s.size
 ·have HD := Lib.hid (drop3 s k hlt)
  go_enter Tryz.func120, Tryz.ntmps120
  go_wp2_with (go_at_call 153; refine (IsHex_any _ _).mono ?_; rintro e w' ⟨rfl, rfl⟩)
  ·have h1 : isHex s[k + 1] = true := by assumption
   go_ret
   exact ⟨ret_bool (by rw [HD.out]; simp only [escOk, h1, Bool.true_and]), rfl⟩
  ·have h1 : ¬ isHex s[k + 1] = true := by assumption
   go_ret
   exact ⟨ret_bool (by rw [HD.out]; simp only [escOk, Bool.eq_false_iff.2 h1, Bool.false_and]), rfl⟩
 ·have HD := Lib.hid (escOk_short s k hlt)
  go_enter Tryz.func120, Tryz.ntmps120
  go_wp2_with fail
  go_ret
  exact ⟨ret_bool HD.out.symm, rfl⟩
theorem escV_nat {a b : UInt8} (ha : isHex a = true) (hb : isHex b = true) : (UInt8.ofNat (16 * hvN a + hvN b)).toNat = 16 * (hv a).toNat + (hv b).toNat := by
 have h1 := hv_nat ha
 have h2 := hv_nat hb
 rw [UInt8.toNat_ofNat', h1.1, h2.1]; omega
def escR (l : List UInt8) : UInt8 := if escOk l = true then escV l else 0
theorem escR_no {l : List UInt8} (h : escOk l = false) : escR l = 0 := by unfold escR; rw [if_neg (by rw [h]; exact Bool.false_ne_true)]
theorem escR_yes {l : List UInt8} (h : escOk l = true) : escR l = escV l := if_pos h
theorem rescape_any (s : ByteArray) (k : Nat) (hk : k < s.size) (hs : s.size ≤ 140737488351232) (h37 : s[k] = 37) (w : World) :
  Calls Tryz.prog 82 #[.string s, .int .i64 k] w fun e w' => e = .returned (.tuple #[.int .u8 (escR (s.data.toList.drop k)).toNat, .bool (escOk (s.data.toList.drop k))]) ∧ Qb w w' := by
 have hne : ((s[k].toNat : Int) != 37) = false := by rw [h37]; rfl
 have H37 := Lib.hid h37
 clear h37
 by_cases hlt : k + 2 < s.size
 ·have HD := Lib.hid (drop3 s k hlt)
  rcases ha : isHex s[k + 1] with _ | _
  ·have ho : escOk (s.data.toList.drop k) = false := by rw [HD.out]; simp only [escOk, ha, Bool.false_and]
   have hr := escR_no ho
   have HO := Lib.hid (And.intro ho hr)
   clear ho hr
   go_enter Tryz.func82, Tryz.ntmps82
   go_wp2_with (go_at_call 114; refine (rIsHex_any _ _).mono ?_; rintro e w' ⟨rfl, rfl⟩)
   go_ret2
   exact ⟨by rw [HO.out.1, HO.out.2]; rfl, Qb.refl w⟩
  ·rcases hb : isHex s[k + 2] with _ | _
   ·have ho : escOk (s.data.toList.drop k) = false := by rw [HD.out]; simp only [escOk, hb, Bool.and_false]
    have hr := escR_no ho
    have HO := Lib.hid (And.intro ho hr)
    clear ho hr
    go_enter Tryz.func82, Tryz.ntmps82
    go_wp2_with (go_at_call 114; refine (rIsHex_any _ _).mono ?_; rintro e w' ⟨rfl, rfl⟩)
    go_ret2
    exact ⟨by rw [HO.out.1, HO.out.2]; rfl, Qb.refl w⟩
   ·have n1 := (hv_nat ha).2
    rw [← (hv_nat ha).1] at n1
    have n2 := (hv_nat hb).2
    rw [← (hv_nat hb).1] at n2
    have ho : escOk (s.data.toList.drop k) = true := by rw [HD.out]; simp only [escOk, ha, hb, Bool.and_true]
    have hr := escR_yes ho
    have hv2 : (escV (s.data.toList.drop k)).toNat = 16 * (hv s[k + 1]).toNat + (hv s[k + 2]).toNat := by
     rw [HD.out]; exact escV_nat ha hb
    have HO := Lib.hid (And.intro ho (And.intro hr hv2))
    clear ho hr hv2
    go_enter Tryz.func82, Tryz.ntmps82
    go_wp2_with (go_at_call 114; refine (rIsHex_any _ _).mono ?_; rintro e w' ⟨rfl, rfl⟩)
    go_quiet ((go_at_call 115; exact quiet_left (rdigit_any _ (by assumption) _)))
    go_wp2_with fail
    go_ret2
    exact ⟨by rw [HO.out.1, HO.out.2.1, HO.out.2.2, Int.natCast_add, Int.natCast_mul]; rfl, (Qb.refl w).drewN _⟩
 ·have ho := escOk_short s k hlt
  have hr := escR_no ho
  have HO := Lib.hid (And.intro ho hr)
  clear ho hr
  go_enter Tryz.func82, Tryz.ntmps82
  go_wp2_with fail
  go_ret2
  exact ⟨by rw [HO.out.1, HO.out.2]; rfl, Qb.refl w⟩
end Go.Proofs.YtjkdiojicmcbaaaGreatDoor
namespace Go.Proofs.YtjkdiojicmcbaaaGreatDoor
open Go.RowKit
abbrev Adder := List UInt8 → UInt8 → Bool → Int × List UInt8
def rwS (add : Adder) : Nat → List UInt8 → List UInt8 → Int × List UInt8
 | _, [], out => (0, out)
 | n + 1, _ :: l, out => rwS add n l out
 | 0, c :: l, out =>
  if c = 37 then
   if escOk (c :: l) = true then
    if (add out (escV (c :: l)) true).1 = 0 then rwS add 2 l (add out (escV (c :: l)) true).2 else ((add out (escV (c :: l)) true).1, [])
   else (2, [])
  else if (add out c false).1 = 0 then rwS add 0 l (add out c false).2 else ((add out c false).1, [])
section
variable (add : Adder) (s : ByteArray) (k : Nat) (out : List UInt8)
theorem rwS_end (n : Nat) (h : ¬ k < s.size) : rwS add n (s.data.toList.drop k) out = (0, out) := by
 rw [List.drop_of_length_le (by rw [size_list]; omega), rwS]
theorem rwS_skip (m : Nat) (h : k < s.size) (hm : k < m) : rwS add (m - k) (s.data.toList.drop k) out = rwS add (m - (k + 1)) (s.data.toList.drop (k + 1)) out := by
 rw [drop_cons s k h, show m - k = (m - (k + 1)) + 1 from by omega, rwS]
theorem rwS_bad (h : k < s.size) (hc : s[k] = 37) (he : escOk (s.data.toList.drop k) = false) : rwS add 0 (s.data.toList.drop k) out = (2, []) := by
 rw [drop_cons s k h] at he ⊢
 rw [rwS, if_pos hc, if_neg (by rw [he]; exact Bool.false_ne_true)]
theorem rwS_esc (h : k < s.size) (hc : s[k] = 37) (he : escOk (s.data.toList.drop k) = true) (ha : (add out (escV (s.data.toList.drop k)) true).1 = 0) :
  rwS add 0 (s.data.toList.drop k) out = rwS add (k + 3 - (k + 1)) (s.data.toList.drop (k + 1)) (add out (escV (s.data.toList.drop k)) true).2 := by
 rw [drop_cons s k h] at he ha
 rw [show k + 3 - (k + 1) = 2 from by omega]
 conv => lhs; rw [drop_cons s k h]
 rw [rwS, if_pos hc, if_pos he, if_pos ha, ← drop_cons s k h]
theorem rwS_esc_err (h : k < s.size) (hc : s[k] = 37) (he : escOk (s.data.toList.drop k) = true) (ha : (add out (escV (s.data.toList.drop k)) true).1 ≠ 0) :
  rwS add 0 (s.data.toList.drop k) out = ((add out (escV (s.data.toList.drop k)) true).1, []) := by
 rw [drop_cons s k h] at he ha ⊢
 rw [rwS, if_pos hc, if_pos he, if_neg ha]
theorem rwS_one (h : k < s.size) (hc : s[k] ≠ 37) (ha : (add out s[k] false).1 = 0) :
  rwS add 0 (s.data.toList.drop k) out = rwS add (k + 1 - (k + 1)) (s.data.toList.drop (k + 1)) (add out s[k] false).2 := by
 rw [Nat.sub_self]
 conv => lhs; rw [drop_cons s k h]
 rw [rwS, if_neg hc, if_pos ha]
theorem rwS_one_err (h : k < s.size) (hc : s[k] ≠ 37) (ha : (add out s[k] false).1 ≠ 0) :
  rwS add 0 (s.data.toList.drop k) out = ((add out s[k] false).1, []) := by
 conv => lhs; rw [drop_cons s k h]
 rw [rwS, if_neg hc, if_neg ha]
theorem escOk_long (he : escOk (s.data.toList.drop k) = true) : k + 2 < s.size := by
 rcases Nat.lt_or_ge (k + 2) s.size with h | h
 ·exact h
 ·rw [escOk_short s k (by omega)] at he; cases he
theorem escOk_hex (he : escOk (s.data.toList.drop k) = true) : ∃ h : k + 2 < s.size, isHex s[k + 1] = true ∧ isHex s[k + 2] = true ∧ (escV (s.data.toList.drop k)).toNat = 16 * (hv s[k + 1]).toNat + (hv s[k + 2]).toNat := by
 have h := escOk_long s k he
 rw [drop3 s k h] at he ⊢
 simp only [escOk, Bool.and_eq_true] at he
 exact ⟨h, he.1, he.2, escV_nat he.1 he.2⟩
end
def addD : Adder := fun out x _ => (0, out ++ [x])
def addN (also : List UInt8) : Adder := fun out x e => if (e && !isUnres x) = true then (0, out ++ escB x) else if plainB x also = true then (0, out ++ [x]) else (1, [])
def limL (r : Int × List UInt8) (n : Nat) : Int × List UInt8 := if 16384 < n then (5, []) else r
def decL (l : List UInt8) : Int × List UInt8 := limL (rwS addD 0 l []) l.length
def normL (l also : List UInt8) : Int × List UInt8 := limL (rwS (addN also) 0 l []) l.length
def encL (l keep : List UInt8) : List UInt8 := l.flatMap fun c => if plainB c keep = true then [c] else escB c
theorem or_shl : ∀ a b : Fin 16, bits .or .u8 (((a.val * 16 : Nat) : Int)) ((b.val : Nat) : Int) = ((16 * a.val + b.val : Nat) : Int) := by decide +kernel
def AddPost (r : Int × List UInt8) (B : Nat) (w : World) (en : Ending) (w' : World) : Prop :=
 ∃ v', en = .returned (.tuple #[v', .int .i64 r.1]) ∧ (r.1 = 0 → Brow w' B v' r.2) ∧ Below B w w'
theorem decAdd_any (v : Value) (l : List UInt8) (x : UInt8) (e : Bool) (B : Nat) (w : World) (h : Brow w B v l) (hl : l.length ≤ 1000000000) (hB : B ≤ w.heap.size) :
  Calls Tryz.prog 90 #[v, .int .u8 x.toNat, .bool e] w (AddPost (addD l x e) B w) := by
 go_enter Tryz.func90, Tryz.ntmps90
 go_wp2_with (at_builtin; refine wpList_append_row rfl (.tmp 8) (.tmp 10) rfl B v l [x] rfl (h.alloc _) _ _ _ rfl rfl (news1 _ _) (by simp; omega) (by simp; omega) ?_; intro v1 w1 hr1 hb1)
 go_ret2
 exact ⟨v1, rfl, fun _ => hr1, ((Below.refl B w).alloc hB _).trans hb1⟩
theorem addN_esc {also l : List UInt8} {x : UInt8} (hu : isUnres x = false) : addN also l x true = (0, l ++ escB x) := by unfold addN; rw [if_pos (by rw [hu]; rfl)]
theorem addN_plain {also l : List UInt8} {x : UInt8} {e : Bool} (hu : (e && !isUnres x) = false) (hp : plainB x also = true) : addN also l x e = (0, l ++ [x]) := by
 unfold addN; rw [if_neg (by rw [hu]; exact Bool.false_ne_true), if_pos hp]
theorem addN_bad {also l : List UInt8} {x : UInt8} {e : Bool} (hu : (e && !isUnres x) = false) (hp : plainB x also = false) : addN also l x e = (1, []) := by
 unfold addN; rw [if_neg (by rw [hu]; exact Bool.false_ne_true), if_neg (by rw [hp]; exact Bool.false_ne_true)]
theorem addN_len {also l : List UInt8} {x : UInt8} {e : Bool} : (addN also l x e).2.length ≤ l.length + 3 := by
 unfold addN
 repeat' split
 all_goals simp [escB]
theorem addD_len {l : List UInt8} {x : UInt8} {e : Bool} : (addD l x e).2.length ≤ l.length + 3 := by simp [addD]
theorem normAdd_any (v : Value) (l : List UInt8) (x : UInt8) (e : Bool) (B g : Nat) (also : ByteArray) (w : World) (h : Brow w B v l) (hl : l.length ≤ 1000000000) (hB : B ≤ w.heap.size) (hc : w.cell? ⟨g, 0, none⟩ = some (.string also)) :
  Calls Tryz.prog 137 #[v, .int .u8 x.toNat, .bool e, .pointer (some ⟨g, 0, none⟩)] w (AddPost (addN also.data.toList l x e) B w) := by
 rcases hu : (e && !isUnres x) with _ | _
 ·rcases hp : plainB x also.data.toList with _ | _
  ·rw [addN_bad hu hp]
   cases e
   ·clear hu
    go_enter Tryz.func137, Tryz.ntmps137
    go_wp2_with (go_at_call 129; refine (isPlain_any _ _ _).mono ?_; rintro e w' ⟨rfl, rfl⟩)
    go_ret2
    exact ⟨_, rfl, fun h => absurd h (by decide), Below.refl _ _⟩
   ·have hu' : isUnres x = true := by simpa using hu
    clear hu
    go_enter Tryz.func137, Tryz.ntmps137
    go_wp2_with (first | (go_at_call 138; refine (IsUnres_any _ _).mono ?_; rintro e w' ⟨rfl, rfl⟩) | (go_at_call 129; refine (isPlain_any _ _ _).mono ?_; rintro e w' ⟨rfl, rfl⟩))
    go_ret2
    exact ⟨_, rfl, fun h => absurd h (by decide), Below.refl _ _⟩
  ·rw [addN_plain hu hp]
   cases e
   ·clear hu
    go_enter Tryz.func137, Tryz.ntmps137
    go_wp2_with (first | (go_at_call 129; refine (isPlain_any _ _ _).mono ?_; rintro e w' ⟨rfl, rfl⟩) | (at_builtin; refine wpList_append_row rfl (.tmp 23) (.tmp 25) rfl B v l [x] rfl (h.alloc _) _ _ _ rfl rfl (news1 _ _) (by simp; omega) (by simp; omega) ?_; intro v1 w1 hr1 hb1))
    go_ret2
    exact ⟨v1, rfl, fun _ => hr1, ((Below.refl B _).alloc hB _).trans hb1⟩
   ·have hu' : isUnres x = true := by simpa using hu
    clear hu
    go_enter Tryz.func137, Tryz.ntmps137
    go_wp2_with (first | (go_at_call 138; refine (IsUnres_any _ _).mono ?_; rintro e w' ⟨rfl, rfl⟩) | (go_at_call 129; refine (isPlain_any _ _ _).mono ?_; rintro e w' ⟨rfl, rfl⟩) | (at_builtin; refine wpList_append_row rfl (.tmp 23) (.tmp 25) rfl B v l [x] rfl (h.alloc _) _ _ _ rfl rfl (news1 _ _) (by simp; omega) (by simp; omega) ?_; intro v1 w1 hr1 hb1))
    go_ret2
    exact ⟨v1, rfl, fun _ => hr1, ((Below.refl B _).alloc hB _).trans hb1⟩
 ·have he : e = true := by cases e <;> simp_all
  subst he
  have hu' : isUnres x = false := by simpa using hu
  clear hu
  rw [addN_esc hu']
  go_enter Tryz.func137, Tryz.ntmps137
  go_wp2_with (first | (go_at_call 138; refine (IsUnres_any _ _).mono ?_; rintro e w' ⟨rfl, rfl⟩) | (go_at_call 130; refine (appendEscape_any v l x B _ h hl hB).mono ?_; rintro e w1 ⟨v1, rfl, hr1, hb1⟩))
  go_ret2
  exact ⟨v1, rfl, fun _ => hr1, hb1⟩
end Go.Proofs.YtjkdiojicmcbaaaGreatDoor
