/- The functions of the seat's program in the short form: made by program, and compared with the program's text by the kernel. -/
import Derived.Test.YtkokcmpgebjiaaaDoorSxc
import Derived.Test.YtkokcmpgebjiaaaDoorProg
namespace Go.Proofs.YtkokcmpgebjiaaaDoor.Sx
open Go.RowKit
set_option linter.unusedVariables false
set_option maxRecDepth 100000

def c_law05_HostParses : SCode :=
  .seq (.reg [⟨some 3, .box 23 (.t 1), none⟩,
    ⟨some 4, .mv (.c (.b false)), none⟩])
  (.seq (.seq (.reg [⟨some 9, .call 10 [], none⟩,
    ⟨some 10, .not (.t 9), none⟩])
  (.cond (.t 10)
   (.seq (.reg [⟨some 4, .mv (.c (.b false)), none⟩])
   (.ret))
   (.skip)))
  (.seq (.seq (.reg [⟨some 11, .mv (.t 0), none⟩,
    ⟨some 12, .lens (.t 11), none⟩,
    ⟨some 13, .bin .gtr (.t 12) (.c (.i .i64 1000)), none⟩])
  (.cond (.t 13)
   (.seq (.reg [⟨some 4, .mv (.c (.b true)), none⟩])
   (.ret))
   (.skip)))
  (.seq (.reg [⟨some 15, .mv (.t 0), none⟩,
    ⟨some 16, .call 11 [.t 15], none⟩,
    ⟨some 14, .mv (.t 16), none⟩,
    ⟨some 17, .ext (.t 14) 0, none⟩,
    ⟨some 18, .ext (.t 14) 1, none⟩,
    ⟨some 5, .alloc 23 [.s [], .i .i64 0], none⟩,
    ⟨none, .store 2 (.t 5) (.t 17), none⟩,
    ⟨some 6, .mv (.t 18), none⟩])
  (.seq (.reg [⟨some 20, .mv (.t 0), none⟩,
    ⟨some 21, .call 12 [.t 20], none⟩,
    ⟨some 19, .mv (.t 21), none⟩,
    ⟨some 22, .ext (.t 19) 0, none⟩,
    ⟨some 23, .ext (.t 19) 1, none⟩,
    ⟨some 7, .alloc 23 [.s [], .i .i64 0], none⟩,
    ⟨none, .store 2 (.t 7) (.t 22), none⟩,
    ⟨some 8, .mv (.t 23), none⟩])
  (.seq (.drw [⟨some 24, .loadn 2 (.t 5), none⟩,
    ⟨some 25, .loadn 2 (.t 7), none⟩,
    ⟨some 26, .eqs false (.str [(0, (none, .ts)), (1, (none, .ti))]) (.t 24) (.t 25), none⟩,
    ⟨some 27, .mv (.t 26), none⟩,
    ⟨some 28, .mv (.t 6), some (27, true)⟩,
    ⟨some 29, .mv (.t 8), some (27, true)⟩,
    ⟨some 30, .bin .eql (.t 28) (.t 29), some (27, true)⟩,
    ⟨some 31, .pick (.t 27) (.t 30) (.c (.b false)), none⟩,
    ⟨some 32, .mv (.t 31), none⟩,
    ⟨some 33, .loadn 2 (.t 3), some (32, true)⟩,
    ⟨some 34, .call 13 [.t 33], some (32, true)⟩,
    ⟨some 35, .loadn 2 (.t 3), some (32, true)⟩,
    ⟨some 36, .call 14 [.t 35], some (32, true)⟩,
    ⟨some 37, .bin .eql (.t 34) (.t 36), some (32, true)⟩,
    ⟨some 38, .pick (.t 32) (.t 37) (.c (.b false)), none⟩,
    ⟨some 4, .mv (.t 38), none⟩] 16 [])
  (.ret))))))
theorem is_law05_HostParses : FnIs Tryd.prog 3 39 [.tmp 4] c_law05_HostParses := ⟨⟨_, _, Tryd.func3, rfl, rfl, by kernel_rfl, by kernel_rfl⟩⟩
def c_law05_HostBack : SCode :=
  .seq (.reg [⟨some 2, .mv (.c (.b false)), none⟩])
  (.seq (.seq (.reg [⟨some 9, .call 10 [], none⟩,
    ⟨some 10, .not (.t 9), none⟩])
  (.cond (.t 10)
   (.seq (.reg [⟨some 2, .mv (.c (.b false)), none⟩])
   (.ret))
   (.skip)))
  (.seq (.seq (.reg [⟨some 11, .mv (.t 0), none⟩,
    ⟨some 12, .lens (.t 11), none⟩,
    ⟨some 13, .bin .gtr (.t 12) (.c (.i .i64 1000)), none⟩])
  (.cond (.t 13)
   (.seq (.reg [⟨some 2, .mv (.c (.b true)), none⟩])
   (.ret))
   (.skip)))
  (.seq (.reg [⟨some 15, .mv (.t 0), none⟩,
    ⟨some 16, .call 11 [.t 15], none⟩,
    ⟨some 14, .mv (.t 16), none⟩,
    ⟨some 17, .ext (.t 14) 0, none⟩,
    ⟨some 18, .ext (.t 14) 1, none⟩,
    ⟨some 3, .alloc 23 [.s [], .i .i64 0], none⟩,
    ⟨none, .store 2 (.t 3) (.t 17), none⟩,
    ⟨some 4, .mv (.t 18), none⟩])
  (.seq (.seq (.reg [⟨some 19, .mv (.t 4), none⟩,
    ⟨some 20, .bin .neq (.t 19) (.c (.i .i64 0)), none⟩])
  (.cond (.t 20)
   (.seq (.reg [⟨some 21, .loadn 2 (.t 3), none⟩,
     ⟨some 22, .build [.s [], .i .i64 0] [], none⟩,
     ⟨some 23, .eqs false (.str [(0, (none, .ts)), (1, (none, .ti))]) (.t 21) (.t 22), none⟩,
     ⟨some 2, .mv (.t 23), none⟩])
   (.ret))
   (.skip)))
  (.seq (.reg [⟨some 25, .loadn 2 (.t 3), none⟩,
    ⟨some 26, .call 13 [.t 25], none⟩,
    ⟨some 27, .call 11 [.t 26], none⟩,
    ⟨some 24, .mv (.t 27), none⟩,
    ⟨some 28, .ext (.t 24) 0, none⟩,
    ⟨some 29, .ext (.t 24) 1, none⟩,
    ⟨some 5, .alloc 23 [.s [], .i .i64 0], none⟩,
    ⟨none, .store 2 (.t 5) (.t 28), none⟩,
    ⟨some 6, .mv (.t 29), none⟩])
  (.seq (.reg [⟨some 31, .fad 0 (.t 3), none⟩,
    ⟨some 32, .load1 (.t 31), none⟩,
    ⟨some 33, .call 15 [.t 32], none⟩,
    ⟨some 30, .mv (.t 33), none⟩,
    ⟨some 34, .ext (.t 30) 0, none⟩,
    ⟨some 35, .ext (.t 30) 1, none⟩,
    ⟨some 7, .mv (.t 34), none⟩,
    ⟨some 8, .mv (.t 35), none⟩])
  (.seq (.reg [⟨some 36, .mv (.t 6), none⟩,
    ⟨some 37, .bin .eql (.t 36) (.c (.i .i64 0)), none⟩,
    ⟨some 38, .mv (.t 37), none⟩,
    ⟨some 39, .loadn 2 (.t 5), some (38, true)⟩,
    ⟨some 40, .loadn 2 (.t 3), some (38, true)⟩,
    ⟨some 41, .eqs false (.str [(0, (none, .ts)), (1, (none, .ti))]) (.t 39) (.t 40), some (38, true)⟩,
    ⟨some 42, .pick (.t 38) (.t 41) (.c (.b false)), none⟩,
    ⟨some 43, .mv (.t 42), none⟩,
    ⟨some 44, .mv (.t 8), some (43, true)⟩,
    ⟨some 45, .bin .eql (.t 44) (.c (.i .i64 0)), some (43, true)⟩,
    ⟨some 46, .pick (.t 43) (.t 45) (.c (.b false)), none⟩,
    ⟨some 47, .mv (.t 46), none⟩,
    ⟨some 48, .mv (.t 7), some (47, true)⟩,
    ⟨some 49, .fad 0 (.t 3), some (47, true)⟩,
    ⟨some 50, .load1 (.t 49), some (47, true)⟩,
    ⟨some 51, .bin .eql (.t 48) (.t 50), some (47, true)⟩,
    ⟨some 52, .pick (.t 47) (.t 51) (.c (.b false)), none⟩,
    ⟨some 53, .mv (.t 52), none⟩,
    ⟨some 54, .fad 1 (.t 3), some (53, true)⟩,
    ⟨some 55, .load1 (.t 54), some (53, true)⟩,
    ⟨some 56, .bin .neq (.t 55) (.c (.i .i64 443)), some (53, true)⟩,
    ⟨some 57, .pick (.t 53) (.t 56) (.c (.b false)), none⟩,
    ⟨some 58, .mv (.t 57), none⟩,
    ⟨some 59, .fad 0 (.t 3), some (58, true)⟩,
    ⟨some 60, .load1 (.t 59), some (58, true)⟩,
    ⟨some 61, .lens (.t 60), some (58, true)⟩,
    ⟨some 62, .bin .leq (.t 61) (.c (.i .i64 253)), some (58, true)⟩,
    ⟨some 63, .pick (.t 58) (.t 62) (.c (.b false)), none⟩,
    ⟨some 2, .mv (.t 63), none⟩])
  (.ret))))))))
theorem is_law05_HostBack : FnIs Tryd.prog 4 64 [.tmp 2] c_law05_HostBack := ⟨⟨_, _, Tryd.func4, rfl, rfl, by kernel_rfl, by kernel_rfl⟩⟩
def c_law07_WeburlBack : SCode :=
  .seq (.reg [⟨some 4, .mv (.c (.b false)), none⟩])
  (.seq (.seq (.reg [⟨some 15, .call 16 [], none⟩,
    ⟨some 16, .not (.t 15), none⟩])
  (.cond (.t 16)
   (.seq (.reg [⟨some 4, .mv (.c (.b false)), none⟩])
   (.ret))
   (.skip)))
  (.seq (.seq (.reg [⟨some 17, .mv (.t 0), none⟩,
    ⟨some 18, .lens (.t 17), none⟩,
    ⟨some 19, .bin .gtr (.t 18) (.c (.i .i64 1000)), none⟩,
    ⟨some 20, .mv (.t 19), none⟩,
    ⟨some 21, .mv (.t 1), some (20, false)⟩,
    ⟨some 22, .lens (.t 21), some (20, false)⟩,
    ⟨some 23, .bin .gtr (.t 22) (.c (.i .i64 1000)), some (20, false)⟩,
    ⟨some 24, .pick (.t 20) (.c (.b true)) (.t 23), none⟩])
  (.cond (.t 24)
   (.seq (.reg [⟨some 4, .mv (.c (.b true)), none⟩])
   (.ret))
   (.skip)))
  (.seq (.reg [⟨some 26, .mv (.t 0), none⟩,
    ⟨some 27, .call 17 [.t 26], none⟩,
    ⟨some 25, .mv (.t 27), none⟩,
    ⟨some 28, .ext (.t 25) 0, none⟩,
    ⟨some 29, .ext (.t 25) 1, none⟩,
    ⟨some 5, .alloc 34 [.s [], .i .i64 0, .s [], .s [], .s [], .b false, .b false], none⟩,
    ⟨none, .store 7 (.t 5) (.t 28), none⟩,
    ⟨some 6, .mv (.t 29), none⟩])
  (.seq (.reg [⟨some 31, .mv (.t 1), none⟩,
    ⟨some 32, .call 17 [.t 31], none⟩,
    ⟨some 30, .mv (.t 32), none⟩,
    ⟨some 33, .ext (.t 30) 0, none⟩,
    ⟨some 34, .ext (.t 30) 1, none⟩,
    ⟨some 7, .alloc 34 [.s [], .i .i64 0, .s [], .s [], .s [], .b false, .b false], none⟩,
    ⟨none, .store 7 (.t 7) (.t 33), none⟩,
    ⟨some 8, .mv (.t 34), none⟩])
  (.seq (.seq (.reg [⟨some 35, .mv (.t 6), none⟩,
    ⟨some 36, .bin .neq (.t 35) (.c (.i .i64 0)), none⟩])
  (.cond (.t 36)
   (.seq (.reg [⟨some 37, .loadn 7 (.t 5), none⟩,
     ⟨some 38, .build [.s [], .i .i64 0, .s [], .s [], .s [], .b false, .b false] [], none⟩,
     ⟨some 39, .eqs false (.str [(0, (none, .ts)), (1, (none, .ti)), (2, (none, .ts)), (3, (none, .ts)), (4, (none, .ts)), (5, (none, .tb)), (6, (none, .tb))]) (.t 37) (.t 38), none⟩,
     ⟨some 4, .mv (.t 39), none⟩])
   (.ret))
   (.skip)))
  (.seq (.reg [⟨some 41, .loadn 7 (.t 5), none⟩,
    ⟨some 42, .call 18 [.t 41], none⟩,
    ⟨some 43, .call 17 [.t 42], none⟩,
    ⟨some 40, .mv (.t 43), none⟩,
    ⟨some 44, .ext (.t 40) 0, none⟩,
    ⟨some 45, .ext (.t 40) 1, none⟩,
    ⟨some 9, .alloc 34 [.s [], .i .i64 0, .s [], .s [], .s [], .b false, .b false], none⟩,
    ⟨none, .store 7 (.t 9) (.t 44), none⟩,
    ⟨some 10, .mv (.t 45), none⟩])
  (.seq (.seq (.reg [⟨some 46, .mv (.t 10), none⟩,
    ⟨some 47, .bin .neq (.t 46) (.c (.i .i64 0)), none⟩,
    ⟨some 48, .mv (.t 47), none⟩,
    ⟨some 49, .loadn 7 (.t 9), some (48, false)⟩,
    ⟨some 50, .loadn 7 (.t 5), some (48, false)⟩,
    ⟨some 51, .eqs true (.str [(0, (none, .ts)), (1, (none, .ti)), (2, (none, .ts)), (3, (none, .ts)), (4, (none, .ts)), (5, (none, .tb)), (6, (none, .tb))]) (.t 49) (.t 50), some (48, false)⟩,
    ⟨some 52, .pick (.t 48) (.c (.b true)) (.t 51), none⟩,
    ⟨some 53, .mv (.t 52), none⟩,
    ⟨some 54, .loadn 7 (.t 5), some (53, false)⟩,
    ⟨some 55, .call 19 [.t 54], some (53, false)⟩,
    ⟨some 56, .not (.t 55), some (53, false)⟩,
    ⟨some 57, .pick (.t 53) (.c (.b true)) (.t 56), none⟩])
  (.cond (.t 57)
   (.seq (.reg [⟨some 4, .mv (.c (.b false)), none⟩])
   (.ret))
   (.skip)))
  (.seq (.seq (.reg [⟨some 58, .mv (.t 8), none⟩,
    ⟨some 59, .bin .neq (.t 58) (.c (.i .i64 0)), none⟩])
  (.cond (.t 59)
   (.seq (.reg [⟨some 4, .mv (.c (.b true)), none⟩])
   (.ret))
   (.skip)))
  (.seq (.drw [⟨some 61, .loadn 7 (.t 7), none⟩,
    ⟨some 62, .loadn 7 (.t 5), none⟩,
    ⟨some 63, .pcall 18 [.t 62], none⟩,
    ⟨some 64, .pcall 20 [.t 61, .t 63], none⟩,
    ⟨some 60, .mv (.t 64), none⟩,
    ⟨some 65, .ext (.t 60) 0, none⟩,
    ⟨some 66, .ext (.t 60) 1, none⟩,
    ⟨some 11, .alloc 34 [.s [], .i .i64 0, .s [], .s [], .s [], .b false, .b false], none⟩,
    ⟨none, .store 7 (.t 11) (.t 65), none⟩,
    ⟨some 12, .mv (.t 66), none⟩] 10 [(7, 11), (5, 11)])
  (.seq (.reg [⟨some 68, .loadn 7 (.t 7), none⟩,
    ⟨some 69, .call 20 [.t 68, .c (.s [])], none⟩,
    ⟨some 67, .mv (.t 69), none⟩,
    ⟨some 70, .ext (.t 67) 0, none⟩,
    ⟨some 71, .ext (.t 67) 1, none⟩,
    ⟨some 13, .alloc 34 [.s [], .i .i64 0, .s [], .s [], .s [], .b false, .b false], none⟩,
    ⟨none, .store 7 (.t 13) (.t 70), none⟩,
    ⟨some 14, .mv (.t 71), none⟩])
  (.seq (.reg [⟨some 72, .fad 4 (.t 7), none⟩,
    ⟨none, .store 1 (.t 72) (.c (.s [])), none⟩,
    ⟨some 73, .fad 6 (.t 7), none⟩,
    ⟨none, .store 1 (.t 73) (.c (.b false)), none⟩])
  (.seq (.reg [⟨some 74, .mv (.t 12), none⟩,
    ⟨some 75, .bin .eql (.t 74) (.c (.i .i64 0)), none⟩,
    ⟨some 76, .mv (.t 75), none⟩,
    ⟨some 77, .loadn 7 (.t 11), some (76, true)⟩,
    ⟨some 78, .loadn 7 (.t 5), some (76, true)⟩,
    ⟨some 79, .eqs false (.str [(0, (none, .ts)), (1, (none, .ti)), (2, (none, .ts)), (3, (none, .ts)), (4, (none, .ts)), (5, (none, .tb)), (6, (none, .tb))]) (.t 77) (.t 78), some (76, true)⟩,
    ⟨some 80, .pick (.t 76) (.t 79) (.c (.b false)), none⟩,
    ⟨some 81, .mv (.t 80), none⟩,
    ⟨some 82, .mv (.t 14), some (81, true)⟩,
    ⟨some 83, .bin .eql (.t 82) (.c (.i .i64 0)), some (81, true)⟩,
    ⟨some 84, .pick (.t 81) (.t 83) (.c (.b false)), none⟩,
    ⟨some 85, .mv (.t 84), none⟩,
    ⟨some 86, .loadn 7 (.t 13), some (85, true)⟩,
    ⟨some 87, .loadn 7 (.t 7), some (85, true)⟩,
    ⟨some 88, .eqs false (.str [(0, (none, .ts)), (1, (none, .ti)), (2, (none, .ts)), (3, (none, .ts)), (4, (none, .ts)), (5, (none, .tb)), (6, (none, .tb))]) (.t 86) (.t 87), some (85, true)⟩,
    ⟨some 89, .pick (.t 85) (.t 88) (.c (.b false)), none⟩,
    ⟨some 4, .mv (.t 89), none⟩])
  (.ret)))))))))))))
theorem is_law07_WeburlBack : FnIs Tryd.prog 5 90 [.tmp 4] c_law07_WeburlBack := ⟨⟨_, _, Tryd.func5, rfl, rfl, by kernel_rfl, by kernel_rfl⟩⟩
def c_law10_DidParses : SCode :=
  .seq (.reg [⟨some 2, .mv (.c (.b false)), none⟩])
  (.seq (.seq (.reg [⟨some 11, .call 21 [], none⟩,
    ⟨some 12, .not (.t 11), none⟩])
  (.cond (.t 12)
   (.seq (.reg [⟨some 2, .mv (.c (.b false)), none⟩])
   (.ret))
   (.skip)))
  (.seq (.seq (.reg [⟨some 13, .mv (.t 0), none⟩,
    ⟨some 14, .lens (.t 13), none⟩,
    ⟨some 15, .bin .gtr (.t 14) (.c (.i .i64 3000)), none⟩,
    ⟨some 16, .mv (.t 15), none⟩,
    ⟨some 17, .mv (.t 0), some (16, true)⟩,
    ⟨some 18, .lens (.t 17), some (16, true)⟩,
    ⟨some 19, .bin .leq (.t 18) (.c (.i .i64 4096)), some (16, true)⟩,
    ⟨some 20, .pick (.t 16) (.t 19) (.c (.b false)), none⟩])
  (.cond (.t 20)
   (.seq (.reg [⟨some 2, .mv (.c (.b true)), none⟩])
   (.ret))
   (.skip)))
  (.seq (.reg [⟨some 22, .mv (.t 0), none⟩,
    ⟨some 23, .call 22 [.t 22], none⟩,
    ⟨some 21, .mv (.t 23), none⟩,
    ⟨some 24, .ext (.t 21) 0, none⟩,
    ⟨some 25, .ext (.t 21) 1, none⟩,
    ⟨some 3, .alloc 42 [.s [], .s []], none⟩,
    ⟨none, .store 2 (.t 3) (.t 24), none⟩,
    ⟨some 4, .mv (.t 25), none⟩])
  (.seq (.reg [⟨some 27, .mv (.t 0), none⟩,
    ⟨some 28, .call 23 [.t 27], none⟩,
    ⟨some 26, .mv (.t 28), none⟩,
    ⟨some 29, .ext (.t 26) 0, none⟩,
    ⟨some 30, .ext (.t 26) 1, none⟩,
    ⟨some 5, .alloc 42 [.s [], .s []], none⟩,
    ⟨none, .store 2 (.t 5) (.t 29), none⟩,
    ⟨some 6, .mv (.t 30), none⟩])
  (.seq (.reg [⟨some 32, .mv (.t 0), none⟩,
    ⟨some 33, .call 24 [.t 32], none⟩,
    ⟨some 31, .mv (.t 33), none⟩,
    ⟨some 34, .ext (.t 31) 0, none⟩,
    ⟨some 35, .ext (.t 31) 1, none⟩,
    ⟨some 7, .alloc 46 [.s [], .s [], .s [], .s [], .s [], .b false, .b false], none⟩,
    ⟨none, .store 7 (.t 7) (.t 34), none⟩,
    ⟨some 8, .mv (.t 35), none⟩])
  (.seq (.reg [⟨some 37, .mv (.t 0), none⟩,
    ⟨some 38, .call 25 [.t 37], none⟩,
    ⟨some 36, .mv (.t 38), none⟩,
    ⟨some 39, .ext (.t 36) 0, none⟩,
    ⟨some 40, .ext (.t 36) 1, none⟩,
    ⟨some 9, .alloc 46 [.s [], .s [], .s [], .s [], .s [], .b false, .b false], none⟩,
    ⟨none, .store 7 (.t 9) (.t 39), none⟩,
    ⟨some 10, .mv (.t 40), none⟩])
  (.seq (.reg [⟨some 41, .loadn 2 (.t 3), none⟩,
    ⟨some 42, .loadn 2 (.t 5), none⟩,
    ⟨some 43, .eqs false (.str [(0, (none, .ts)), (1, (none, .ts))]) (.t 41) (.t 42), none⟩,
    ⟨some 44, .mv (.t 43), none⟩,
    ⟨some 45, .mv (.t 4), some (44, true)⟩,
    ⟨some 46, .mv (.t 6), some (44, true)⟩,
    ⟨some 47, .bin .eql (.t 45) (.t 46), some (44, true)⟩,
    ⟨some 48, .pick (.t 44) (.t 47) (.c (.b false)), none⟩,
    ⟨some 49, .mv (.t 48), none⟩,
    ⟨some 50, .loadn 7 (.t 7), some (49, true)⟩,
    ⟨some 51, .loadn 7 (.t 9), some (49, true)⟩,
    ⟨some 52, .eqs false (.str [(0, (some 2, .str [(0, (none, .ts)), (1, (none, .ts))])), (2, (none, .ts)), (3, (none, .ts)), (4, (none, .ts)), (5, (none, .tb)), (6, (none, .tb))]) (.t 50) (.t 51), some (49, true)⟩,
    ⟨some 53, .pick (.t 49) (.t 52) (.c (.b false)), none⟩,
    ⟨some 54, .mv (.t 53), none⟩,
    ⟨some 55, .mv (.t 8), some (54, true)⟩,
    ⟨some 56, .mv (.t 10), some (54, true)⟩,
    ⟨some 57, .bin .eql (.t 55) (.t 56), some (54, true)⟩,
    ⟨some 58, .pick (.t 54) (.t 57) (.c (.b false)), none⟩,
    ⟨some 2, .mv (.t 58), none⟩])
  (.ret))))))))
theorem is_law10_DidParses : FnIs Tryd.prog 6 59 [.tmp 2] c_law10_DidParses := ⟨⟨_, _, Tryd.func6, rfl, rfl, by kernel_rfl, by kernel_rfl⟩⟩
def c_law10_DidFormats : SCode :=
  .seq (.reg [⟨some 1, .box 46 (.t 0), none⟩,
    ⟨some 2, .mv (.c (.b false)), none⟩])
  (.seq (.drw [⟨some 3, .call 21 [], none⟩,
    ⟨some 4, .mv (.t 3), none⟩,
    ⟨some 5, .fad 0 (.t 1), some (4, true)⟩,
    ⟨some 6, .loadn 2 (.t 5), some (4, true)⟩,
    ⟨some 7, .call 26 [.t 6], some (4, true)⟩,
    ⟨some 8, .fad 0 (.t 1), some (4, true)⟩,
    ⟨some 9, .loadn 2 (.t 8), some (4, true)⟩,
    ⟨some 10, .call 27 [.t 9], some (4, true)⟩,
    ⟨some 11, .bin .eql (.t 7) (.t 10), some (4, true)⟩,
    ⟨some 12, .pick (.t 4) (.t 11) (.c (.b false)), none⟩,
    ⟨some 13, .mv (.t 12), none⟩,
    ⟨some 14, .loadn 7 (.t 1), some (13, true)⟩,
    ⟨some 15, .call 28 [.t 14], some (13, true)⟩,
    ⟨some 16, .loadn 7 (.t 1), some (13, true)⟩,
    ⟨some 17, .call 29 [.t 16], some (13, true)⟩,
    ⟨some 18, .bin .eql (.t 15) (.t 17), some (13, true)⟩,
    ⟨some 19, .pick (.t 13) (.t 18) (.c (.b false)), none⟩,
    ⟨some 2, .mv (.t 19), none⟩] 18 [])
  (.ret))
theorem is_law10_DidFormats : FnIs Tryd.prog 7 20 [.tmp 2] c_law10_DidFormats := ⟨⟨_, _, Tryd.func7, rfl, rfl, by kernel_rfl, by kernel_rfl⟩⟩
def c_law10_DidResolves : SCode :=
  .seq (.reg [⟨some 3, .box 42 (.t 0), none⟩,
    ⟨some 6, .mv (.c (.b false)), none⟩])
  (.seq (.seq (.reg [⟨some 15, .call 21 [], none⟩,
    ⟨some 16, .not (.t 15), none⟩])
  (.cond (.t 16)
   (.seq (.reg [⟨some 6, .mv (.c (.b false)), none⟩])
   (.ret))
   (.skip)))
  (.seq (.seq (.reg [⟨some 17, .fad 0 (.t 3), none⟩,
    ⟨some 18, .load1 (.t 17), none⟩,
    ⟨some 19, .lens (.t 18), none⟩,
    ⟨some 20, .fad 1 (.t 3), none⟩,
    ⟨some 21, .load1 (.t 20), none⟩,
    ⟨some 22, .lens (.t 21), none⟩,
    ⟨some 23, .bin .add (.t 19) (.t 22), none⟩,
    ⟨some 24, .bin .gtr (.t 23) (.c (.i .i64 500)), none⟩,
    ⟨some 25, .mv (.t 24), none⟩,
    ⟨some 26, .mv (.t 1), some (25, false)⟩,
    ⟨some 27, .lens (.t 26), some (25, false)⟩,
    ⟨some 28, .bin .gtr (.t 27) (.c (.i .i64 500)), some (25, false)⟩,
    ⟨some 29, .pick (.t 25) (.c (.b true)) (.t 28), none⟩,
    ⟨some 30, .mv (.t 29), none⟩,
    ⟨some 31, .mv (.t 2), some (30, false)⟩,
    ⟨some 32, .lens (.t 31), some (30, false)⟩,
    ⟨some 33, .bin .gtr (.t 32) (.c (.i .i64 500)), some (30, false)⟩,
    ⟨some 34, .pick (.t 30) (.c (.b true)) (.t 33), none⟩])
  (.cond (.t 34)
   (.seq (.reg [⟨some 6, .mv (.c (.b true)), none⟩])
   (.ret))
   (.skip)))
  (.seq (.reg [⟨some 36, .mv (.t 1), none⟩,
    ⟨some 37, .call 23 [.t 36], none⟩,
    ⟨some 35, .mv (.t 37), none⟩,
    ⟨some 38, .ext (.t 35) 0, none⟩,
    ⟨some 39, .ext (.t 35) 1, none⟩,
    ⟨some 7, .alloc 42 [.s [], .s []], none⟩,
    ⟨none, .store 2 (.t 7) (.t 38), none⟩,
    ⟨some 8, .mv (.t 39), none⟩])
  (.seq (.seq (.reg [⟨some 40, .loadn 2 (.t 3), none⟩,
    ⟨some 41, .loadn 2 (.t 7), none⟩,
    ⟨some 42, .bslice 2 [.s [], .s [], .s [], .s []] [(0, (2, .t 40)), (2, (2, .t 41))], none⟩,
    ⟨some 43, .lenr (.t 42), none⟩,
    ⟨some 44, .mv (.c (.i .i64 0)), none⟩])
  (.blk 0
   (.loop
    (.seq (.reg [⟨some 45, .bin .lss (.t 44) (.t 43), none⟩])
    (.seq (.cond (.t 45)
     (.skip)
     (.exit 0))
    (.seq (.blk 1
     (.seq (.reg [⟨some 46, .iad 2 (.t 42) (.t 44), none⟩,
       ⟨some 47, .loadn 2 (.t 46), none⟩,
       ⟨some 10, .alloc 42 [.s [], .s []], none⟩,
       ⟨none, .store 2 (.t 10) (.t 47), none⟩])
     (.seq (.reg [⟨some 49, .loadn 2 (.t 10), none⟩,
       ⟨some 50, .mv (.t 2), none⟩,
       ⟨some 51, .call 30 [.t 49, .t 50], none⟩,
       ⟨some 48, .mv (.t 51), none⟩,
       ⟨some 52, .ext (.t 48) 0, none⟩,
       ⟨some 53, .ext (.t 48) 1, none⟩,
       ⟨some 11, .alloc 46 [.s [], .s [], .s [], .s [], .s [], .b false, .b false], none⟩,
       ⟨none, .store 7 (.t 11) (.t 52), none⟩,
       ⟨some 12, .mv (.t 53), none⟩])
     (.seq (.reg [⟨some 55, .loadn 2 (.t 10), none⟩,
       ⟨some 56, .mv (.t 2), none⟩,
       ⟨some 57, .call 31 [.t 55, .t 56], none⟩,
       ⟨some 54, .mv (.t 57), none⟩,
       ⟨some 58, .ext (.t 54) 0, none⟩,
       ⟨some 59, .ext (.t 54) 1, none⟩,
       ⟨some 13, .alloc 46 [.s [], .s [], .s [], .s [], .s [], .b false, .b false], none⟩,
       ⟨none, .store 7 (.t 13) (.t 58), none⟩,
       ⟨some 14, .mv (.t 59), none⟩])
     (.seq (.reg [⟨some 60, .loadn 7 (.t 11), none⟩,
       ⟨some 61, .loadn 7 (.t 13), none⟩,
       ⟨some 62, .eqs true (.str [(0, (some 2, .str [(0, (none, .ts)), (1, (none, .ts))])), (2, (none, .ts)), (3, (none, .ts)), (4, (none, .ts)), (5, (none, .tb)), (6, (none, .tb))]) (.t 60) (.t 61), none⟩,
       ⟨some 63, .mv (.t 62), none⟩,
       ⟨some 64, .mv (.t 12), some (63, false)⟩,
       ⟨some 65, .mv (.t 14), some (63, false)⟩,
       ⟨some 66, .bin .neq (.t 64) (.t 65), some (63, false)⟩,
       ⟨some 67, .pick (.t 63) (.c (.b true)) (.t 66), none⟩])
     (.cond (.t 67)
      (.seq (.reg [⟨some 6, .mv (.c (.b false)), none⟩])
      (.ret))
      (.skip)))))))
    (.reg [⟨some 68, .bin .add (.t 44) (.c (.i .i64 1)), none⟩,
      ⟨some 44, .mv (.t 68), none⟩])))))))
  (.seq (.reg [⟨some 6, .mv (.c (.b true)), none⟩])
  (.ret))))))
theorem is_law10_DidResolves : FnIs Tryd.prog 8 69 [.tmp 6] c_law10_DidResolves := ⟨⟨_, _, Tryd.func8, rfl, rfl, by kernel_rfl, by kernel_rfl⟩⟩
def c_law10_DidBack : SCode :=
  .seq (.reg [⟨some 2, .mv (.c (.b false)), none⟩])
  (.seq (.seq (.reg [⟨some 11, .call 21 [], none⟩,
    ⟨some 12, .not (.t 11), none⟩])
  (.cond (.t 12)
   (.seq (.reg [⟨some 2, .mv (.c (.b false)), none⟩])
   (.ret))
   (.skip)))
  (.seq (.seq (.reg [⟨some 13, .mv (.t 0), none⟩,
    ⟨some 14, .lens (.t 13), none⟩,
    ⟨some 15, .bin .gtr (.t 14) (.c (.i .i64 1000)), none⟩])
  (.cond (.t 15)
   (.seq (.reg [⟨some 2, .mv (.c (.b true)), none⟩])
   (.ret))
   (.skip)))
  (.seq (.reg [⟨some 17, .mv (.t 0), none⟩,
    ⟨some 18, .call 24 [.t 17], none⟩,
    ⟨some 16, .mv (.t 18), none⟩,
    ⟨some 19, .ext (.t 16) 0, none⟩,
    ⟨some 20, .ext (.t 16) 1, none⟩,
    ⟨some 3, .alloc 46 [.s [], .s [], .s [], .s [], .s [], .b false, .b false], none⟩,
    ⟨none, .store 7 (.t 3) (.t 19), none⟩,
    ⟨some 4, .mv (.t 20), none⟩])
  (.seq (.seq (.reg [⟨some 22, .mv (.t 0), none⟩,
    ⟨some 23, .call 22 [.t 22], none⟩,
    ⟨some 21, .mv (.t 23), none⟩,
    ⟨some 24, .ext (.t 21) 0, none⟩,
    ⟨some 25, .ext (.t 21) 1, none⟩,
    ⟨some 5, .alloc 42 [.s [], .s []], none⟩,
    ⟨none, .store 2 (.t 5) (.t 24), none⟩,
    ⟨some 6, .mv (.t 25), none⟩])
  (.seq (.drw [⟨some 26, .mv (.t 6), none⟩,
    ⟨some 27, .bin .eql (.t 26) (.c (.i .i64 0)), none⟩,
    ⟨some 28, .mv (.t 27), none⟩,
    ⟨some 29, .mv (.t 4), some (28, true)⟩,
    ⟨some 30, .bin .neq (.t 29) (.c (.i .i64 0)), some (28, true)⟩,
    ⟨some 31, .mv (.t 30), some (28, true)⟩,
    ⟨some 32, .loadn 7 (.t 3), some (31, false)⟩,
    ⟨some 33, .loadn 2 (.t 5), some (31, false)⟩,
    ⟨some 34, .build [.s [], .s [], .s [], .s [], .s [], .b false, .b false] [(0, (2, .t 33))], some (31, false)⟩,
    ⟨some 35, .eqs true (.str [(0, (some 2, .str [(0, (none, .ts)), (1, (none, .ts))])), (2, (none, .ts)), (3, (none, .ts)), (4, (none, .ts)), (5, (none, .tb)), (6, (none, .tb))]) (.t 32) (.t 34), some (31, false)⟩,
    ⟨some 36, .pick (.t 31) (.c (.b true)) (.t 35), some (28, true)⟩,
    ⟨some 37, .mv (.t 36), some (28, true)⟩,
    ⟨some 38, .loadn 2 (.t 5), some (37, false)⟩,
    ⟨some 39, .call 26 [.t 38], some (37, false)⟩,
    ⟨some 40, .loadn 7 (.t 3), some (37, false)⟩,
    ⟨some 41, .call 28 [.t 40], some (37, false)⟩,
    ⟨some 42, .bin .neq (.t 39) (.t 41), some (37, false)⟩,
    ⟨some 43, .pick (.t 37) (.c (.b true)) (.t 42), some (28, true)⟩,
    ⟨some 44, .pick (.t 28) (.t 43) (.c (.b false)), none⟩] 19 [])
  (.cond (.t 44)
   (.seq (.reg [⟨some 2, .mv (.c (.b false)), none⟩])
   (.ret))
   (.skip))))
  (.seq (.seq (.reg [⟨some 45, .mv (.t 4), none⟩,
    ⟨some 46, .bin .neq (.t 45) (.c (.i .i64 0)), none⟩])
  (.cond (.t 46)
   (.seq (.reg [⟨some 47, .loadn 7 (.t 3), none⟩,
     ⟨some 48, .build [.s [], .s [], .s [], .s [], .s [], .b false, .b false] [], none⟩,
     ⟨some 49, .eqs false (.str [(0, (some 2, .str [(0, (none, .ts)), (1, (none, .ts))])), (2, (none, .ts)), (3, (none, .ts)), (4, (none, .ts)), (5, (none, .tb)), (6, (none, .tb))]) (.t 47) (.t 48), none⟩,
     ⟨some 2, .mv (.t 49), none⟩])
   (.ret))
   (.skip)))
  (.seq (.reg [⟨some 51, .loadn 7 (.t 3), none⟩,
    ⟨some 52, .call 28 [.t 51], none⟩,
    ⟨some 53, .call 24 [.t 52], none⟩,
    ⟨some 50, .mv (.t 53), none⟩,
    ⟨some 54, .ext (.t 50) 0, none⟩,
    ⟨some 55, .ext (.t 50) 1, none⟩,
    ⟨some 7, .alloc 46 [.s [], .s [], .s [], .s [], .s [], .b false, .b false], none⟩,
    ⟨none, .store 7 (.t 7) (.t 54), none⟩,
    ⟨some 8, .mv (.t 55), none⟩])
  (.seq (.reg [⟨some 57, .fad 0 (.t 3), none⟩,
    ⟨some 58, .loadn 2 (.t 57), none⟩,
    ⟨some 59, .call 30 [.t 58, .c (.s [])], none⟩,
    ⟨some 56, .mv (.t 59), none⟩,
    ⟨some 60, .ext (.t 56) 0, none⟩,
    ⟨some 61, .ext (.t 56) 1, none⟩,
    ⟨some 9, .alloc 46 [.s [], .s [], .s [], .s [], .s [], .b false, .b false], none⟩,
    ⟨none, .store 7 (.t 9) (.t 60), none⟩,
    ⟨some 10, .mv (.t 61), none⟩])
  (.seq (.reg [⟨some 62, .mv (.t 8), none⟩,
    ⟨some 63, .bin .eql (.t 62) (.c (.i .i64 0)), none⟩,
    ⟨some 64, .mv (.t 63), none⟩,
    ⟨some 65, .loadn 7 (.t 7), some (64, true)⟩,
    ⟨some 66, .loadn 7 (.t 3), some (64, true)⟩,
    ⟨some 67, .eqs false (.str [(0, (some 2, .str [(0, (none, .ts)), (1, (none, .ts))])), (2, (none, .ts)), (3, (none, .ts)), (4, (none, .ts)), (5, (none, .tb)), (6, (none, .tb))]) (.t 65) (.t 66), some (64, true)⟩,
    ⟨some 68, .pick (.t 64) (.t 67) (.c (.b false)), none⟩,
    ⟨some 69, .mv (.t 68), none⟩,
    ⟨some 70, .mv (.t 10), some (69, true)⟩,
    ⟨some 71, .bin .eql (.t 70) (.c (.i .i64 0)), some (69, true)⟩,
    ⟨some 72, .pick (.t 69) (.t 71) (.c (.b false)), none⟩,
    ⟨some 73, .mv (.t 72), none⟩,
    ⟨some 74, .loadn 7 (.t 9), some (73, true)⟩,
    ⟨some 75, .fad 0 (.t 3), some (73, true)⟩,
    ⟨some 76, .loadn 2 (.t 75), some (73, true)⟩,
    ⟨some 77, .build [.s [], .s [], .s [], .s [], .s [], .b false, .b false] [(0, (2, .t 76))], some (73, true)⟩,
    ⟨some 78, .eqs false (.str [(0, (some 2, .str [(0, (none, .ts)), (1, (none, .ts))])), (2, (none, .ts)), (3, (none, .ts)), (4, (none, .ts)), (5, (none, .tb)), (6, (none, .tb))]) (.t 74) (.t 77), some (73, true)⟩,
    ⟨some 79, .pick (.t 73) (.t 78) (.c (.b false)), none⟩,
    ⟨some 2, .mv (.t 79), none⟩])
  (.ret)))))))))
theorem is_law10_DidBack : FnIs Tryd.prog 9 80 [.tmp 2] c_law10_DidBack := ⟨⟨_, _, Tryd.func9, rfl, rfl, by kernel_rfl, by kernel_rfl⟩⟩
def c_law05_sane : SCode :=
  .seq (.reg [⟨some 0, .mv (.c (.b false)), none⟩])
  (.seq (.reg [⟨some 8, .call 11 [.c (.s [69, 120, 97, 109, 112, 108, 101, 46, 67, 79, 77, 58, 52, 52, 51])], none⟩,
    ⟨some 7, .mv (.t 8), none⟩,
    ⟨some 9, .ext (.t 7) 0, none⟩,
    ⟨some 10, .ext (.t 7) 1, none⟩,
    ⟨some 1, .alloc 23 [.s [], .i .i64 0], none⟩,
    ⟨none, .store 2 (.t 1) (.t 9), none⟩,
    ⟨some 2, .mv (.t 10), none⟩])
  (.seq (.reg [⟨some 12, .call 15 [.c (.s [49, 46, 50, 46, 51])], none⟩,
    ⟨some 11, .mv (.t 12), none⟩,
    ⟨some 13, .ext (.t 11) 0, none⟩,
    ⟨some 14, .ext (.t 11) 1, none⟩,
    ⟨some 3, .mv (.t 13), none⟩,
    ⟨some 4, .mv (.t 14), none⟩])
  (.seq (.reg [⟨some 16, .call 15 [.c (.s [97, 46, 46, 98])], none⟩,
    ⟨some 15, .mv (.t 16), none⟩,
    ⟨some 17, .ext (.t 15) 0, none⟩,
    ⟨some 18, .ext (.t 15) 1, none⟩,
    ⟨some 5, .mv (.t 17), none⟩,
    ⟨some 6, .mv (.t 18), none⟩])
  (.seq (.reg [⟨some 19, .mv (.t 2), none⟩,
    ⟨some 20, .bin .eql (.t 19) (.c (.i .i64 0)), none⟩,
    ⟨some 21, .mv (.t 20), none⟩,
    ⟨some 22, .loadn 2 (.t 1), some (21, true)⟩,
    ⟨some 23, .build [.s [], .i .i64 0] [(0, (1, .c (.s [101, 120, 97, 109, 112, 108, 101, 46, 99, 111, 109])))], some (21, true)⟩,
    ⟨some 24, .eqs false (.str [(0, (none, .ts)), (1, (none, .ti))]) (.t 22) (.t 23), some (21, true)⟩,
    ⟨some 25, .pick (.t 21) (.t 24) (.c (.b false)), none⟩,
    ⟨some 26, .mv (.t 25), none⟩,
    ⟨some 27, .mv (.t 4), some (26, true)⟩,
    ⟨some 28, .bin .eql (.t 27) (.c (.i .i64 50)), some (26, true)⟩,
    ⟨some 29, .pick (.t 26) (.t 28) (.c (.b false)), none⟩,
    ⟨some 30, .mv (.t 29), none⟩,
    ⟨some 31, .mv (.t 6), some (30, true)⟩,
    ⟨some 32, .bin .eql (.t 31) (.c (.i .i64 50)), some (30, true)⟩,
    ⟨some 33, .pick (.t 30) (.t 32) (.c (.b false)), none⟩,
    ⟨some 34, .mv (.t 33), none⟩,
    ⟨some 35, .call 32 [.c (.s [49, 46, 50, 46, 51, 46, 52])], some (34, true)⟩,
    ⟨some 36, .pick (.t 34) (.t 35) (.c (.b false)), none⟩,
    ⟨some 37, .mv (.t 36), none⟩,
    ⟨some 38, .call 32 [.c (.s [48, 49, 46, 50, 46, 51, 46, 52])], some (37, true)⟩,
    ⟨some 39, .not (.t 38), some (37, true)⟩,
    ⟨some 40, .pick (.t 37) (.t 39) (.c (.b false)), none⟩,
    ⟨some 0, .mv (.t 40), none⟩])
  (.ret)))))
theorem is_law05_sane : FnIs Tryd.prog 10 41 [.tmp 0] c_law05_sane := ⟨⟨_, _, Tryd.func10, rfl, rfl, by kernel_rfl, by kernel_rfl⟩⟩
def c_host_Parse : SCode :=
  .seq (.reg [⟨some 2, .alloc 23 [.s [], .i .i64 0], none⟩,
    ⟨some 3, .mv (.c (.i .i64 0)), none⟩])
  (.seq (.reg [⟨some 10, .mv (.t 0), none⟩,
    ⟨some 11, .call 33 [.t 10, .c (.s [58])], none⟩,
    ⟨some 9, .mv (.t 11), none⟩,
    ⟨some 12, .ext (.t 9) 0, none⟩,
    ⟨some 13, .ext (.t 9) 1, none⟩,
    ⟨some 14, .ext (.t 9) 2, none⟩,
    ⟨some 4, .mv (.t 12), none⟩,
    ⟨some 5, .mv (.t 13), none⟩,
    ⟨some 6, .mv (.t 14), none⟩])
  (.seq (.reg [⟨some 16, .mv (.t 4), none⟩,
    ⟨some 17, .call 15 [.t 16], none⟩,
    ⟨some 15, .mv (.t 17), none⟩,
    ⟨some 18, .ext (.t 15) 0, none⟩,
    ⟨some 19, .ext (.t 15) 1, none⟩,
    ⟨some 4, .mv (.t 18), none⟩,
    ⟨some 7, .mv (.t 19), none⟩])
  (.seq (.seq (.reg [⟨some 20, .mv (.t 7), none⟩,
    ⟨some 21, .bin .neq (.t 20) (.c (.i .i64 0)), none⟩])
  (.cond (.t 21)
   (.seq (.reg [⟨some 22, .build [.s [], .i .i64 0] [], none⟩,
     ⟨some 23, .mv (.t 7), none⟩,
     ⟨none, .store 2 (.t 2) (.t 22), none⟩,
     ⟨some 3, .mv (.t 23), none⟩])
   (.ret))
   (.skip)))
  (.seq (.seq (.reg [⟨some 24, .mv (.t 6), none⟩,
    ⟨some 25, .not (.t 24), none⟩])
  (.cond (.t 25)
   (.seq (.reg [⟨some 26, .mv (.t 4), none⟩,
     ⟨some 27, .build [.s [], .i .i64 0] [(0, (1, .t 26))], none⟩,
     ⟨none, .store 2 (.t 2) (.t 27), none⟩,
     ⟨some 3, .mv (.c (.i .i64 0)), none⟩])
   (.ret))
   (.skip)))
  (.seq (.reg [⟨some 29, .mv (.t 5), none⟩,
    ⟨some 30, .call 34 [.t 29], none⟩,
    ⟨some 28, .mv (.t 30), none⟩,
    ⟨some 31, .ext (.t 28) 0, none⟩,
    ⟨some 32, .ext (.t 28) 1, none⟩,
    ⟨some 8, .mv (.t 31), none⟩,
    ⟨some 7, .mv (.t 32), none⟩])
  (.seq (.seq (.reg [⟨some 33, .mv (.t 7), none⟩,
    ⟨some 34, .bin .neq (.t 33) (.c (.i .i64 0)), none⟩])
  (.cond (.t 34)
   (.seq (.reg [⟨some 35, .build [.s [], .i .i64 0] [], none⟩,
     ⟨some 36, .mv (.t 7), none⟩,
     ⟨none, .store 2 (.t 2) (.t 35), none⟩,
     ⟨some 3, .mv (.t 36), none⟩])
   (.ret))
   (.skip)))
  (.seq (.seq (.reg [⟨some 37, .mv (.t 8), none⟩,
    ⟨some 38, .bin .eql (.t 37) (.c (.i .i64 443)), none⟩])
  (.cond (.t 38)
   (.reg [⟨some 8, .mv (.c (.i .i64 0)), none⟩])
   (.skip)))
  (.seq (.reg [⟨some 39, .mv (.t 4), none⟩,
    ⟨some 40, .mv (.t 8), none⟩,
    ⟨some 41, .build [.s [], .i .i64 0] [(0, (1, .t 39)), (1, (1, .t 40))], none⟩,
    ⟨none, .store 2 (.t 2) (.t 41), none⟩,
    ⟨some 3, .mv (.c (.i .i64 0)), none⟩])
  (.ret)))))))))
theorem is_host_Parse : FnIs Tryd.prog 11 42 [.celln 2 2, .tmp 3] c_host_Parse := ⟨⟨_, _, Tryd.func11, rfl, rfl, by kernel_rfl, by kernel_rfl⟩⟩
def c_ref05_Parse : SCode :=
  .seq (.reg [⟨some 2, .alloc 23 [.s [], .i .i64 0], none⟩,
    ⟨some 3, .mv (.c (.i .i64 0)), none⟩])
  (.seq (.reg [⟨some 8, .mv (.t 0), none⟩,
    ⟨some 9, .call 35 [.t 8, .c (.s [58])], none⟩,
    ⟨some 4, .mv (.t 9), none⟩])
  (.seq (.reg [⟨some 11, .mv (.t 0), none⟩,
    ⟨some 12, .mv (.t 4), none⟩,
    ⟨some 13, .slcs (.t 11) none (some (.t 12)), none⟩,
    ⟨some 14, .call 36 [.t 13], none⟩,
    ⟨some 10, .mv (.t 14), none⟩,
    ⟨some 15, .ext (.t 10) 0, none⟩,
    ⟨some 16, .ext (.t 10) 1, none⟩,
    ⟨some 5, .mv (.t 15), none⟩,
    ⟨some 6, .mv (.t 16), none⟩])
  (.seq (.seq (.reg [⟨some 17, .mv (.t 6), none⟩,
    ⟨some 18, .bin .neq (.t 17) (.c (.i .i64 0)), none⟩])
  (.cond (.t 18)
   (.seq (.reg [⟨some 19, .build [.s [], .i .i64 0] [], none⟩,
     ⟨some 20, .mv (.t 6), none⟩,
     ⟨none, .store 2 (.t 2) (.t 19), none⟩,
     ⟨some 3, .mv (.t 20), none⟩])
   (.ret))
   (.skip)))
  (.seq (.seq (.reg [⟨some 21, .mv (.t 4), none⟩,
    ⟨some 22, .mv (.t 0), none⟩,
    ⟨some 23, .lens (.t 22), none⟩,
    ⟨some 24, .bin .eql (.t 21) (.t 23), none⟩])
  (.cond (.t 24)
   (.seq (.reg [⟨some 25, .mv (.t 5), none⟩,
     ⟨some 26, .build [.s [], .i .i64 0] [(0, (1, .t 25))], none⟩,
     ⟨none, .store 2 (.t 2) (.t 26), none⟩,
     ⟨some 3, .mv (.c (.i .i64 0)), none⟩])
   (.ret))
   (.skip)))
  (.seq (.reg [⟨some 28, .mv (.t 0), none⟩,
    ⟨some 29, .mv (.t 4), none⟩,
    ⟨some 30, .bin .add (.t 29) (.c (.i .i64 1)), none⟩,
    ⟨some 31, .slcs (.t 28) (some (.t 30)) none, none⟩,
    ⟨some 32, .call 37 [.t 31], none⟩,
    ⟨some 27, .mv (.t 32), none⟩,
    ⟨some 33, .ext (.t 27) 0, none⟩,
    ⟨some 34, .ext (.t 27) 1, none⟩,
    ⟨some 7, .mv (.t 33), none⟩,
    ⟨some 6, .mv (.t 34), none⟩])
  (.seq (.seq (.reg [⟨some 35, .mv (.t 6), none⟩,
    ⟨some 36, .bin .neq (.t 35) (.c (.i .i64 0)), none⟩])
  (.cond (.t 36)
   (.seq (.reg [⟨some 37, .build [.s [], .i .i64 0] [], none⟩,
     ⟨some 38, .mv (.t 6), none⟩,
     ⟨none, .store 2 (.t 2) (.t 37), none⟩,
     ⟨some 3, .mv (.t 38), none⟩])
   (.ret))
   (.skip)))
  (.seq (.seq (.reg [⟨some 39, .mv (.t 7), none⟩,
    ⟨some 40, .bin .eql (.t 39) (.c (.i .i64 443)), none⟩])
  (.cond (.t 40)
   (.reg [⟨some 7, .mv (.c (.i .i64 0)), none⟩])
   (.skip)))
  (.seq (.reg [⟨some 41, .mv (.t 5), none⟩,
    ⟨some 42, .mv (.t 7), none⟩,
    ⟨some 43, .build [.s [], .i .i64 0] [(0, (1, .t 41)), (1, (1, .t 42))], none⟩,
    ⟨none, .store 2 (.t 2) (.t 43), none⟩,
    ⟨some 3, .mv (.c (.i .i64 0)), none⟩])
  (.ret)))))))))
theorem is_ref05_Parse : FnIs Tryd.prog 12 44 [.celln 2 2, .tmp 3] c_ref05_Parse := ⟨⟨_, _, Tryd.func12, rfl, rfl, by kernel_rfl, by kernel_rfl⟩⟩
def c_host_Format : SCode :=
  .seq (.reg [⟨some 1, .box 23 (.t 0), none⟩,
    ⟨some 2, .mv (.c (.s [])), none⟩])
  (.seq (.seq (.reg [⟨some 3, .fad 1 (.t 1), none⟩,
    ⟨some 4, .load1 (.t 3), none⟩,
    ⟨some 5, .bin .eql (.t 4) (.c (.i .i64 0)), none⟩])
  (.cond (.t 5)
   (.seq (.reg [⟨some 6, .fad 0 (.t 1), none⟩,
     ⟨some 7, .load1 (.t 6), none⟩,
     ⟨some 2, .mv (.t 7), none⟩])
   (.ret))
   (.skip)))
  (.seq (.drw [⟨some 8, .fad 0 (.t 1), none⟩,
    ⟨some 9, .load1 (.t 8), none⟩,
    ⟨some 10, .bin .add (.t 9) (.c (.s [58])), none⟩,
    ⟨some 11, .fad 1 (.t 1), none⟩,
    ⟨some 12, .load1 (.t 11), none⟩,
    ⟨some 13, .call 38 [.t 12], none⟩,
    ⟨some 14, .bin .add (.t 10) (.t 13), none⟩,
    ⟨some 2, .mv (.t 14), none⟩] 8 [])
  (.ret)))
theorem is_host_Format : FnIs Tryd.prog 13 15 [.tmp 2] c_host_Format := ⟨⟨_, _, Tryd.func13, rfl, rfl, by kernel_rfl, by kernel_rfl⟩⟩
def c_ref05_Format : SCode :=
  .seq (.reg [⟨some 1, .box 23 (.t 0), none⟩,
    ⟨some 2, .mv (.c (.s [])), none⟩])
  (.seq (.seq (.reg [⟨some 3, .fad 1 (.t 1), none⟩,
    ⟨some 4, .load1 (.t 3), none⟩,
    ⟨some 5, .bin .eql (.t 4) (.c (.i .i64 0)), none⟩])
  (.cond (.t 5)
   (.seq (.reg [⟨some 6, .fad 0 (.t 1), none⟩,
     ⟨some 7, .load1 (.t 6), none⟩,
     ⟨some 2, .mv (.t 7), none⟩])
   (.ret))
   (.skip)))
  (.seq (.drw [⟨some 8, .fad 0 (.t 1), none⟩,
    ⟨some 9, .load1 (.t 8), none⟩,
    ⟨some 10, .bin .add (.t 9) (.c (.s [58])), none⟩,
    ⟨some 11, .fad 1 (.t 1), none⟩,
    ⟨some 12, .load1 (.t 11), none⟩,
    ⟨some 13, .call 39 [.t 12], none⟩,
    ⟨some 14, .bin .add (.t 10) (.t 13), none⟩,
    ⟨some 2, .mv (.t 14), none⟩] 8 [])
  (.ret)))
theorem is_ref05_Format : FnIs Tryd.prog 14 15 [.tmp 2] c_ref05_Format := ⟨⟨_, _, Tryd.func14, rfl, rfl, by kernel_rfl, by kernel_rfl⟩⟩
def c_host_Host : SCode :=
  .seq (.reg [⟨some 2, .mv (.c (.s [])), none⟩,
    ⟨some 3, .mv (.c (.i .i64 0)), none⟩])
  (.seq (.blk 0
   (.seq (.reg [⟨some 5, .mv (.t 0), none⟩,
     ⟨some 6, .bin .eql (.t 5) (.c (.s [])), none⟩,
     ⟨some 4, .mv (.t 6), none⟩])
   (.cond (.t 4)
    (.seq (.reg [⟨some 2, .mv (.c (.s [])), none⟩,
      ⟨some 3, .mv (.c (.i .i64 3)), none⟩])
    (.ret))
    (.seq (.reg [⟨some 8, .mv (.t 0), none⟩,
      ⟨some 9, .lens (.t 8), none⟩,
      ⟨some 10, .bin .gtr (.t 9) (.c (.i .i64 253)), none⟩,
      ⟨some 7, .mv (.t 10), none⟩])
    (.cond (.t 7)
     (.seq (.reg [⟨some 2, .mv (.c (.s [])), none⟩,
       ⟨some 3, .mv (.c (.i .i64 5)), none⟩])
     (.ret))
     (.seq (.reg [⟨some 12, .mv (.t 0), none⟩,
       ⟨some 13, .call 40 [.t 12], none⟩,
       ⟨some 14, .not (.t 13), none⟩,
       ⟨some 15, .mv (.t 14), none⟩,
       ⟨some 16, .mv (.t 0), some (15, true)⟩,
       ⟨some 17, .call 32 [.t 16], some (15, true)⟩,
       ⟨some 18, .not (.t 17), some (15, true)⟩,
       ⟨some 19, .pick (.t 15) (.t 18) (.c (.b false)), none⟩,
       ⟨some 11, .mv (.t 19), none⟩])
     (.cond (.t 11)
      (.seq (.reg [⟨some 2, .mv (.c (.s [])), none⟩,
        ⟨some 3, .mv (.c (.i .i64 50)), none⟩])
      (.ret))
      (.skip))))))))
  (.seq (.reg [⟨some 20, .mv (.t 0), none⟩,
    ⟨some 21, .call 41 [.t 20], none⟩,
    ⟨some 2, .mv (.t 21), none⟩,
    ⟨some 3, .mv (.c (.i .i64 0)), none⟩])
  (.ret)))
theorem is_host_Host : FnIs Tryd.prog 15 22 [.tmp 2, .tmp 3] c_host_Host := ⟨⟨_, _, Tryd.func15, rfl, rfl, by kernel_rfl, by kernel_rfl⟩⟩
def c_law07_sane : SCode :=
  .seq (.reg [⟨some 0, .mv (.c (.b false)), none⟩])
  (.seq (.reg [⟨some 8, .call 17 [.c (.s [72, 84, 84, 80, 83, 58, 47, 47, 69, 120, 97, 109, 112, 108, 101, 46, 99, 111, 109, 58, 52, 52, 51, 47, 97, 47, 46, 47, 37, 55, 101, 98, 63, 120, 35, 121])], none⟩,
    ⟨some 7, .mv (.t 8), none⟩,
    ⟨some 9, .ext (.t 7) 0, none⟩,
    ⟨some 10, .ext (.t 7) 1, none⟩,
    ⟨some 1, .alloc 34 [.s [], .i .i64 0, .s [], .s [], .s [], .b false, .b false], none⟩,
    ⟨none, .store 7 (.t 1) (.t 9), none⟩,
    ⟨some 2, .mv (.t 10), none⟩])
  (.seq (.reg [⟨some 12, .build [.s [], .i .i64 0, .s [], .s [], .s [], .b false, .b false] [(0, (1, .c (.s [97]))), (2, (1, .c (.s [47, 98, 47, 99])))], none⟩,
    ⟨some 13, .call 20 [.t 12, .c (.s [46, 46, 47, 100])], none⟩,
    ⟨some 11, .mv (.t 13), none⟩,
    ⟨some 14, .ext (.t 11) 0, none⟩,
    ⟨some 15, .ext (.t 11) 1, none⟩,
    ⟨some 3, .alloc 34 [.s [], .i .i64 0, .s [], .s [], .s [], .b false, .b false], none⟩,
    ⟨none, .store 7 (.t 3) (.t 14), none⟩,
    ⟨some 4, .mv (.t 15), none⟩])
  (.seq (.reg [⟨some 17, .loadn 7 (.t 3), none⟩,
    ⟨some 18, .call 20 [.t 17, .c (.s [104, 116, 116, 112, 58, 47, 47, 97, 47])], none⟩,
    ⟨some 16, .mv (.t 18), none⟩,
    ⟨some 19, .ext (.t 16) 0, none⟩,
    ⟨some 20, .ext (.t 16) 1, none⟩,
    ⟨some 5, .alloc 34 [.s [], .i .i64 0, .s [], .s [], .s [], .b false, .b false], none⟩,
    ⟨none, .store 7 (.t 5) (.t 19), none⟩,
    ⟨some 6, .mv (.t 20), none⟩])
  (.seq (.reg [⟨some 21, .mv (.t 2), none⟩,
    ⟨some 22, .bin .eql (.t 21) (.c (.i .i64 0)), none⟩,
    ⟨some 23, .mv (.t 22), none⟩,
    ⟨some 24, .fad 0 (.t 1), some (23, true)⟩,
    ⟨some 25, .load1 (.t 24), some (23, true)⟩,
    ⟨some 26, .bin .eql (.t 25) (.c (.s [101, 120, 97, 109, 112, 108, 101, 46, 99, 111, 109])), some (23, true)⟩,
    ⟨some 27, .pick (.t 23) (.t 26) (.c (.b false)), none⟩,
    ⟨some 28, .mv (.t 27), none⟩,
    ⟨some 29, .fad 1 (.t 1), some (28, true)⟩,
    ⟨some 30, .load1 (.t 29), some (28, true)⟩,
    ⟨some 31, .bin .eql (.t 30) (.c (.i .i64 0)), some (28, true)⟩,
    ⟨some 32, .pick (.t 28) (.t 31) (.c (.b false)), none⟩,
    ⟨some 33, .mv (.t 32), none⟩,
    ⟨some 34, .fad 2 (.t 1), some (33, true)⟩,
    ⟨some 35, .load1 (.t 34), some (33, true)⟩,
    ⟨some 36, .bin .eql (.t 35) (.c (.s [47, 97, 47, 126, 98])), some (33, true)⟩,
    ⟨some 37, .pick (.t 33) (.t 36) (.c (.b false)), none⟩,
    ⟨some 38, .mv (.t 37), none⟩,
    ⟨some 39, .fad 3 (.t 1), some (38, true)⟩,
    ⟨some 40, .load1 (.t 39), some (38, true)⟩,
    ⟨some 41, .bin .eql (.t 40) (.c (.s [120])), some (38, true)⟩,
    ⟨some 42, .pick (.t 38) (.t 41) (.c (.b false)), none⟩,
    ⟨some 43, .mv (.t 42), none⟩,
    ⟨some 44, .mv (.t 4), some (43, true)⟩,
    ⟨some 45, .bin .eql (.t 44) (.c (.i .i64 0)), some (43, true)⟩,
    ⟨some 46, .pick (.t 43) (.t 45) (.c (.b false)), none⟩,
    ⟨some 47, .mv (.t 46), none⟩,
    ⟨some 48, .loadn 7 (.t 3), some (47, true)⟩,
    ⟨some 49, .call 18 [.t 48], some (47, true)⟩,
    ⟨some 50, .bin .eql (.t 49) (.c (.s [104, 116, 116, 112, 115, 58, 47, 47, 97, 47, 100])), some (47, true)⟩,
    ⟨some 51, .pick (.t 47) (.t 50) (.c (.b false)), none⟩,
    ⟨some 52, .mv (.t 51), none⟩,
    ⟨some 53, .mv (.t 6), some (52, true)⟩,
    ⟨some 54, .bin .eql (.t 53) (.c (.i .i64 253)), some (52, true)⟩,
    ⟨some 55, .pick (.t 52) (.t 54) (.c (.b false)), none⟩,
    ⟨some 0, .mv (.t 55), none⟩])
  (.ret)))))
theorem is_law07_sane : FnIs Tryd.prog 16 56 [.tmp 0] c_law07_sane := ⟨⟨_, _, Tryd.func16, rfl, rfl, by kernel_rfl, by kernel_rfl⟩⟩
def c_weburl_Parse : SCode :=
  .seq (.reg [⟨some 2, .alloc 34 [.s [], .i .i64 0, .s [], .s [], .s [], .b false, .b false], none⟩,
    ⟨some 3, .mv (.c (.i .i64 0)), none⟩])
  (.seq (.seq (.reg [⟨some 8, .mv (.t 0), none⟩,
    ⟨some 9, .lens (.t 8), none⟩,
    ⟨some 10, .bin .gtr (.t 9) (.c (.i .i64 4096)), none⟩])
  (.cond (.t 10)
   (.seq (.reg [⟨some 11, .build [.s [], .i .i64 0, .s [], .s [], .s [], .b false, .b false] [], none⟩,
     ⟨none, .store 7 (.t 2) (.t 11), none⟩,
     ⟨some 3, .mv (.c (.i .i64 5)), none⟩])
   (.ret))
   (.skip)))
  (.seq (.reg [⟨some 13, .mv (.t 0), none⟩,
    ⟨some 14, .call 42 [.t 13], none⟩,
    ⟨some 12, .mv (.t 14), none⟩,
    ⟨some 15, .ext (.t 12) 0, none⟩,
    ⟨some 16, .ext (.t 12) 1, none⟩,
    ⟨some 4, .alloc 63 [.s [], .s [], .s [], .s [], .s [], .b false, .b false, .b false, .b false], none⟩,
    ⟨none, .store 9 (.t 4) (.t 15), none⟩,
    ⟨some 5, .mv (.t 16), none⟩])
  (.seq (.seq (.reg [⟨some 17, .mv (.t 5), none⟩,
    ⟨some 18, .bin .neq (.t 17) (.c (.i .i64 0)), none⟩])
  (.cond (.t 18)
   (.seq (.reg [⟨some 19, .build [.s [], .i .i64 0, .s [], .s [], .s [], .b false, .b false] [], none⟩,
     ⟨some 20, .mv (.t 5), none⟩,
     ⟨none, .store 7 (.t 2) (.t 19), none⟩,
     ⟨some 3, .mv (.t 20), none⟩])
   (.ret))
   (.skip)))
  (.seq (.reg [⟨some 22, .loadn 9 (.t 4), none⟩,
    ⟨some 23, .call 43 [.t 22], none⟩,
    ⟨some 21, .mv (.t 23), none⟩,
    ⟨some 24, .ext (.t 21) 0, none⟩,
    ⟨some 25, .ext (.t 21) 1, none⟩,
    ⟨some 6, .alloc 23 [.s [], .i .i64 0], none⟩,
    ⟨none, .store 2 (.t 6) (.t 24), none⟩,
    ⟨some 5, .mv (.t 25), none⟩])
  (.seq (.seq (.reg [⟨some 26, .mv (.t 5), none⟩,
    ⟨some 27, .bin .neq (.t 26) (.c (.i .i64 0)), none⟩])
  (.cond (.t 27)
   (.seq (.reg [⟨some 28, .build [.s [], .i .i64 0, .s [], .s [], .s [], .b false, .b false] [], none⟩,
     ⟨some 29, .mv (.t 5), none⟩,
     ⟨none, .store 7 (.t 2) (.t 28), none⟩,
     ⟨some 3, .mv (.t 29), none⟩])
   (.ret))
   (.skip)))
  (.seq (.reg [⟨some 31, .loadn 9 (.t 4), none⟩,
    ⟨some 32, .call 44 [.t 31], none⟩,
    ⟨some 30, .mv (.t 32), none⟩,
    ⟨some 33, .ext (.t 30) 0, none⟩,
    ⟨some 34, .ext (.t 30) 1, none⟩,
    ⟨some 7, .alloc 34 [.s [], .i .i64 0, .s [], .s [], .s [], .b false, .b false], none⟩,
    ⟨none, .store 7 (.t 7) (.t 33), none⟩,
    ⟨some 5, .mv (.t 34), none⟩])
  (.seq (.seq (.reg [⟨some 35, .mv (.t 5), none⟩,
    ⟨some 36, .bin .neq (.t 35) (.c (.i .i64 0)), none⟩])
  (.cond (.t 36)
   (.seq (.reg [⟨some 37, .build [.s [], .i .i64 0, .s [], .s [], .s [], .b false, .b false] [], none⟩,
     ⟨some 38, .mv (.t 5), none⟩,
     ⟨none, .store 7 (.t 2) (.t 37), none⟩,
     ⟨some 3, .mv (.t 38), none⟩])
   (.ret))
   (.skip)))
  (.seq (.drw [⟨some 39, .fad 0 (.t 6), none⟩,
    ⟨some 40, .load1 (.t 39), none⟩,
    ⟨some 41, .fad 1 (.t 6), none⟩,
    ⟨some 42, .load1 (.t 41), none⟩,
    ⟨some 43, .fad 0 (.t 7), none⟩,
    ⟨none, .store 1 (.t 43) (.t 40), none⟩,
    ⟨some 44, .fad 1 (.t 7), none⟩,
    ⟨none, .store 1 (.t 44) (.t 42), none⟩] 8 [(41, 43)])
  (.seq (.seq (.reg [⟨some 45, .loadn 7 (.t 7), none⟩,
    ⟨some 46, .call 18 [.t 45], none⟩,
    ⟨some 47, .lens (.t 46), none⟩,
    ⟨some 48, .bin .gtr (.t 47) (.c (.i .i64 4096)), none⟩])
  (.cond (.t 48)
   (.seq (.reg [⟨some 49, .build [.s [], .i .i64 0, .s [], .s [], .s [], .b false, .b false] [], none⟩,
     ⟨none, .store 7 (.t 2) (.t 49), none⟩,
     ⟨some 3, .mv (.c (.i .i64 5)), none⟩])
   (.ret))
   (.skip)))
  (.seq (.reg [⟨some 50, .loadn 7 (.t 7), none⟩,
    ⟨none, .store 7 (.t 2) (.t 50), none⟩,
    ⟨some 3, .mv (.c (.i .i64 0)), none⟩])
  (.ret)))))))))))
theorem is_weburl_Parse : FnIs Tryd.prog 17 51 [.celln 2 7, .tmp 3] c_weburl_Parse := ⟨⟨_, _, Tryd.func17, rfl, rfl, by kernel_rfl, by kernel_rfl⟩⟩
def c_weburl_Format : SCode :=
  .seq (.reg [⟨some 1, .box 34 (.t 0), none⟩,
    ⟨some 2, .mv (.c (.s [])), none⟩])
  (.seq (.drw [⟨some 4, .loadn 7 (.t 1), none⟩,
    ⟨some 5, .call 45 [.t 4], none⟩,
    ⟨some 6, .call 13 [.t 5], none⟩,
    ⟨some 7, .bin .add (.c (.s [104, 116, 116, 112, 115, 58, 47, 47])) (.t 6), none⟩,
    ⟨some 8, .loadn 7 (.t 1), none⟩,
    ⟨some 9, .call 46 [.t 8], none⟩,
    ⟨some 10, .bin .add (.t 7) (.t 9), none⟩,
    ⟨some 3, .mv (.t 10), none⟩] 8 [])
  (.seq (.seq (.reg [⟨some 11, .fad 6 (.t 1), none⟩,
    ⟨some 12, .load1 (.t 11), none⟩])
  (.cond (.t 12)
   (.reg [⟨some 13, .mv (.t 3), none⟩,
     ⟨some 14, .fad 4 (.t 1), none⟩,
     ⟨some 15, .load1 (.t 14), none⟩,
     ⟨some 16, .bin .add (.c (.s [35])) (.t 15), none⟩,
     ⟨some 17, .bin .add (.t 13) (.t 16), none⟩,
     ⟨some 3, .mv (.t 17), none⟩])
   (.skip)))
  (.seq (.reg [⟨some 18, .mv (.t 3), none⟩,
    ⟨some 2, .mv (.t 18), none⟩])
  (.ret))))
theorem is_weburl_Format : FnIs Tryd.prog 18 19 [.tmp 2] c_weburl_Format := ⟨⟨_, _, Tryd.func18, rfl, rfl, by kernel_rfl, by kernel_rfl⟩⟩
def c_weburl_Valid : SCode :=
  .seq (.reg [⟨some 1, .box 34 (.t 0), none⟩,
    ⟨some 2, .mv (.c (.b false)), none⟩])
  (.seq (.reg [⟨some 6, .loadn 7 (.t 1), none⟩,
    ⟨some 7, .call 18 [.t 6], none⟩,
    ⟨some 8, .call 17 [.t 7], none⟩,
    ⟨some 5, .mv (.t 8), none⟩,
    ⟨some 9, .ext (.t 5) 0, none⟩,
    ⟨some 10, .ext (.t 5) 1, none⟩,
    ⟨some 3, .alloc 34 [.s [], .i .i64 0, .s [], .s [], .s [], .b false, .b false], none⟩,
    ⟨none, .store 7 (.t 3) (.t 9), none⟩,
    ⟨some 4, .mv (.t 10), none⟩])
  (.seq (.reg [⟨some 11, .mv (.t 4), none⟩,
    ⟨some 12, .bin .eql (.t 11) (.c (.i .i64 0)), none⟩,
    ⟨some 13, .mv (.t 12), none⟩,
    ⟨some 14, .loadn 7 (.t 3), some (13, true)⟩,
    ⟨some 15, .loadn 7 (.t 1), some (13, true)⟩,
    ⟨some 16, .eqs false (.str [(0, (none, .ts)), (1, (none, .ti)), (2, (none, .ts)), (3, (none, .ts)), (4, (none, .ts)), (5, (none, .tb)), (6, (none, .tb))]) (.t 14) (.t 15), some (13, true)⟩,
    ⟨some 17, .pick (.t 13) (.t 16) (.c (.b false)), none⟩,
    ⟨some 2, .mv (.t 17), none⟩])
  (.ret)))
theorem is_weburl_Valid : FnIs Tryd.prog 19 18 [.tmp 2] c_weburl_Valid := ⟨⟨_, _, Tryd.func19, rfl, rfl, by kernel_rfl, by kernel_rfl⟩⟩
def c_weburl_Relative : SCode :=
  .seq (.reg [⟨some 2, .box 34 (.t 0), none⟩,
    ⟨some 4, .alloc 34 [.s [], .i .i64 0, .s [], .s [], .s [], .b false, .b false], none⟩,
    ⟨some 5, .mv (.c (.i .i64 0)), none⟩])
  (.seq (.seq (.reg [⟨some 10, .loadn 7 (.t 2), none⟩,
    ⟨some 11, .call 19 [.t 10], none⟩,
    ⟨some 12, .not (.t 11), none⟩])
  (.cond (.t 12)
   (.seq (.reg [⟨some 13, .build [.s [], .i .i64 0, .s [], .s [], .s [], .b false, .b false] [], none⟩,
     ⟨none, .store 7 (.t 4) (.t 13), none⟩,
     ⟨some 5, .mv (.c (.i .i64 8)), none⟩])
   (.ret))
   (.skip)))
  (.seq (.reg [⟨some 15, .loadn 7 (.t 2), none⟩,
    ⟨some 16, .call 18 [.t 15], none⟩,
    ⟨some 17, .call 42 [.t 16], none⟩,
    ⟨some 14, .mv (.t 17), none⟩,
    ⟨some 18, .ext (.t 14) 0, none⟩,
    ⟨some 19, .ext (.t 14) 1, none⟩,
    ⟨some 6, .alloc 63 [.s [], .s [], .s [], .s [], .s [], .b false, .b false, .b false, .b false], none⟩,
    ⟨none, .store 9 (.t 6) (.t 18), none⟩,
    ⟨some 7, .mv (.t 19), none⟩])
  (.seq (.seq (.reg [⟨some 20, .mv (.t 7), none⟩,
    ⟨some 21, .bin .neq (.t 20) (.c (.i .i64 0)), none⟩])
  (.cond (.t 21)
   (.seq (.reg [⟨some 22, .build [.s [], .i .i64 0, .s [], .s [], .s [], .b false, .b false] [], none⟩,
     ⟨some 23, .mv (.t 7), none⟩,
     ⟨none, .store 7 (.t 4) (.t 22), none⟩,
     ⟨some 5, .mv (.t 23), none⟩])
   (.ret))
   (.skip)))
  (.seq (.reg [⟨some 25, .mv (.t 1), none⟩,
    ⟨some 26, .call 42 [.t 25], none⟩,
    ⟨some 24, .mv (.t 26), none⟩,
    ⟨some 27, .ext (.t 24) 0, none⟩,
    ⟨some 28, .ext (.t 24) 1, none⟩,
    ⟨some 8, .alloc 63 [.s [], .s [], .s [], .s [], .s [], .b false, .b false, .b false, .b false], none⟩,
    ⟨none, .store 9 (.t 8) (.t 27), none⟩,
    ⟨some 7, .mv (.t 28), none⟩])
  (.seq (.seq (.reg [⟨some 29, .mv (.t 7), none⟩,
    ⟨some 30, .bin .neq (.t 29) (.c (.i .i64 0)), none⟩])
  (.cond (.t 30)
   (.seq (.reg [⟨some 31, .build [.s [], .i .i64 0, .s [], .s [], .s [], .b false, .b false] [], none⟩,
     ⟨some 32, .mv (.t 7), none⟩,
     ⟨none, .store 7 (.t 4) (.t 31), none⟩,
     ⟨some 5, .mv (.t 32), none⟩])
   (.ret))
   (.skip)))
  (.seq (.reg [⟨some 33, .loadn 9 (.t 6), none⟩,
    ⟨some 34, .loadn 9 (.t 8), none⟩,
    ⟨some 35, .call 47 [.t 33, .t 34], none⟩,
    ⟨some 9, .alloc 63 [.s [], .s [], .s [], .s [], .s [], .b false, .b false, .b false, .b false], none⟩,
    ⟨none, .store 9 (.t 9) (.t 35), none⟩])
  (.seq (.seq (.reg [⟨some 36, .fad 0 (.t 9), none⟩,
    ⟨some 37, .load1 (.t 36), none⟩,
    ⟨some 38, .call 48 [.t 37, .c (.s [104, 116, 116, 112, 115])], none⟩,
    ⟨some 39, .not (.t 38), none⟩])
  (.cond (.t 39)
   (.seq (.reg [⟨some 40, .build [.s [], .i .i64 0, .s [], .s [], .s [], .b false, .b false] [], none⟩,
     ⟨none, .store 7 (.t 4) (.t 40), none⟩,
     ⟨some 5, .mv (.c (.i .i64 253)), none⟩])
   (.ret))
   (.skip)))
  (.seq (.reg [⟨some 41, .loadn 9 (.t 9), none⟩,
    ⟨some 42, .call 49 [.t 41], none⟩,
    ⟨some 43, .call 17 [.t 42], none⟩,
    ⟨some 44, .ext (.t 43) 0, none⟩,
    ⟨some 45, .ext (.t 43) 1, none⟩,
    ⟨none, .store 7 (.t 4) (.t 44), none⟩,
    ⟨some 5, .mv (.t 45), none⟩])
  (.ret)))))))))
theorem is_weburl_Relative : FnIs Tryd.prog 20 46 [.celln 4 7, .tmp 5] c_weburl_Relative := ⟨⟨_, _, Tryd.func20, rfl, rfl, by kernel_rfl, by kernel_rfl⟩⟩
def c_law10_sane : SCode :=
  .seq (.reg [⟨some 0, .mv (.c (.b false)), none⟩])
  (.seq (.reg [⟨some 6, .call 22 [.c (.s [100, 105, 100, 58, 119, 101, 98, 58, 69, 120, 97, 109, 112, 108, 101, 46, 99, 111, 109, 37, 51, 97, 56, 52, 52, 51, 58, 117, 37, 52, 49])], none⟩,
    ⟨some 5, .mv (.t 6), none⟩,
    ⟨some 7, .ext (.t 5) 0, none⟩,
    ⟨some 8, .ext (.t 5) 1, none⟩,
    ⟨some 1, .alloc 42 [.s [], .s []], none⟩,
    ⟨none, .store 2 (.t 1) (.t 7), none⟩,
    ⟨some 2, .mv (.t 8), none⟩])
  (.seq (.reg [⟨some 10, .call 24 [.c (.s [100, 105, 100, 58, 119, 101, 98, 58, 97, 46, 101, 120, 97, 109, 112, 108, 101, 47, 112, 63, 113, 35, 107, 45, 49])], none⟩,
    ⟨some 9, .mv (.t 10), none⟩,
    ⟨some 11, .ext (.t 9) 0, none⟩,
    ⟨some 12, .ext (.t 9) 1, none⟩,
    ⟨some 3, .alloc 46 [.s [], .s [], .s [], .s [], .s [], .b false, .b false], none⟩,
    ⟨none, .store 7 (.t 3) (.t 11), none⟩,
    ⟨some 4, .mv (.t 12), none⟩])
  (.seq (.reg [⟨some 13, .mv (.t 2), none⟩,
    ⟨some 14, .bin .eql (.t 13) (.c (.i .i64 0)), none⟩,
    ⟨some 15, .mv (.t 14), none⟩,
    ⟨some 16, .fad 1 (.t 1), some (15, true)⟩,
    ⟨some 17, .load1 (.t 16), some (15, true)⟩,
    ⟨some 18, .bin .eql (.t 17) (.c (.s [69, 120, 97, 109, 112, 108, 101, 46, 99, 111, 109, 37, 51, 65, 56, 52, 52, 51, 58, 117, 65])), some (15, true)⟩,
    ⟨some 19, .pick (.t 15) (.t 18) (.c (.b false)), none⟩,
    ⟨some 20, .mv (.t 19), none⟩,
    ⟨some 21, .mv (.t 4), some (20, true)⟩,
    ⟨some 22, .bin .eql (.t 21) (.c (.i .i64 0)), some (20, true)⟩,
    ⟨some 23, .pick (.t 20) (.t 22) (.c (.b false)), none⟩,
    ⟨some 24, .mv (.t 23), none⟩,
    ⟨some 25, .fad 2 (.t 3), some (24, true)⟩,
    ⟨some 26, .load1 (.t 25), some (24, true)⟩,
    ⟨some 27, .bin .eql (.t 26) (.c (.s [47, 112])), some (24, true)⟩,
    ⟨some 28, .pick (.t 24) (.t 27) (.c (.b false)), none⟩,
    ⟨some 29, .mv (.t 28), none⟩,
    ⟨some 30, .fad 3 (.t 3), some (29, true)⟩,
    ⟨some 31, .load1 (.t 30), some (29, true)⟩,
    ⟨some 32, .bin .eql (.t 31) (.c (.s [113])), some (29, true)⟩,
    ⟨some 33, .pick (.t 29) (.t 32) (.c (.b false)), none⟩,
    ⟨some 34, .mv (.t 33), none⟩,
    ⟨some 35, .fad 4 (.t 3), some (34, true)⟩,
    ⟨some 36, .load1 (.t 35), some (34, true)⟩,
    ⟨some 37, .bin .eql (.t 36) (.c (.s [107, 45, 49])), some (34, true)⟩,
    ⟨some 38, .pick (.t 34) (.t 37) (.c (.b false)), none⟩,
    ⟨some 39, .mv (.t 38), none⟩,
    ⟨some 40, .loadn 7 (.t 3), some (39, true)⟩,
    ⟨some 41, .call 28 [.t 40], some (39, true)⟩,
    ⟨some 42, .bin .eql (.t 41) (.c (.s [100, 105, 100, 58, 119, 101, 98, 58, 97, 46, 101, 120, 97, 109, 112, 108, 101, 47, 112, 63, 113, 35, 107, 45, 49])), some (39, true)⟩,
    ⟨some 43, .pick (.t 39) (.t 42) (.c (.b false)), none⟩,
    ⟨some 0, .mv (.t 43), none⟩])
  (.ret))))
theorem is_law10_sane : FnIs Tryd.prog 21 44 [.tmp 0] c_law10_sane := ⟨⟨_, _, Tryd.func21, rfl, rfl, by kernel_rfl, by kernel_rfl⟩⟩
def c_did_ParseDID : SCode :=
  .seq (.reg [⟨some 2, .alloc 42 [.s [], .s []], none⟩,
    ⟨some 3, .mv (.c (.i .i64 0)), none⟩])
  (.seq (.seq (.reg [⟨some 9, .mv (.t 0), none⟩,
    ⟨some 10, .lens (.t 9), none⟩,
    ⟨some 11, .bin .gtr (.t 10) (.c (.i .i64 4096)), none⟩])
  (.cond (.t 11)
   (.seq (.reg [⟨some 12, .build [.s [], .s []] [], none⟩,
     ⟨none, .store 2 (.t 2) (.t 12), none⟩,
     ⟨some 3, .mv (.c (.i .i64 5)), none⟩])
   (.ret))
   (.skip)))
  (.seq (.reg [⟨some 14, .mv (.t 0), none⟩,
    ⟨some 15, .call 50 [.t 14, .c (.s [100, 105, 100, 58])], none⟩,
    ⟨some 13, .mv (.t 15), none⟩,
    ⟨some 16, .ext (.t 13) 0, none⟩,
    ⟨some 17, .ext (.t 13) 1, none⟩,
    ⟨some 4, .mv (.t 16), none⟩,
    ⟨some 5, .mv (.t 17), none⟩])
  (.seq (.seq (.reg [⟨some 18, .mv (.t 5), none⟩,
    ⟨some 19, .not (.t 18), none⟩])
  (.cond (.t 19)
   (.seq (.reg [⟨some 20, .build [.s [], .s []] [], none⟩,
     ⟨none, .store 2 (.t 2) (.t 20), none⟩,
     ⟨some 3, .mv (.c (.i .i64 60)), none⟩])
   (.ret))
   (.skip)))
  (.seq (.reg [⟨some 22, .mv (.t 4), none⟩,
    ⟨some 23, .call 33 [.t 22, .c (.s [58])], none⟩,
    ⟨some 21, .mv (.t 23), none⟩,
    ⟨some 24, .ext (.t 21) 0, none⟩,
    ⟨some 25, .ext (.t 21) 1, none⟩,
    ⟨some 26, .ext (.t 21) 2, none⟩,
    ⟨some 6, .mv (.t 24), none⟩,
    ⟨some 7, .mv (.t 25), none⟩,
    ⟨some 5, .mv (.t 26), none⟩])
  (.seq (.seq (.reg [⟨some 27, .mv (.t 5), none⟩,
    ⟨some 28, .not (.t 27), none⟩])
  (.cond (.t 28)
   (.seq (.reg [⟨some 29, .build [.s [], .s []] [], none⟩,
     ⟨none, .store 2 (.t 2) (.t 29), none⟩,
     ⟨some 3, .mv (.c (.i .i64 6)), none⟩])
   (.ret))
   (.skip)))
  (.seq (.seq (.reg [⟨some 30, .mv (.t 6), none⟩,
    ⟨some 31, .call 51 [.t 30], none⟩,
    ⟨some 32, .not (.t 31), none⟩])
  (.cond (.t 32)
   (.seq (.reg [⟨some 33, .build [.s [], .s []] [], none⟩,
     ⟨none, .store 2 (.t 2) (.t 33), none⟩,
     ⟨some 3, .mv (.c (.i .i64 100)), none⟩])
   (.ret))
   (.skip)))
  (.seq (.reg [⟨some 35, .mv (.t 7), none⟩,
    ⟨some 36, .call 52 [.t 35], none⟩,
    ⟨some 34, .mv (.t 36), none⟩,
    ⟨some 37, .ext (.t 34) 0, none⟩,
    ⟨some 38, .ext (.t 34) 1, none⟩,
    ⟨some 7, .mv (.t 37), none⟩,
    ⟨some 8, .mv (.t 38), none⟩])
  (.seq (.seq (.reg [⟨some 39, .mv (.t 8), none⟩,
    ⟨some 40, .bin .neq (.t 39) (.c (.i .i64 0)), none⟩])
  (.cond (.t 40)
   (.seq (.reg [⟨some 41, .build [.s [], .s []] [], none⟩,
     ⟨some 42, .mv (.t 8), none⟩,
     ⟨none, .store 2 (.t 2) (.t 41), none⟩,
     ⟨some 3, .mv (.t 42), none⟩])
   (.ret))
   (.skip)))
  (.seq (.reg [⟨some 43, .mv (.t 6), none⟩,
    ⟨some 44, .mv (.t 7), none⟩,
    ⟨some 45, .build [.s [], .s []] [(0, (1, .t 43)), (1, (1, .t 44))], none⟩,
    ⟨none, .store 2 (.t 2) (.t 45), none⟩,
    ⟨some 3, .mv (.c (.i .i64 0)), none⟩])
  (.ret))))))))))
theorem is_did_ParseDID : FnIs Tryd.prog 22 46 [.celln 2 2, .tmp 3] c_did_ParseDID := ⟨⟨_, _, Tryd.func22, rfl, rfl, by kernel_rfl, by kernel_rfl⟩⟩
def c_ref10_ParseDID : SCode :=
  .seq (.reg [⟨some 2, .alloc 42 [.s [], .s []], none⟩,
    ⟨some 3, .mv (.c (.i .i64 0)), none⟩])
  (.seq (.blk 0
   (.seq (.reg [⟨some 17, .mv (.t 0), none⟩,
     ⟨some 18, .lens (.t 17), none⟩,
     ⟨some 19, .bin .gtr (.t 18) (.c (.i .i64 4096)), none⟩,
     ⟨some 16, .mv (.t 19), none⟩])
   (.cond (.t 16)
    (.seq (.reg [⟨some 20, .build [.s [], .s []] [], none⟩,
      ⟨none, .store 2 (.t 2) (.t 20), none⟩,
      ⟨some 3, .mv (.c (.i .i64 5)), none⟩])
    (.ret))
    (.seq (.reg [⟨some 22, .mv (.t 0), none⟩,
      ⟨some 23, .call 53 [.t 22, .c (.s [100, 105, 100, 58])], none⟩,
      ⟨some 24, .not (.t 23), none⟩,
      ⟨some 21, .mv (.t 24), none⟩])
    (.cond (.t 21)
     (.seq (.reg [⟨some 25, .build [.s [], .s []] [], none⟩,
       ⟨none, .store 2 (.t 2) (.t 25), none⟩,
       ⟨some 3, .mv (.c (.i .i64 60)), none⟩])
     (.ret))
     (.skip))))))
  (.seq (.reg [⟨some 26, .mv (.t 0), none⟩,
    ⟨some 27, .slcs (.t 26) (some (.c (.i .i64 4))) none, none⟩,
    ⟨some 0, .mv (.t 27), none⟩])
  (.seq (.reg [⟨some 28, .mv (.t 0), none⟩,
    ⟨some 29, .call 35 [.t 28, .c (.s [58])], none⟩,
    ⟨some 4, .mv (.t 29), none⟩])
  (.seq (.seq (.reg [⟨some 30, .mv (.t 4), none⟩,
    ⟨some 31, .mv (.t 0), none⟩,
    ⟨some 32, .lens (.t 31), none⟩,
    ⟨some 33, .bin .eql (.t 30) (.t 32), none⟩])
  (.cond (.t 33)
   (.seq (.reg [⟨some 34, .build [.s [], .s []] [], none⟩,
     ⟨none, .store 2 (.t 2) (.t 34), none⟩,
     ⟨some 3, .mv (.c (.i .i64 6)), none⟩])
   (.ret))
   (.skip)))
  (.seq (.seq (.reg [⟨some 35, .mv (.t 0), none⟩,
    ⟨some 36, .mv (.t 4), none⟩,
    ⟨some 37, .slcs (.t 35) none (some (.t 36)), none⟩,
    ⟨some 38, .call 54 [.t 37], none⟩,
    ⟨some 39, .not (.t 38), none⟩])
  (.cond (.t 39)
   (.seq (.reg [⟨some 40, .build [.s [], .s []] [], none⟩,
     ⟨none, .store 2 (.t 2) (.t 40), none⟩,
     ⟨some 3, .mv (.c (.i .i64 100)), none⟩])
   (.ret))
   (.skip)))
  (.seq (.reg [⟨some 41, .mv (.t 0), none⟩,
    ⟨some 42, .mv (.t 4), none⟩,
    ⟨some 43, .bin .add (.t 42) (.c (.i .i64 1)), none⟩,
    ⟨some 44, .slcs (.t 41) (some (.t 43)) none, none⟩,
    ⟨some 45, .call 55 [.t 44, .c (.i .u8 58)], none⟩,
    ⟨some 5, .mv (.t 45), none⟩])
  (.seq (.seq (.reg [⟨some 46, .mv (.t 5), none⟩,
    ⟨some 47, .lenr (.t 46), none⟩,
    ⟨some 48, .mv (.c (.i .i64 0)), none⟩])
  (.blk 1
   (.loop
    (.seq (.reg [⟨some 49, .bin .lss (.t 48) (.t 47), none⟩])
    (.seq (.cond (.t 49)
     (.skip)
     (.exit 1))
    (.seq (.blk 2
     (.seq (.reg [⟨some 50, .iad 1 (.t 46) (.t 48), none⟩,
       ⟨some 51, .load1 (.t 50), none⟩,
       ⟨some 7, .mv (.t 51), none⟩])
     (.seq (.reg [⟨some 53, .mv (.t 7), none⟩,
       ⟨some 54, .call 56 [.t 53], none⟩,
       ⟨some 52, .mv (.t 54), none⟩,
       ⟨some 55, .ext (.t 52) 0, none⟩,
       ⟨some 56, .ext (.t 52) 1, none⟩,
       ⟨some 8, .mv (.t 55), none⟩,
       ⟨some 9, .mv (.t 56), none⟩])
     (.seq (.reg [⟨some 57, .mv (.t 9), none⟩,
       ⟨some 58, .bin .neq (.t 57) (.c (.i .i64 0)), none⟩])
     (.cond (.t 58)
      (.seq (.reg [⟨some 59, .build [.s [], .s []] [], none⟩,
        ⟨none, .store 2 (.t 2) (.t 59), none⟩,
        ⟨some 3, .mv (.c (.i .i64 2)), none⟩])
      (.ret))
      (.skip))))))
    (.reg [⟨some 60, .bin .add (.t 48) (.c (.i .i64 1)), none⟩,
      ⟨some 48, .mv (.t 60), none⟩])))))))
  (.seq (.reg [⟨some 10, .mv (.c (.s [])), none⟩])
  (.seq (.seq (.reg [⟨some 61, .mv (.t 5), none⟩,
    ⟨some 62, .lenr (.t 61), none⟩,
    ⟨some 63, .mv (.c (.i .i64 0)), none⟩])
  (.blk 3
   (.loop
    (.seq (.reg [⟨some 64, .bin .lss (.t 63) (.t 62), none⟩])
    (.seq (.cond (.t 64)
     (.skip)
     (.exit 3))
    (.seq (.blk 4
     (.seq (.reg [⟨some 65, .mv (.t 63), none⟩,
       ⟨some 66, .iad 1 (.t 61) (.t 63), none⟩,
       ⟨some 67, .load1 (.t 66), none⟩,
       ⟨some 11, .mv (.t 65), none⟩,
       ⟨some 12, .mv (.t 67), none⟩])
     (.seq (.seq (.reg [⟨some 13, .mv (.c (.i .i64 0)), none⟩])
     (.blk 5
      (.loop
       (.seq (.seq (.reg [⟨some 68, .mv (.t 13), none⟩,
         ⟨some 69, .mv (.t 12), none⟩,
         ⟨some 70, .lens (.t 69), none⟩,
         ⟨some 71, .bin .lss (.t 68) (.t 70), none⟩])
       (.cond (.t 71)
        (.skip)
        (.exit 5)))
       (.seq (.blk 6
        (.seq (.reg [⟨some 74, .mv (.t 12), none⟩,
          ⟨some 75, .mv (.t 13), none⟩,
          ⟨some 76, .idx (.t 74) (.t 75), none⟩,
          ⟨some 77, .call 57 [.t 76], none⟩,
          ⟨some 78, .not (.t 77), none⟩,
          ⟨some 79, .mv (.t 78), none⟩,
          ⟨some 80, .mv (.t 12), some (79, true)⟩,
          ⟨some 81, .mv (.t 13), some (79, true)⟩,
          ⟨some 82, .idx (.t 80) (.t 81), some (79, true)⟩,
          ⟨some 83, .bin .neq (.t 82) (.c (.i .u8 37)), some (79, true)⟩,
          ⟨some 84, .pick (.t 79) (.t 83) (.c (.b false)), none⟩])
        (.cond (.t 84)
         (.seq (.reg [⟨some 85, .build [.s [], .s []] [], none⟩,
           ⟨none, .store 2 (.t 2) (.t 85), none⟩,
           ⟨some 3, .mv (.c (.i .i64 1)), none⟩])
         (.ret))
         (.skip))))
       (.reg [⟨some 72, .mv (.t 13), none⟩,
         ⟨some 73, .bin .add (.t 72) (.c (.i .i64 1)), none⟩,
         ⟨some 13, .mv (.t 73), none⟩]))))))
     (.seq (.reg [⟨some 87, .mv (.t 12), none⟩,
       ⟨some 88, .call 56 [.t 87], none⟩,
       ⟨some 86, .mv (.t 88), none⟩,
       ⟨some 89, .ext (.t 86) 0, none⟩,
       ⟨some 90, .ext (.t 86) 1, none⟩,
       ⟨some 14, .mv (.t 89), none⟩,
       ⟨some 15, .mv (.t 90), none⟩])
     (.seq (.seq (.reg [⟨some 91, .mv (.t 11), none⟩,
       ⟨some 92, .bin .gtr (.t 91) (.c (.i .i64 0)), none⟩])
     (.cond (.t 92)
      (.reg [⟨some 93, .mv (.t 10), none⟩,
        ⟨some 94, .bin .add (.t 93) (.c (.s [58])), none⟩,
        ⟨some 10, .mv (.t 94), none⟩])
      (.skip)))
     (.reg [⟨some 95, .mv (.t 10), none⟩,
       ⟨some 96, .mv (.t 14), none⟩,
       ⟨some 97, .call 58 [.t 96], none⟩,
       ⟨some 98, .bin .add (.t 95) (.t 97), none⟩,
       ⟨some 10, .mv (.t 98), none⟩]))))))
    (.reg [⟨some 99, .bin .add (.t 63) (.c (.i .i64 1)), none⟩,
      ⟨some 63, .mv (.t 99), none⟩])))))))
  (.seq (.seq (.reg [⟨some 100, .mv (.t 5), none⟩,
    ⟨some 101, .mv (.t 5), none⟩,
    ⟨some 102, .lenr (.t 101), none⟩,
    ⟨some 103, .bin .sub (.t 102) (.c (.i .i64 1)), none⟩,
    ⟨some 104, .iad 1 (.t 100) (.t 103), none⟩,
    ⟨some 105, .load1 (.t 104), none⟩,
    ⟨some 106, .bin .eql (.t 105) (.c (.s [])), none⟩])
  (.cond (.t 106)
   (.seq (.reg [⟨some 107, .build [.s [], .s []] [], none⟩,
     ⟨none, .store 2 (.t 2) (.t 107), none⟩,
     ⟨some 3, .mv (.c (.i .i64 3)), none⟩])
   (.ret))
   (.skip)))
  (.seq (.reg [⟨some 108, .mv (.t 0), none⟩,
    ⟨some 109, .mv (.t 4), none⟩,
    ⟨some 110, .slcs (.t 108) none (some (.t 109)), none⟩,
    ⟨some 111, .mv (.t 10), none⟩,
    ⟨some 112, .build [.s [], .s []] [(0, (1, .t 110)), (1, (1, .t 111))], none⟩,
    ⟨none, .store 2 (.t 2) (.t 112), none⟩,
    ⟨some 3, .mv (.c (.i .i64 0)), none⟩])
  (.ret))))))))))))
theorem is_ref10_ParseDID : FnIs Tryd.prog 23 113 [.celln 2 2, .tmp 3] c_ref10_ParseDID := ⟨⟨_, _, Tryd.func23, rfl, rfl, by kernel_rfl, by kernel_rfl⟩⟩
def c_did_Parse : SCode :=
  .seq (.reg [⟨some 2, .alloc 46 [.s [], .s [], .s [], .s [], .s [], .b false, .b false], none⟩,
    ⟨some 3, .mv (.c (.i .i64 0)), none⟩])
  (.seq (.seq (.reg [⟨some 15, .mv (.t 0), none⟩,
    ⟨some 16, .lens (.t 15), none⟩,
    ⟨some 17, .bin .gtr (.t 16) (.c (.i .i64 4096)), none⟩])
  (.cond (.t 17)
   (.seq (.reg [⟨some 18, .build [.s [], .s [], .s [], .s [], .s [], .b false, .b false] [], none⟩,
     ⟨none, .store 7 (.t 2) (.t 18), none⟩,
     ⟨some 3, .mv (.c (.i .i64 5)), none⟩])
   (.ret))
   (.skip)))
  (.seq (.reg [⟨some 20, .mv (.t 0), none⟩,
    ⟨some 21, .call 33 [.t 20, .c (.s [35])], none⟩,
    ⟨some 19, .mv (.t 21), none⟩,
    ⟨some 22, .ext (.t 19) 0, none⟩,
    ⟨some 23, .ext (.t 19) 1, none⟩,
    ⟨some 24, .ext (.t 19) 2, none⟩,
    ⟨some 4, .mv (.t 22), none⟩,
    ⟨some 5, .mv (.t 23), none⟩,
    ⟨some 6, .mv (.t 24), none⟩])
  (.seq (.reg [⟨some 26, .mv (.t 4), none⟩,
    ⟨some 27, .call 33 [.t 26, .c (.s [63])], none⟩,
    ⟨some 25, .mv (.t 27), none⟩,
    ⟨some 28, .ext (.t 25) 0, none⟩,
    ⟨some 29, .ext (.t 25) 1, none⟩,
    ⟨some 30, .ext (.t 25) 2, none⟩,
    ⟨some 4, .mv (.t 28), none⟩,
    ⟨some 7, .mv (.t 29), none⟩,
    ⟨some 8, .mv (.t 30), none⟩])
  (.seq (.reg [⟨some 32, .mv (.t 4), none⟩,
    ⟨some 33, .call 33 [.t 32, .c (.s [47])], none⟩,
    ⟨some 31, .mv (.t 33), none⟩,
    ⟨some 34, .ext (.t 31) 0, none⟩,
    ⟨some 35, .ext (.t 31) 1, none⟩,
    ⟨some 36, .ext (.t 31) 2, none⟩,
    ⟨some 9, .mv (.t 34), none⟩,
    ⟨some 10, .mv (.t 35), none⟩,
    ⟨some 11, .mv (.t 36), none⟩])
  (.seq (.reg [⟨some 38, .mv (.t 9), none⟩,
    ⟨some 39, .call 22 [.t 38], none⟩,
    ⟨some 37, .mv (.t 39), none⟩,
    ⟨some 40, .ext (.t 37) 0, none⟩,
    ⟨some 41, .ext (.t 37) 1, none⟩,
    ⟨some 12, .alloc 42 [.s [], .s []], none⟩,
    ⟨none, .store 2 (.t 12) (.t 40), none⟩,
    ⟨some 13, .mv (.t 41), none⟩])
  (.seq (.seq (.reg [⟨some 42, .mv (.t 13), none⟩,
    ⟨some 43, .bin .neq (.t 42) (.c (.i .i64 0)), none⟩])
  (.cond (.t 43)
   (.seq (.reg [⟨some 44, .build [.s [], .s [], .s [], .s [], .s [], .b false, .b false] [], none⟩,
     ⟨some 45, .mv (.t 13), none⟩,
     ⟨none, .store 7 (.t 2) (.t 44), none⟩,
     ⟨some 3, .mv (.t 45), none⟩])
   (.ret))
   (.skip)))
  (.seq (.reg [⟨some 47, .mv (.t 4), none⟩,
    ⟨some 48, .mv (.t 9), none⟩,
    ⟨some 49, .lens (.t 48), none⟩,
    ⟨some 50, .slcs (.t 47) (some (.t 49)) none, none⟩,
    ⟨some 51, .call 59 [.t 50, .c (.s [33, 36, 38, 39, 40, 41, 42, 43, 44, 59, 61, 58, 64, 47])], none⟩,
    ⟨some 46, .mv (.t 51), none⟩,
    ⟨some 52, .ext (.t 46) 0, none⟩,
    ⟨some 53, .ext (.t 46) 1, none⟩,
    ⟨some 14, .mv (.t 52), none⟩,
    ⟨some 13, .mv (.t 53), none⟩])
  (.seq (.seq (.reg [⟨some 54, .mv (.t 13), none⟩,
    ⟨some 55, .bin .neq (.t 54) (.c (.i .i64 0)), none⟩])
  (.cond (.t 55)
   (.seq (.reg [⟨some 56, .build [.s [], .s [], .s [], .s [], .s [], .b false, .b false] [], none⟩,
     ⟨some 57, .mv (.t 13), none⟩,
     ⟨none, .store 7 (.t 2) (.t 56), none⟩,
     ⟨some 3, .mv (.t 57), none⟩])
   (.ret))
   (.skip)))
  (.seq (.reg [⟨some 59, .mv (.t 7), none⟩,
    ⟨some 60, .call 59 [.t 59, .c (.s [33, 36, 38, 39, 40, 41, 42, 43, 44, 59, 61, 58, 64, 47, 63])], none⟩,
    ⟨some 58, .mv (.t 60), none⟩,
    ⟨some 61, .ext (.t 58) 0, none⟩,
    ⟨some 62, .ext (.t 58) 1, none⟩,
    ⟨some 7, .mv (.t 61), none⟩,
    ⟨some 13, .mv (.t 62), none⟩])
  (.seq (.seq (.reg [⟨some 63, .mv (.t 13), none⟩,
    ⟨some 64, .bin .neq (.t 63) (.c (.i .i64 0)), none⟩])
  (.cond (.t 64)
   (.seq (.reg [⟨some 65, .build [.s [], .s [], .s [], .s [], .s [], .b false, .b false] [], none⟩,
     ⟨some 66, .mv (.t 13), none⟩,
     ⟨none, .store 7 (.t 2) (.t 65), none⟩,
     ⟨some 3, .mv (.t 66), none⟩])
   (.ret))
   (.skip)))
  (.seq (.reg [⟨some 68, .mv (.t 5), none⟩,
    ⟨some 69, .call 59 [.t 68, .c (.s [33, 36, 38, 39, 40, 41, 42, 43, 44, 59, 61, 58, 64, 47, 63])], none⟩,
    ⟨some 67, .mv (.t 69), none⟩,
    ⟨some 70, .ext (.t 67) 0, none⟩,
    ⟨some 71, .ext (.t 67) 1, none⟩,
    ⟨some 5, .mv (.t 70), none⟩,
    ⟨some 13, .mv (.t 71), none⟩])
  (.seq (.seq (.reg [⟨some 72, .mv (.t 13), none⟩,
    ⟨some 73, .bin .neq (.t 72) (.c (.i .i64 0)), none⟩])
  (.cond (.t 73)
   (.seq (.reg [⟨some 74, .build [.s [], .s [], .s [], .s [], .s [], .b false, .b false] [], none⟩,
     ⟨some 75, .mv (.t 13), none⟩,
     ⟨none, .store 7 (.t 2) (.t 74), none⟩,
     ⟨some 3, .mv (.t 75), none⟩])
   (.ret))
   (.skip)))
  (.seq (.reg [⟨some 76, .loadn 2 (.t 12), none⟩,
    ⟨some 77, .mv (.t 14), none⟩,
    ⟨some 78, .mv (.t 7), none⟩,
    ⟨some 79, .mv (.t 8), none⟩,
    ⟨some 80, .mv (.t 5), none⟩,
    ⟨some 81, .mv (.t 6), none⟩,
    ⟨some 82, .build [.s [], .s [], .s [], .s [], .s [], .b false, .b false] [(0, (2, .t 76)), (2, (1, .t 77)), (3, (1, .t 78)), (5, (1, .t 79)), (4, (1, .t 80)), (6, (1, .t 81))], none⟩,
    ⟨none, .store 7 (.t 2) (.t 82), none⟩,
    ⟨some 3, .mv (.c (.i .i64 0)), none⟩])
  (.ret))))))))))))))
theorem is_did_Parse : FnIs Tryd.prog 24 83 [.celln 2 7, .tmp 3] c_did_Parse := ⟨⟨_, _, Tryd.func24, rfl, rfl, by kernel_rfl, by kernel_rfl⟩⟩
def c_ref10_Parse : SCode :=
  .seq (.reg [⟨some 2, .alloc 46 [.s [], .s [], .s [], .s [], .s [], .b false, .b false], none⟩,
    ⟨some 3, .mv (.c (.i .i64 0)), none⟩])
  (.seq (.seq (.reg [⟨some 11, .mv (.t 0), none⟩,
    ⟨some 12, .lens (.t 11), none⟩,
    ⟨some 13, .bin .gtr (.t 12) (.c (.i .i64 4096)), none⟩])
  (.cond (.t 13)
   (.seq (.reg [⟨some 14, .build [.s [], .s [], .s [], .s [], .s [], .b false, .b false] [], none⟩,
     ⟨none, .store 7 (.t 2) (.t 14), none⟩,
     ⟨some 3, .mv (.c (.i .i64 5)), none⟩])
   (.ret))
   (.skip)))
  (.seq (.reg [⟨some 15, .mv (.t 0), none⟩,
    ⟨some 16, .call 35 [.t 15, .c (.s [47, 63, 35])], none⟩,
    ⟨some 4, .mv (.t 16), none⟩])
  (.seq (.reg [⟨some 18, .mv (.t 0), none⟩,
    ⟨some 19, .mv (.t 4), none⟩,
    ⟨some 20, .slcs (.t 18) none (some (.t 19)), none⟩,
    ⟨some 21, .call 23 [.t 20], none⟩,
    ⟨some 17, .mv (.t 21), none⟩,
    ⟨some 22, .ext (.t 17) 0, none⟩,
    ⟨some 23, .ext (.t 17) 1, none⟩,
    ⟨some 5, .alloc 42 [.s [], .s []], none⟩,
    ⟨none, .store 2 (.t 5) (.t 22), none⟩,
    ⟨some 6, .mv (.t 23), none⟩])
  (.seq (.seq (.reg [⟨some 24, .mv (.t 6), none⟩,
    ⟨some 25, .bin .neq (.t 24) (.c (.i .i64 0)), none⟩])
  (.cond (.t 25)
   (.seq (.reg [⟨some 26, .build [.s [], .s [], .s [], .s [], .s [], .b false, .b false] [], none⟩,
     ⟨some 27, .mv (.t 6), none⟩,
     ⟨none, .store 7 (.t 2) (.t 26), none⟩,
     ⟨some 3, .mv (.t 27), none⟩])
   (.ret))
   (.skip)))
  (.seq (.drw [⟨some 28, .loadn 2 (.t 5), none⟩,
    ⟨some 29, .build [.s [], .s [], .s [], .s [], .s [], .b false, .b false] [(0, (2, .t 28))], none⟩,
    ⟨some 30, .mv (.t 0), none⟩,
    ⟨some 31, .mv (.t 4), none⟩,
    ⟨some 32, .slcs (.t 30) (some (.t 31)) none, none⟩,
    ⟨some 7, .alloc 46 [.s [], .s [], .s [], .s [], .s [], .b false, .b false], none⟩,
    ⟨none, .store 7 (.t 7) (.t 29), none⟩,
    ⟨some 8, .mv (.t 32), none⟩] 8 [(5, 7)])
  (.seq (.seq (.reg [⟨some 33, .mv (.t 8), none⟩,
    ⟨some 34, .call 35 [.t 33, .c (.s [35])], none⟩,
    ⟨some 9, .mv (.t 34), none⟩])
  (.seq (.reg [⟨some 35, .mv (.t 9), none⟩,
    ⟨some 36, .mv (.t 8), none⟩,
    ⟨some 37, .lens (.t 36), none⟩,
    ⟨some 38, .bin .lss (.t 35) (.t 37), none⟩])
  (.cond (.t 38)
   (.drw [⟨some 39, .mv (.t 8), none⟩,
     ⟨some 40, .mv (.t 9), none⟩,
     ⟨some 41, .bin .add (.t 40) (.c (.i .i64 1)), none⟩,
     ⟨some 42, .slcs (.t 39) (some (.t 41)) none, none⟩,
     ⟨some 43, .mv (.t 8), none⟩,
     ⟨some 44, .mv (.t 9), none⟩,
     ⟨some 45, .slcs (.t 43) none (some (.t 44)), none⟩,
     ⟨some 46, .fad 4 (.t 7), none⟩,
     ⟨none, .store 1 (.t 46) (.t 42), none⟩,
     ⟨some 47, .fad 6 (.t 7), none⟩,
     ⟨none, .store 1 (.t 47) (.c (.b true)), none⟩,
     ⟨some 8, .mv (.t 45), none⟩] 12 [])
   (.skip))))
  (.seq (.seq (.reg [⟨some 48, .mv (.t 8), none⟩,
    ⟨some 49, .call 35 [.t 48, .c (.s [63])], none⟩,
    ⟨some 10, .mv (.t 49), none⟩])
  (.seq (.reg [⟨some 50, .mv (.t 10), none⟩,
    ⟨some 51, .mv (.t 8), none⟩,
    ⟨some 52, .lens (.t 51), none⟩,
    ⟨some 53, .bin .lss (.t 50) (.t 52), none⟩])
  (.cond (.t 53)
   (.drw [⟨some 54, .mv (.t 8), none⟩,
     ⟨some 55, .mv (.t 10), none⟩,
     ⟨some 56, .bin .add (.t 55) (.c (.i .i64 1)), none⟩,
     ⟨some 57, .slcs (.t 54) (some (.t 56)) none, none⟩,
     ⟨some 58, .mv (.t 8), none⟩,
     ⟨some 59, .mv (.t 10), none⟩,
     ⟨some 60, .slcs (.t 58) none (some (.t 59)), none⟩,
     ⟨some 61, .fad 3 (.t 7), none⟩,
     ⟨none, .store 1 (.t 61) (.t 57), none⟩,
     ⟨some 62, .fad 5 (.t 7), none⟩,
     ⟨none, .store 1 (.t 62) (.c (.b true)), none⟩,
     ⟨some 8, .mv (.t 60), none⟩] 12 [])
   (.skip))))
  (.seq (.seq (.reg [⟨some 64, .mv (.t 8), none⟩,
    ⟨some 65, .call 60 [.t 64, .c (.s [33, 36, 38, 39, 40, 41, 42, 43, 44, 59, 61, 58, 64, 47])], none⟩,
    ⟨some 63, .mv (.t 65), none⟩,
    ⟨some 66, .ext (.t 63) 0, none⟩,
    ⟨some 67, .ext (.t 63) 1, none⟩,
    ⟨some 68, .fad 2 (.t 7), none⟩,
    ⟨none, .store 1 (.t 68) (.t 66), none⟩,
    ⟨some 6, .mv (.t 67), none⟩])
  (.seq (.reg [⟨some 69, .mv (.t 6), none⟩,
    ⟨some 70, .bin .neq (.t 69) (.c (.i .i64 0)), none⟩])
  (.cond (.t 70)
   (.seq (.reg [⟨some 71, .build [.s [], .s [], .s [], .s [], .s [], .b false, .b false] [], none⟩,
     ⟨some 72, .mv (.t 6), none⟩,
     ⟨none, .store 7 (.t 2) (.t 71), none⟩,
     ⟨some 3, .mv (.t 72), none⟩])
   (.ret))
   (.skip))))
  (.seq (.seq (.reg [⟨some 74, .fad 3 (.t 7), none⟩,
    ⟨some 75, .load1 (.t 74), none⟩,
    ⟨some 76, .call 60 [.t 75, .c (.s [33, 36, 38, 39, 40, 41, 42, 43, 44, 59, 61, 58, 64, 47, 63])], none⟩,
    ⟨some 73, .mv (.t 76), none⟩,
    ⟨some 77, .ext (.t 73) 0, none⟩,
    ⟨some 78, .ext (.t 73) 1, none⟩,
    ⟨some 79, .fad 3 (.t 7), none⟩,
    ⟨none, .store 1 (.t 79) (.t 77), none⟩,
    ⟨some 6, .mv (.t 78), none⟩])
  (.seq (.reg [⟨some 80, .mv (.t 6), none⟩,
    ⟨some 81, .bin .neq (.t 80) (.c (.i .i64 0)), none⟩])
  (.cond (.t 81)
   (.seq (.reg [⟨some 82, .build [.s [], .s [], .s [], .s [], .s [], .b false, .b false] [], none⟩,
     ⟨some 83, .mv (.t 6), none⟩,
     ⟨none, .store 7 (.t 2) (.t 82), none⟩,
     ⟨some 3, .mv (.t 83), none⟩])
   (.ret))
   (.skip))))
  (.seq (.seq (.reg [⟨some 85, .fad 4 (.t 7), none⟩,
    ⟨some 86, .load1 (.t 85), none⟩,
    ⟨some 87, .call 60 [.t 86, .c (.s [33, 36, 38, 39, 40, 41, 42, 43, 44, 59, 61, 58, 64, 47, 63])], none⟩,
    ⟨some 84, .mv (.t 87), none⟩,
    ⟨some 88, .ext (.t 84) 0, none⟩,
    ⟨some 89, .ext (.t 84) 1, none⟩,
    ⟨some 90, .fad 4 (.t 7), none⟩,
    ⟨none, .store 1 (.t 90) (.t 88), none⟩,
    ⟨some 6, .mv (.t 89), none⟩])
  (.seq (.reg [⟨some 91, .mv (.t 6), none⟩,
    ⟨some 92, .bin .neq (.t 91) (.c (.i .i64 0)), none⟩])
  (.cond (.t 92)
   (.seq (.reg [⟨some 93, .build [.s [], .s [], .s [], .s [], .s [], .b false, .b false] [], none⟩,
     ⟨some 94, .mv (.t 6), none⟩,
     ⟨none, .store 7 (.t 2) (.t 93), none⟩,
     ⟨some 3, .mv (.t 94), none⟩])
   (.ret))
   (.skip))))
  (.seq (.reg [⟨some 95, .loadn 7 (.t 7), none⟩,
    ⟨none, .store 7 (.t 2) (.t 95), none⟩,
    ⟨some 3, .mv (.c (.i .i64 0)), none⟩])
  (.ret))))))))))))
theorem is_ref10_Parse : FnIs Tryd.prog 25 96 [.celln 2 7, .tmp 3] c_ref10_Parse := ⟨⟨_, _, Tryd.func25, rfl, rfl, by kernel_rfl, by kernel_rfl⟩⟩
def c_did_FormatDID : SCode :=
  .seq (.reg [⟨some 1, .box 42 (.t 0), none⟩,
    ⟨some 2, .mv (.c (.s [])), none⟩])
  (.seq (.reg [⟨some 3, .fad 0 (.t 1), none⟩,
    ⟨some 4, .load1 (.t 3), none⟩,
    ⟨some 5, .bin .add (.c (.s [100, 105, 100, 58])) (.t 4), none⟩,
    ⟨some 6, .bin .add (.t 5) (.c (.s [58])), none⟩,
    ⟨some 7, .fad 1 (.t 1), none⟩,
    ⟨some 8, .load1 (.t 7), none⟩,
    ⟨some 9, .bin .add (.t 6) (.t 8), none⟩,
    ⟨some 2, .mv (.t 9), none⟩])
  (.ret))
theorem is_did_FormatDID : FnIs Tryd.prog 26 10 [.tmp 2] c_did_FormatDID := ⟨⟨_, _, Tryd.func26, rfl, rfl, by kernel_rfl, by kernel_rfl⟩⟩
def c_ref10_FormatDID : SCode :=
  .seq (.reg [⟨some 1, .box 42 (.t 0), none⟩,
    ⟨some 2, .mv (.c (.s [])), none⟩])
  (.seq (.reg [⟨some 3, .fad 0 (.t 1), none⟩,
    ⟨some 4, .load1 (.t 3), none⟩,
    ⟨some 5, .bin .add (.c (.s [100, 105, 100, 58])) (.t 4), none⟩,
    ⟨some 6, .bin .add (.t 5) (.c (.s [58])), none⟩,
    ⟨some 7, .fad 1 (.t 1), none⟩,
    ⟨some 8, .load1 (.t 7), none⟩,
    ⟨some 9, .bin .add (.t 6) (.t 8), none⟩,
    ⟨some 2, .mv (.t 9), none⟩])
  (.ret))
theorem is_ref10_FormatDID : FnIs Tryd.prog 27 10 [.tmp 2] c_ref10_FormatDID := ⟨⟨_, _, Tryd.func27, rfl, rfl, by kernel_rfl, by kernel_rfl⟩⟩
def c_did_Format : SCode :=
  .seq (.reg [⟨some 1, .box 46 (.t 0), none⟩,
    ⟨some 2, .mv (.c (.s [])), none⟩])
  (.seq (.drw [⟨some 4, .fad 0 (.t 1), none⟩,
    ⟨some 5, .loadn 2 (.t 4), none⟩,
    ⟨some 6, .call 26 [.t 5], none⟩,
    ⟨some 7, .fad 2 (.t 1), none⟩,
    ⟨some 8, .load1 (.t 7), none⟩,
    ⟨some 9, .bin .add (.t 6) (.t 8), none⟩,
    ⟨some 3, .mv (.t 9), none⟩] 7 [])
  (.seq (.seq (.reg [⟨some 10, .fad 5 (.t 1), none⟩,
    ⟨some 11, .load1 (.t 10), none⟩])
  (.cond (.t 11)
   (.reg [⟨some 12, .mv (.t 3), none⟩,
     ⟨some 13, .fad 3 (.t 1), none⟩,
     ⟨some 14, .load1 (.t 13), none⟩,
     ⟨some 15, .bin .add (.c (.s [63])) (.t 14), none⟩,
     ⟨some 16, .bin .add (.t 12) (.t 15), none⟩,
     ⟨some 3, .mv (.t 16), none⟩])
   (.skip)))
  (.seq (.seq (.reg [⟨some 17, .fad 6 (.t 1), none⟩,
    ⟨some 18, .load1 (.t 17), none⟩])
  (.cond (.t 18)
   (.reg [⟨some 19, .mv (.t 3), none⟩,
     ⟨some 20, .fad 4 (.t 1), none⟩,
     ⟨some 21, .load1 (.t 20), none⟩,
     ⟨some 22, .bin .add (.c (.s [35])) (.t 21), none⟩,
     ⟨some 23, .bin .add (.t 19) (.t 22), none⟩,
     ⟨some 3, .mv (.t 23), none⟩])
   (.skip)))
  (.seq (.reg [⟨some 24, .mv (.t 3), none⟩,
    ⟨some 2, .mv (.t 24), none⟩])
  (.ret)))))
theorem is_did_Format : FnIs Tryd.prog 28 25 [.tmp 2] c_did_Format := ⟨⟨_, _, Tryd.func28, rfl, rfl, by kernel_rfl, by kernel_rfl⟩⟩
def c_ref10_Format : SCode :=
  .seq (.reg [⟨some 1, .box 46 (.t 0), none⟩,
    ⟨some 2, .mv (.c (.s [])), none⟩])
  (.seq (.drw [⟨some 4, .fad 0 (.t 1), none⟩,
    ⟨some 5, .loadn 2 (.t 4), none⟩,
    ⟨some 6, .call 27 [.t 5], none⟩,
    ⟨some 7, .fad 2 (.t 1), none⟩,
    ⟨some 8, .load1 (.t 7), none⟩,
    ⟨some 9, .bin .add (.t 6) (.t 8), none⟩,
    ⟨some 3, .mv (.t 9), none⟩] 7 [])
  (.seq (.seq (.reg [⟨some 10, .fad 5 (.t 1), none⟩,
    ⟨some 11, .load1 (.t 10), none⟩])
  (.cond (.t 11)
   (.reg [⟨some 12, .mv (.t 3), none⟩,
     ⟨some 13, .fad 3 (.t 1), none⟩,
     ⟨some 14, .load1 (.t 13), none⟩,
     ⟨some 15, .bin .add (.c (.s [63])) (.t 14), none⟩,
     ⟨some 16, .bin .add (.t 12) (.t 15), none⟩,
     ⟨some 3, .mv (.t 16), none⟩])
   (.skip)))
  (.seq (.seq (.reg [⟨some 17, .fad 6 (.t 1), none⟩,
    ⟨some 18, .load1 (.t 17), none⟩])
  (.cond (.t 18)
   (.reg [⟨some 19, .mv (.t 3), none⟩,
     ⟨some 20, .fad 4 (.t 1), none⟩,
     ⟨some 21, .load1 (.t 20), none⟩,
     ⟨some 22, .bin .add (.c (.s [35])) (.t 21), none⟩,
     ⟨some 23, .bin .add (.t 19) (.t 22), none⟩,
     ⟨some 3, .mv (.t 23), none⟩])
   (.skip)))
  (.seq (.reg [⟨some 24, .mv (.t 3), none⟩,
    ⟨some 2, .mv (.t 24), none⟩])
  (.ret)))))
theorem is_ref10_Format : FnIs Tryd.prog 29 25 [.tmp 2] c_ref10_Format := ⟨⟨_, _, Tryd.func29, rfl, rfl, by kernel_rfl, by kernel_rfl⟩⟩
def c_did_Resolve : SCode :=
  .seq (.reg [⟨some 2, .box 42 (.t 0), none⟩,
    ⟨some 4, .alloc 46 [.s [], .s [], .s [], .s [], .s [], .b false, .b false], none⟩,
    ⟨some 5, .mv (.c (.i .i64 0)), none⟩])
  (.seq (.blk 0
   (.seq (.reg [⟨some 7, .mv (.t 1), none⟩,
     ⟨some 8, .call 61 [.t 7, .c (.s [100, 105, 100, 58])], none⟩,
     ⟨some 6, .mv (.t 8), none⟩])
   (.cond (.t 6)
    (.seq (.reg [⟨some 9, .mv (.t 1), none⟩,
      ⟨some 10, .call 24 [.t 9], none⟩,
      ⟨some 11, .ext (.t 10) 0, none⟩,
      ⟨some 12, .ext (.t 10) 1, none⟩,
      ⟨none, .store 7 (.t 4) (.t 11), none⟩,
      ⟨some 5, .mv (.t 12), none⟩])
    (.ret))
    (.seq (.reg [⟨some 14, .mv (.t 1), none⟩,
      ⟨some 15, .bin .eql (.t 14) (.c (.s [])), none⟩,
      ⟨some 16, .mv (.t 15), none⟩,
      ⟨some 17, .mv (.t 1), some (16, false)⟩,
      ⟨some 18, .idx (.t 17) (.c (.i .i64 0)), some (16, false)⟩,
      ⟨some 19, .call 62 [.c (.s [47, 63, 35]), .t 18], some (16, false)⟩,
      ⟨some 20, .bin .geq (.t 19) (.c (.i .i64 0)), some (16, false)⟩,
      ⟨some 21, .pick (.t 16) (.c (.b true)) (.t 20), none⟩,
      ⟨some 13, .mv (.t 21), none⟩])
    (.cond (.t 13)
     (.seq (.reg [⟨some 22, .loadn 2 (.t 2), none⟩,
       ⟨some 23, .call 26 [.t 22], none⟩,
       ⟨some 24, .mv (.t 1), none⟩,
       ⟨some 25, .bin .add (.t 23) (.t 24), none⟩,
       ⟨some 26, .call 24 [.t 25], none⟩,
       ⟨some 27, .ext (.t 26) 0, none⟩,
       ⟨some 28, .ext (.t 26) 1, none⟩,
       ⟨none, .store 7 (.t 4) (.t 27), none⟩,
       ⟨some 5, .mv (.t 28), none⟩])
     (.ret))
     (.skip))))))
  (.seq (.reg [⟨some 29, .build [.s [], .s [], .s [], .s [], .s [], .b false, .b false] [], none⟩,
    ⟨none, .store 7 (.t 4) (.t 29), none⟩,
    ⟨some 5, .mv (.c (.i .i64 6)), none⟩])
  (.ret)))
theorem is_did_Resolve : FnIs Tryd.prog 30 30 [.celln 4 7, .tmp 5] c_did_Resolve := ⟨⟨_, _, Tryd.func30, rfl, rfl, by kernel_rfl, by kernel_rfl⟩⟩
def c_ref10_Resolve : SCode :=
  .seq (.reg [⟨some 2, .box 42 (.t 0), none⟩,
    ⟨some 4, .alloc 46 [.s [], .s [], .s [], .s [], .s [], .b false, .b false], none⟩,
    ⟨some 5, .mv (.c (.i .i64 0)), none⟩])
  (.seq (.seq (.reg [⟨some 6, .mv (.t 1), none⟩,
    ⟨some 7, .call 53 [.t 6, .c (.s [100, 105, 100, 58])], none⟩])
  (.cond (.t 7)
   (.seq (.reg [⟨some 8, .mv (.t 1), none⟩,
     ⟨some 9, .call 25 [.t 8], none⟩,
     ⟨some 10, .ext (.t 9) 0, none⟩,
     ⟨some 11, .ext (.t 9) 1, none⟩,
     ⟨none, .store 7 (.t 4) (.t 10), none⟩,
     ⟨some 5, .mv (.t 11), none⟩])
   (.ret))
   (.skip)))
  (.seq (.seq (.reg [⟨some 12, .mv (.t 1), none⟩,
    ⟨some 13, .bin .neq (.t 12) (.c (.s [])), none⟩,
    ⟨some 14, .mv (.t 13), none⟩,
    ⟨some 15, .mv (.t 1), some (14, true)⟩,
    ⟨some 16, .idx (.t 15) (.c (.i .i64 0)), some (14, true)⟩,
    ⟨some 17, .call 63 [.t 16, .c (.s [47, 63, 35])], some (14, true)⟩,
    ⟨some 18, .not (.t 17), some (14, true)⟩,
    ⟨some 19, .pick (.t 14) (.t 18) (.c (.b false)), none⟩])
  (.cond (.t 19)
   (.seq (.reg [⟨some 20, .build [.s [], .s [], .s [], .s [], .s [], .b false, .b false] [], none⟩,
     ⟨none, .store 7 (.t 4) (.t 20), none⟩,
     ⟨some 5, .mv (.c (.i .i64 6)), none⟩])
   (.ret))
   (.skip)))
  (.seq (.reg [⟨some 21, .loadn 2 (.t 2), none⟩,
    ⟨some 22, .call 27 [.t 21], none⟩,
    ⟨some 23, .mv (.t 1), none⟩,
    ⟨some 24, .bin .add (.t 22) (.t 23), none⟩,
    ⟨some 25, .call 25 [.t 24], none⟩,
    ⟨some 26, .ext (.t 25) 0, none⟩,
    ⟨some 27, .ext (.t 25) 1, none⟩,
    ⟨none, .store 7 (.t 4) (.t 26), none⟩,
    ⟨some 5, .mv (.t 27), none⟩])
  (.ret))))
theorem is_ref10_Resolve : FnIs Tryd.prog 31 28 [.celln 4 7, .tmp 5] c_ref10_Resolve := ⟨⟨_, _, Tryd.func31, rfl, rfl, by kernel_rfl, by kernel_rfl⟩⟩
def c_host_IsIPv4 : SCode :=
  .seq (.reg [⟨some 2, .mv (.c (.b false)), none⟩])
  (.seq (.reg [⟨some 11, .mv (.t 0), none⟩,
    ⟨some 3, .mv (.t 11), none⟩])
  (.seq (.seq (.reg [⟨some 12, .mv (.c (.i .i64 0)), none⟩])
  (.blk 0
   (.loop
    (.seq (.reg [⟨some 13, .bin .lss (.t 12) (.c (.i .i64 4)), none⟩])
    (.seq (.cond (.t 13)
     (.skip)
     (.exit 0))
    (.seq (.blk 1
     (.seq (.reg [⟨some 14, .mv (.t 12), none⟩,
       ⟨some 4, .mv (.t 14), none⟩])
     (.seq (.reg [⟨some 16, .mv (.t 3), none⟩,
       ⟨some 17, .call 33 [.t 16, .c (.s [46])], none⟩,
       ⟨some 15, .mv (.t 17), none⟩,
       ⟨some 18, .ext (.t 15) 0, none⟩,
       ⟨some 19, .ext (.t 15) 1, none⟩,
       ⟨some 20, .ext (.t 15) 2, none⟩,
       ⟨some 5, .mv (.t 18), none⟩,
       ⟨some 6, .mv (.t 19), none⟩,
       ⟨some 7, .mv (.t 20), none⟩])
     (.seq (.seq (.reg [⟨some 21, .mv (.t 4), none⟩,
       ⟨some 22, .bin .eql (.t 21) (.c (.i .i64 3)), none⟩,
       ⟨some 8, .mv (.t 22), none⟩])
     (.seq (.reg [⟨some 23, .mv (.t 7), none⟩,
       ⟨some 24, .mv (.t 8), none⟩,
       ⟨some 25, .beq false (.t 23) (.t 24), none⟩])
     (.cond (.t 25)
      (.seq (.reg [⟨some 2, .mv (.c (.b false)), none⟩])
      (.ret))
      (.skip))))
     (.seq (.seq (.reg [⟨some 27, .mv (.t 5), none⟩,
       ⟨some 28, .call 64 [.t 27, .c (.i .u64 255)], none⟩,
       ⟨some 26, .mv (.t 28), none⟩,
       ⟨some 29, .ext (.t 26) 0, none⟩,
       ⟨some 30, .ext (.t 26) 1, none⟩,
       ⟨some 9, .mv (.t 29), none⟩,
       ⟨some 10, .mv (.t 30), none⟩])
     (.seq (.reg [⟨some 31, .mv (.t 10), none⟩,
       ⟨some 32, .bin .neq (.t 31) (.c (.i .i64 0)), none⟩])
     (.cond (.t 32)
      (.seq (.reg [⟨some 2, .mv (.c (.b false)), none⟩])
      (.ret))
      (.skip))))
     (.reg [⟨some 33, .mv (.t 6), none⟩,
       ⟨some 3, .mv (.t 33), none⟩]))))))
    (.reg [⟨some 34, .bin .add (.t 12) (.c (.i .i64 1)), none⟩,
      ⟨some 12, .mv (.t 34), none⟩])))))))
  (.seq (.reg [⟨some 2, .mv (.c (.b true)), none⟩])
  (.ret))))
theorem is_host_IsIPv4 : FnIs Tryd.prog 32 35 [.tmp 2] c_host_IsIPv4 := ⟨⟨_, _, Tryd.func32, rfl, rfl, by kernel_rfl, by kernel_rfl⟩⟩
def c_host_Port : SCode :=
  .seq (.reg [⟨some 2, .mv (.c (.i .i64 0)), none⟩,
    ⟨some 3, .mv (.c (.i .i64 0)), none⟩])
  (.seq (.reg [⟨some 7, .mv (.t 0), none⟩,
    ⟨some 8, .call 64 [.t 7, .c (.i .u64 65535)], none⟩,
    ⟨some 6, .mv (.t 8), none⟩,
    ⟨some 9, .ext (.t 6) 0, none⟩,
    ⟨some 10, .ext (.t 6) 1, none⟩,
    ⟨some 4, .mv (.t 9), none⟩,
    ⟨some 5, .mv (.t 10), none⟩])
  (.seq (.seq (.reg [⟨some 11, .mv (.t 5), none⟩,
    ⟨some 12, .bin .neq (.t 11) (.c (.i .i64 0)), none⟩,
    ⟨some 13, .mv (.t 12), none⟩,
    ⟨some 14, .mv (.t 4), some (13, false)⟩,
    ⟨some 15, .bin .eql (.t 14) (.c (.i .u64 0)), some (13, false)⟩,
    ⟨some 16, .pick (.t 13) (.c (.b true)) (.t 15), none⟩])
  (.cond (.t 16)
   (.seq (.reg [⟨some 2, .mv (.c (.i .i64 0)), none⟩,
     ⟨some 3, .mv (.c (.i .i64 51)), none⟩])
   (.ret))
   (.skip)))
  (.seq (.reg [⟨some 17, .mv (.t 4), none⟩,
    ⟨some 18, .cvi .i64 (.t 17), none⟩,
    ⟨some 2, .mv (.t 18), none⟩,
    ⟨some 3, .mv (.c (.i .i64 0)), none⟩])
  (.ret))))
theorem is_host_Port : FnIs Tryd.prog 34 19 [.tmp 2, .tmp 3] c_host_Port := ⟨⟨_, _, Tryd.func34, rfl, rfl, by kernel_rfl, by kernel_rfl⟩⟩
def c_ref01_Index : SCode :=
  .seq (.reg [⟨some 4, .mv (.c (.i .i64 0)), none⟩])
  (.seq (.seq (.reg [⟨some 5, .mv (.c (.i .i64 0)), none⟩])
  (.blk 0
   (.loop
    (.seq (.seq (.reg [⟨some 6, .mv (.t 5), none⟩,
      ⟨some 7, .mv (.t 0), none⟩,
      ⟨some 8, .lens (.t 7), none⟩,
      ⟨some 9, .bin .lss (.t 6) (.t 8), none⟩])
    (.cond (.t 9)
     (.skip)
     (.exit 0)))
    (.seq (.blk 1
     (.seq (.reg [⟨some 12, .mv (.t 0), none⟩,
       ⟨some 13, .mv (.t 5), none⟩,
       ⟨some 14, .idx (.t 12) (.t 13), none⟩,
       ⟨some 15, .mv (.t 1), none⟩,
       ⟨some 16, .call 63 [.t 14, .t 15], none⟩])
     (.cond (.t 16)
      (.seq (.reg [⟨some 17, .mv (.t 5), none⟩,
        ⟨some 4, .mv (.t 17), none⟩])
      (.ret))
      (.skip))))
    (.reg [⟨some 10, .mv (.t 5), none⟩,
      ⟨some 11, .bin .add (.t 10) (.c (.i .i64 1)), none⟩,
      ⟨some 5, .mv (.t 11), none⟩]))))))
  (.seq (.reg [⟨some 18, .mv (.t 0), none⟩,
    ⟨some 19, .lens (.t 18), none⟩,
    ⟨some 4, .mv (.t 19), none⟩])
  (.ret)))
theorem is_ref01_Index : FnIs Tryd.prog 35 20 [.tmp 4] c_ref01_Index := ⟨⟨_, _, Tryd.func35, rfl, rfl, by kernel_rfl, by kernel_rfl⟩⟩
def c_ref05_Host : SCode :=
  .seq (.reg [⟨some 2, .mv (.c (.s [])), none⟩,
    ⟨some 3, .mv (.c (.i .i64 0)), none⟩])
  (.seq (.blk 0
   (.seq (.reg [⟨some 5, .mv (.t 0), none⟩,
     ⟨some 6, .bin .eql (.t 5) (.c (.s [])), none⟩,
     ⟨some 4, .mv (.t 6), none⟩])
   (.cond (.t 4)
    (.seq (.reg [⟨some 2, .mv (.c (.s [])), none⟩,
      ⟨some 3, .mv (.c (.i .i64 3)), none⟩])
    (.ret))
    (.seq (.reg [⟨some 8, .mv (.t 0), none⟩,
      ⟨some 9, .lens (.t 8), none⟩,
      ⟨some 10, .bin .gtr (.t 9) (.c (.i .i64 253)), none⟩,
      ⟨some 7, .mv (.t 10), none⟩])
    (.cond (.t 7)
     (.seq (.reg [⟨some 2, .mv (.c (.s [])), none⟩,
       ⟨some 3, .mv (.c (.i .i64 5)), none⟩])
     (.ret))
     (.seq (.reg [⟨some 12, .mv (.t 0), none⟩,
       ⟨some 13, .call 66 [.t 12], none⟩,
       ⟨some 14, .not (.t 13), none⟩,
       ⟨some 15, .mv (.t 14), none⟩,
       ⟨some 16, .mv (.t 0), some (15, true)⟩,
       ⟨some 17, .call 67 [.t 16], some (15, true)⟩,
       ⟨some 18, .not (.t 17), some (15, true)⟩,
       ⟨some 19, .pick (.t 15) (.t 18) (.c (.b false)), none⟩,
       ⟨some 11, .mv (.t 19), none⟩])
     (.cond (.t 11)
      (.seq (.reg [⟨some 2, .mv (.c (.s [])), none⟩,
        ⟨some 3, .mv (.c (.i .i64 50)), none⟩])
      (.ret))
      (.skip))))))))
  (.seq (.reg [⟨some 20, .mv (.t 0), none⟩,
    ⟨some 21, .call 68 [.t 20], none⟩,
    ⟨some 2, .mv (.t 21), none⟩,
    ⟨some 3, .mv (.c (.i .i64 0)), none⟩])
  (.ret)))
theorem is_ref05_Host : FnIs Tryd.prog 36 22 [.tmp 2, .tmp 3] c_ref05_Host := ⟨⟨_, _, Tryd.func36, rfl, rfl, by kernel_rfl, by kernel_rfl⟩⟩
def c_ref05_Port : SCode :=
  .seq (.reg [⟨some 2, .mv (.c (.i .i64 0)), none⟩,
    ⟨some 3, .mv (.c (.i .i64 0)), none⟩])
  (.seq (.reg [⟨some 7, .mv (.t 0), none⟩,
    ⟨some 8, .call 69 [.t 7, .c (.i .u64 65535)], none⟩,
    ⟨some 6, .mv (.t 8), none⟩,
    ⟨some 9, .ext (.t 6) 0, none⟩,
    ⟨some 10, .ext (.t 6) 1, none⟩,
    ⟨some 4, .mv (.t 9), none⟩,
    ⟨some 5, .mv (.t 10), none⟩])
  (.seq (.seq (.reg [⟨some 11, .mv (.t 5), none⟩,
    ⟨some 12, .bin .neq (.t 11) (.c (.i .i64 0)), none⟩,
    ⟨some 13, .mv (.t 12), none⟩,
    ⟨some 14, .mv (.t 4), some (13, false)⟩,
    ⟨some 15, .bin .eql (.t 14) (.c (.i .u64 0)), some (13, false)⟩,
    ⟨some 16, .pick (.t 13) (.c (.b true)) (.t 15), none⟩])
  (.cond (.t 16)
   (.seq (.reg [⟨some 2, .mv (.c (.i .i64 0)), none⟩,
     ⟨some 3, .mv (.c (.i .i64 51)), none⟩])
   (.ret))
   (.skip)))
  (.seq (.reg [⟨some 17, .mv (.t 4), none⟩,
    ⟨some 18, .cvi .i64 (.t 17), none⟩,
    ⟨some 2, .mv (.t 18), none⟩,
    ⟨some 3, .mv (.c (.i .i64 0)), none⟩])
  (.ret))))
theorem is_ref05_Port : FnIs Tryd.prog 37 19 [.tmp 2, .tmp 3] c_ref05_Port := ⟨⟨_, _, Tryd.func37, rfl, rfl, by kernel_rfl, by kernel_rfl⟩⟩
def c_ref05_Decimal : SCode :=
  .seq (.reg [⟨some 2, .mv (.c (.s [])), none⟩])
  (.seq (.seq (.reg [⟨some 3, .mv (.t 0), none⟩,
    ⟨some 4, .bin .lss (.t 3) (.c (.i .i64 0)), none⟩])
  (.cond (.t 4)
   (.seq (.reg [⟨some 5, .mv (.t 0), none⟩,
     ⟨some 6, .bin .add (.t 5) (.c (.i .i64 1)), none⟩,
     ⟨some 7, .neg (.t 6), none⟩,
     ⟨some 8, .cvi .u64 (.t 7), none⟩,
     ⟨some 9, .bin .add (.t 8) (.c (.i .u64 1)), none⟩,
     ⟨some 10, .call 71 [.t 9], none⟩,
     ⟨some 11, .bin .add (.c (.s [45])) (.t 10), none⟩,
     ⟨some 2, .mv (.t 11), none⟩])
   (.ret))
   (.skip)))
  (.seq (.reg [⟨some 12, .mv (.t 0), none⟩,
    ⟨some 13, .cvi .u64 (.t 12), none⟩,
    ⟨some 14, .call 71 [.t 13], none⟩,
    ⟨some 2, .mv (.t 14), none⟩])
  (.ret)))
theorem is_ref05_Decimal : FnIs Tryd.prog 39 15 [.tmp 2] c_ref05_Decimal := ⟨⟨_, _, Tryd.func39, rfl, rfl, by kernel_rfl, by kernel_rfl⟩⟩
def c_host_isName : SCode :=
  .seq (.reg [⟨some 2, .mv (.c (.b false)), none⟩])
  (.seq (.reg [⟨some 7, .mv (.t 0), none⟩,
    ⟨some 3, .mv (.t 7), none⟩])
  (.seq (.seq (.reg [⟨some 8, .mv (.t 0), none⟩,
    ⟨some 9, .lens (.t 8), none⟩,
    ⟨some 10, .mv (.c (.i .i64 0)), none⟩])
  (.blk 0
   (.loop
    (.seq (.reg [⟨some 11, .bin .lss (.t 10) (.t 9), none⟩])
    (.seq (.cond (.t 11)
     (.skip)
     (.exit 0))
    (.seq (.blk 1
     (.seq (.reg [⟨some 13, .mv (.t 3), none⟩,
       ⟨some 14, .call 33 [.t 13, .c (.s [46])], none⟩,
       ⟨some 12, .mv (.t 14), none⟩,
       ⟨some 15, .ext (.t 12) 0, none⟩,
       ⟨some 16, .ext (.t 12) 1, none⟩,
       ⟨some 17, .ext (.t 12) 2, none⟩,
       ⟨some 4, .mv (.t 15), none⟩,
       ⟨some 5, .mv (.t 16), none⟩,
       ⟨some 6, .mv (.t 17), none⟩])
     (.seq (.seq (.reg [⟨some 18, .mv (.t 4), none⟩,
       ⟨some 19, .call 72 [.t 18], none⟩,
       ⟨some 20, .not (.t 19), none⟩])
     (.cond (.t 20)
      (.seq (.reg [⟨some 2, .mv (.c (.b false)), none⟩])
      (.ret))
      (.skip)))
     (.seq (.seq (.reg [⟨some 21, .mv (.t 6), none⟩,
       ⟨some 22, .not (.t 21), none⟩])
     (.cond (.t 22)
      (.seq (.reg [⟨some 23, .mv (.t 4), none⟩,
        ⟨some 24, .call 73 [.t 23], none⟩,
        ⟨some 25, .not (.t 24), none⟩,
        ⟨some 2, .mv (.t 25), none⟩])
      (.ret))
      (.skip)))
     (.reg [⟨some 26, .mv (.t 5), none⟩,
       ⟨some 3, .mv (.t 26), none⟩])))))
    (.reg [⟨some 27, .bin .add (.t 10) (.c (.i .i64 1)), none⟩,
      ⟨some 10, .mv (.t 27), none⟩])))))))
  (.seq (.reg [⟨some 2, .mv (.c (.b false)), none⟩])
  (.ret))))
theorem is_host_isName : FnIs Tryd.prog 40 28 [.tmp 2] c_host_isName := ⟨⟨_, _, Tryd.func40, rfl, rfl, by kernel_rfl, by kernel_rfl⟩⟩
def c_ascii_Lower : SCode :=
  .seq (.reg [⟨some 2, .mv (.c (.s [])), none⟩])
  (.seq (.reg [⟨some 5, .mv (.t 0), none⟩,
    ⟨some 6, .lens (.t 5), none⟩,
    ⟨some 7, .mks 5 1 1 (.t 6) (.t 6), none⟩,
    ⟨some 3, .mv (.t 7), none⟩])
  (.seq (.seq (.reg [⟨some 8, .mv (.t 0), none⟩,
    ⟨some 9, .lens (.t 8), none⟩,
    ⟨some 10, .mv (.c (.i .i64 0)), none⟩])
  (.blk 0
   (.loop
    (.seq (.reg [⟨some 11, .bin .lss (.t 10) (.t 9), none⟩])
    (.seq (.cond (.t 11)
     (.skip)
     (.exit 0))
    (.seq (.blk 1
     (.seq (.reg [⟨some 12, .mv (.t 10), none⟩,
       ⟨some 4, .mv (.t 12), none⟩])
     (.reg [⟨some 13, .mv (.t 3), none⟩,
       ⟨some 14, .mv (.t 4), none⟩,
       ⟨some 15, .mv (.t 0), none⟩,
       ⟨some 16, .mv (.t 4), none⟩,
       ⟨some 17, .idx (.t 15) (.t 16), none⟩,
       ⟨some 18, .call 74 [.t 17], none⟩,
       ⟨some 19, .iad 1 (.t 13) (.t 14), none⟩,
       ⟨none, .store 1 (.t 19) (.t 18), none⟩])))
    (.reg [⟨some 20, .bin .add (.t 10) (.c (.i .i64 1)), none⟩,
      ⟨some 10, .mv (.t 20), none⟩])))))))
  (.seq (.reg [⟨some 21, .mv (.t 3), none⟩,
    ⟨some 22, .cvbs (.t 21), none⟩,
    ⟨some 2, .mv (.t 22), none⟩])
  (.ret))))
theorem is_ascii_Lower : FnIs Tryd.prog 41 23 [.tmp 2] c_ascii_Lower := ⟨⟨_, _, Tryd.func41, rfl, rfl, by kernel_rfl, by kernel_rfl⟩⟩
def c_uri_Split : SCode :=
  .seq (.reg [⟨some 2, .alloc 63 [.s [], .s [], .s [], .s [], .s [], .b false, .b false, .b false, .b false], none⟩,
    ⟨some 3, .mv (.c (.i .i64 0)), none⟩])
  (.seq (.seq (.reg [⟨some 10, .mv (.t 0), none⟩,
    ⟨some 11, .lens (.t 10), none⟩,
    ⟨some 12, .bin .gtr (.t 11) (.c (.i .i64 16384)), none⟩])
  (.cond (.t 12)
   (.seq (.reg [⟨some 13, .build [.s [], .s [], .s [], .s [], .s [], .b false, .b false, .b false, .b false] [], none⟩,
     ⟨none, .store 9 (.t 2) (.t 13), none⟩,
     ⟨some 3, .mv (.c (.i .i64 5)), none⟩])
   (.ret))
   (.skip)))
  (.seq (.reg [⟨some 14, .mv (.t 0), none⟩,
    ⟨some 4, .alloc 9 [.s []], none⟩,
    ⟨none, .store 1 (.t 4) (.t 14), none⟩])
  (.seq (.reg [⟨some 15, .mkf 75 [] [.t 4], none⟩,
    ⟨some 5, .mv (.t 15), none⟩])
  (.seq (.reg [⟨some 6, .alloc 63 [.s [], .s [], .s [], .s [], .s [], .b false, .b false, .b false, .b false], none⟩])
  (.seq (.reg [⟨some 17, .mv (.t 5), none⟩,
    ⟨some 18, .callv (.t 17) [.c (.i .u8 35)], none⟩,
    ⟨some 16, .mv (.t 18), none⟩,
    ⟨some 19, .ext (.t 16) 0, none⟩,
    ⟨some 20, .ext (.t 16) 1, none⟩,
    ⟨some 21, .fad 4 (.t 6), none⟩,
    ⟨none, .store 1 (.t 21) (.t 19), none⟩,
    ⟨some 22, .fad 8 (.t 6), none⟩,
    ⟨none, .store 1 (.t 22) (.t 20), none⟩])
  (.seq (.reg [⟨some 24, .mv (.t 5), none⟩,
    ⟨some 25, .callv (.t 24) [.c (.i .u8 63)], none⟩,
    ⟨some 23, .mv (.t 25), none⟩,
    ⟨some 26, .ext (.t 23) 0, none⟩,
    ⟨some 27, .ext (.t 23) 1, none⟩,
    ⟨some 28, .fad 3 (.t 6), none⟩,
    ⟨none, .store 1 (.t 28) (.t 26), none⟩,
    ⟨some 29, .fad 7 (.t 6), none⟩,
    ⟨none, .store 1 (.t 29) (.t 27), none⟩])
  (.seq (.seq (.reg [⟨some 30, .load1 (.t 4), none⟩,
    ⟨some 31, .call 76 [.t 30], none⟩,
    ⟨some 7, .mv (.t 31), none⟩])
  (.seq (.reg [⟨some 32, .mv (.t 7), none⟩,
    ⟨some 33, .bin .geq (.t 32) (.c (.i .i64 0)), none⟩])
  (.cond (.t 33)
   (.seq (.seq (.reg [⟨some 34, .load1 (.t 4), none⟩,
     ⟨some 35, .mv (.t 7), none⟩,
     ⟨some 36, .slcs (.t 34) none (some (.t 35)), none⟩,
     ⟨some 37, .call 77 [.t 36], none⟩,
     ⟨some 38, .not (.t 37), none⟩])
   (.cond (.t 38)
    (.seq (.reg [⟨some 39, .build [.s [], .s [], .s [], .s [], .s [], .b false, .b false, .b false, .b false] [], none⟩,
      ⟨none, .store 9 (.t 2) (.t 39), none⟩,
      ⟨some 3, .mv (.c (.i .i64 6)), none⟩])
    (.ret))
    (.skip)))
   (.drw [⟨some 40, .load1 (.t 4), none⟩,
     ⟨some 41, .mv (.t 7), none⟩,
     ⟨some 42, .slcs (.t 40) none (some (.t 41)), none⟩,
     ⟨some 43, .load1 (.t 4), none⟩,
     ⟨some 44, .mv (.t 7), none⟩,
     ⟨some 45, .bin .add (.t 44) (.c (.i .i64 1)), none⟩,
     ⟨some 46, .slcs (.t 43) (some (.t 45)) none, none⟩,
     ⟨some 47, .fad 0 (.t 6), none⟩,
     ⟨none, .store 1 (.t 47) (.t 42), none⟩,
     ⟨some 48, .fad 5 (.t 6), none⟩,
     ⟨none, .store 1 (.t 48) (.c (.b true)), none⟩,
     ⟨none, .store 1 (.t 4) (.t 46), none⟩] 12 [(4, 47), (4, 48)]))
   (.skip))))
  (.seq (.seq (.reg [⟨some 50, .load1 (.t 4), none⟩,
    ⟨some 51, .call 50 [.t 50, .c (.s [47, 47])], none⟩,
    ⟨some 49, .mv (.t 51), none⟩,
    ⟨some 52, .ext (.t 49) 0, none⟩,
    ⟨some 53, .ext (.t 49) 1, none⟩,
    ⟨some 8, .mv (.t 52), none⟩,
    ⟨some 9, .mv (.t 53), none⟩])
  (.seq (.reg [⟨some 54, .mv (.t 9), none⟩])
  (.cond (.t 54)
   (.seq (.reg [⟨some 55, .mv (.t 8), none⟩,
     ⟨some 56, .call 78 [.t 55], none⟩,
     ⟨some 57, .fad 1 (.t 6), none⟩,
     ⟨none, .store 1 (.t 57) (.t 56), none⟩,
     ⟨some 58, .fad 6 (.t 6), none⟩,
     ⟨none, .store 1 (.t 58) (.c (.b true)), none⟩])
   (.reg [⟨some 59, .mv (.t 8), none⟩,
     ⟨some 60, .fad 1 (.t 6), none⟩,
     ⟨some 61, .load1 (.t 60), none⟩,
     ⟨some 62, .lens (.t 61), none⟩,
     ⟨some 63, .slcs (.t 59) (some (.t 62)) none, none⟩,
     ⟨none, .store 1 (.t 4) (.t 63), none⟩]))
   (.skip))))
  (.seq (.reg [⟨some 64, .load1 (.t 4), none⟩,
    ⟨some 65, .fad 2 (.t 6), none⟩,
    ⟨none, .store 1 (.t 65) (.t 64), none⟩])
  (.seq (.reg [⟨some 66, .loadn 9 (.t 6), none⟩,
    ⟨none, .store 9 (.t 2) (.t 66), none⟩,
    ⟨some 3, .mv (.c (.i .i64 0)), none⟩])
  (.ret)))))))))))
theorem is_uri_Split : FnIs Tryd.prog 42 67 [.celln 2 9, .tmp 3] c_uri_Split := ⟨⟨_, _, Tryd.func42, rfl, rfl, by kernel_rfl, by kernel_rfl⟩⟩
def c_weburl_parseOrigin : SCode :=
  .seq (.reg [⟨some 1, .box 63 (.t 0), none⟩,
    ⟨some 2, .alloc 23 [.s [], .i .i64 0], none⟩,
    ⟨some 3, .mv (.c (.i .i64 0)), none⟩])
  (.seq (.blk 0
   (.seq (.reg [⟨some 5, .fad 5 (.t 1), none⟩,
     ⟨some 6, .load1 (.t 5), none⟩,
     ⟨some 7, .not (.t 6), none⟩,
     ⟨some 8, .mv (.t 7), none⟩,
     ⟨some 9, .fad 0 (.t 1), some (8, false)⟩,
     ⟨some 10, .load1 (.t 9), some (8, false)⟩,
     ⟨some 11, .call 48 [.t 10, .c (.s [104, 116, 116, 112, 115])], some (8, false)⟩,
     ⟨some 12, .not (.t 11), some (8, false)⟩,
     ⟨some 13, .pick (.t 8) (.c (.b true)) (.t 12), none⟩,
     ⟨some 4, .mv (.t 13), none⟩])
   (.cond (.t 4)
    (.seq (.reg [⟨some 14, .build [.s [], .i .i64 0] [], none⟩,
      ⟨none, .store 2 (.t 2) (.t 14), none⟩,
      ⟨some 3, .mv (.c (.i .i64 60)), none⟩])
    (.ret))
    (.seq (.reg [⟨some 16, .fad 6 (.t 1), none⟩,
      ⟨some 17, .load1 (.t 16), none⟩,
      ⟨some 18, .not (.t 17), none⟩,
      ⟨some 15, .mv (.t 18), none⟩])
    (.cond (.t 15)
     (.seq (.reg [⟨some 19, .build [.s [], .i .i64 0] [], none⟩,
       ⟨none, .store 2 (.t 2) (.t 19), none⟩,
       ⟨some 3, .mv (.c (.i .i64 71)), none⟩])
     (.ret))
     (.seq (.reg [⟨some 21, .fad 1 (.t 1), none⟩,
       ⟨some 22, .load1 (.t 21), none⟩,
       ⟨some 23, .call 79 [.t 22, .c (.s [64])], none⟩,
       ⟨some 20, .mv (.t 23), none⟩])
     (.cond (.t 20)
      (.seq (.reg [⟨some 24, .build [.s [], .i .i64 0] [], none⟩,
        ⟨none, .store 2 (.t 2) (.t 24), none⟩,
        ⟨some 3, .mv (.c (.i .i64 70)), none⟩])
      (.ret))
      (.skip))))))))
  (.seq (.reg [⟨some 25, .fad 1 (.t 1), none⟩,
    ⟨some 26, .load1 (.t 25), none⟩,
    ⟨some 27, .call 11 [.t 26], none⟩,
    ⟨some 28, .ext (.t 27) 0, none⟩,
    ⟨some 29, .ext (.t 27) 1, none⟩,
    ⟨none, .store 2 (.t 2) (.t 28), none⟩,
    ⟨some 3, .mv (.t 29), none⟩])
  (.ret)))
theorem is_weburl_parseOrigin : FnIs Tryd.prog 43 30 [.celln 2 2, .tmp 3] c_weburl_parseOrigin := ⟨⟨_, _, Tryd.func43, rfl, rfl, by kernel_rfl, by kernel_rfl⟩⟩
def c_weburl_parseRest : SCode :=
  .seq (.reg [⟨some 1, .box 63 (.t 0), none⟩,
    ⟨some 2, .alloc 34 [.s [], .i .i64 0, .s [], .s [], .s [], .b false, .b false], none⟩,
    ⟨some 3, .mv (.c (.i .i64 0)), none⟩])
  (.seq (.reg [⟨some 9, .fad 2 (.t 1), none⟩,
    ⟨some 10, .load1 (.t 9), none⟩,
    ⟨some 11, .call 59 [.t 10, .c (.s [33, 36, 38, 39, 40, 41, 42, 43, 44, 59, 61, 58, 64, 47])], none⟩,
    ⟨some 8, .mv (.t 11), none⟩,
    ⟨some 12, .ext (.t 8) 0, none⟩,
    ⟨some 13, .ext (.t 8) 1, none⟩,
    ⟨some 4, .mv (.t 12), none⟩,
    ⟨some 5, .mv (.t 13), none⟩])
  (.seq (.seq (.reg [⟨some 14, .mv (.t 5), none⟩,
    ⟨some 15, .bin .neq (.t 14) (.c (.i .i64 0)), none⟩])
  (.cond (.t 15)
   (.seq (.reg [⟨some 16, .build [.s [], .i .i64 0, .s [], .s [], .s [], .b false, .b false] [], none⟩,
     ⟨some 17, .mv (.t 5), none⟩,
     ⟨none, .store 7 (.t 2) (.t 16), none⟩,
     ⟨some 3, .mv (.t 17), none⟩])
   (.ret))
   (.skip)))
  (.seq (.seq (.reg [⟨some 18, .mv (.t 4), none⟩,
    ⟨some 19, .call 80 [.t 18], none⟩,
    ⟨some 4, .mv (.t 19), none⟩])
  (.seq (.reg [⟨some 20, .mv (.t 4), none⟩,
    ⟨some 21, .bin .eql (.t 20) (.c (.s [])), none⟩])
  (.cond (.t 21)
   (.reg [⟨some 4, .mv (.c (.s [47])), none⟩])
   (.skip))))
  (.seq (.reg [⟨some 23, .fad 3 (.t 1), none⟩,
    ⟨some 24, .load1 (.t 23), none⟩,
    ⟨some 25, .call 59 [.t 24, .c (.s [33, 36, 38, 39, 40, 41, 42, 43, 44, 59, 61, 58, 64, 47, 63])], none⟩,
    ⟨some 22, .mv (.t 25), none⟩,
    ⟨some 26, .ext (.t 22) 0, none⟩,
    ⟨some 27, .ext (.t 22) 1, none⟩,
    ⟨some 6, .mv (.t 26), none⟩,
    ⟨some 5, .mv (.t 27), none⟩])
  (.seq (.seq (.reg [⟨some 28, .mv (.t 5), none⟩,
    ⟨some 29, .bin .neq (.t 28) (.c (.i .i64 0)), none⟩])
  (.cond (.t 29)
   (.seq (.reg [⟨some 30, .build [.s [], .i .i64 0, .s [], .s [], .s [], .b false, .b false] [], none⟩,
     ⟨some 31, .mv (.t 5), none⟩,
     ⟨none, .store 7 (.t 2) (.t 30), none⟩,
     ⟨some 3, .mv (.t 31), none⟩])
   (.ret))
   (.skip)))
  (.seq (.reg [⟨some 33, .fad 4 (.t 1), none⟩,
    ⟨some 34, .load1 (.t 33), none⟩,
    ⟨some 35, .call 59 [.t 34, .c (.s [33, 36, 38, 39, 40, 41, 42, 43, 44, 59, 61, 58, 64, 47, 63])], none⟩,
    ⟨some 32, .mv (.t 35), none⟩,
    ⟨some 36, .ext (.t 32) 0, none⟩,
    ⟨some 37, .ext (.t 32) 1, none⟩,
    ⟨some 7, .mv (.t 36), none⟩,
    ⟨some 5, .mv (.t 37), none⟩])
  (.seq (.seq (.reg [⟨some 38, .mv (.t 5), none⟩,
    ⟨some 39, .bin .neq (.t 38) (.c (.i .i64 0)), none⟩])
  (.cond (.t 39)
   (.seq (.reg [⟨some 40, .build [.s [], .i .i64 0, .s [], .s [], .s [], .b false, .b false] [], none⟩,
     ⟨some 41, .mv (.t 5), none⟩,
     ⟨none, .store 7 (.t 2) (.t 40), none⟩,
     ⟨some 3, .mv (.t 41), none⟩])
   (.ret))
   (.skip)))
  (.seq (.reg [⟨some 42, .mv (.t 4), none⟩,
    ⟨some 43, .mv (.t 6), none⟩,
    ⟨some 44, .fad 7 (.t 1), none⟩,
    ⟨some 45, .load1 (.t 44), none⟩,
    ⟨some 46, .mv (.t 7), none⟩,
    ⟨some 47, .fad 8 (.t 1), none⟩,
    ⟨some 48, .load1 (.t 47), none⟩,
    ⟨some 49, .build [.s [], .i .i64 0, .s [], .s [], .s [], .b false, .b false] [(2, (1, .t 42)), (3, (1, .t 43)), (5, (1, .t 45)), (4, (1, .t 46)), (6, (1, .t 48))], none⟩,
    ⟨none, .store 7 (.t 2) (.t 49), none⟩,
    ⟨some 3, .mv (.c (.i .i64 0)), none⟩])
  (.ret)))))))))
theorem is_weburl_parseRest : FnIs Tryd.prog 44 50 [.celln 2 7, .tmp 3] c_weburl_parseRest := ⟨⟨_, _, Tryd.func44, rfl, rfl, by kernel_rfl, by kernel_rfl⟩⟩
def c_weburl_Origin : SCode :=
  .seq (.reg [⟨some 1, .box 34 (.t 0), none⟩,
    ⟨some 2, .alloc 23 [.s [], .i .i64 0], none⟩])
  (.seq (.reg [⟨some 3, .fad 0 (.t 1), none⟩,
    ⟨some 4, .load1 (.t 3), none⟩,
    ⟨some 5, .fad 1 (.t 1), none⟩,
    ⟨some 6, .load1 (.t 5), none⟩,
    ⟨some 7, .build [.s [], .i .i64 0] [(0, (1, .t 4)), (1, (1, .t 6))], none⟩,
    ⟨none, .store 2 (.t 2) (.t 7), none⟩])
  (.ret))
theorem is_weburl_Origin : FnIs Tryd.prog 45 8 [.celln 2 2] c_weburl_Origin := ⟨⟨_, _, Tryd.func45, rfl, rfl, by kernel_rfl, by kernel_rfl⟩⟩
def c_weburl_Target : SCode :=
  .seq (.reg [⟨some 1, .box 34 (.t 0), none⟩,
    ⟨some 2, .mv (.c (.s [])), none⟩])
  (.seq (.seq (.reg [⟨some 3, .fad 5 (.t 1), none⟩,
    ⟨some 4, .load1 (.t 3), none⟩,
    ⟨some 5, .not (.t 4), none⟩])
  (.cond (.t 5)
   (.seq (.reg [⟨some 6, .fad 2 (.t 1), none⟩,
     ⟨some 7, .load1 (.t 6), none⟩,
     ⟨some 2, .mv (.t 7), none⟩])
   (.ret))
   (.skip)))
  (.seq (.reg [⟨some 8, .fad 2 (.t 1), none⟩,
    ⟨some 9, .load1 (.t 8), none⟩,
    ⟨some 10, .bin .add (.t 9) (.c (.s [63])), none⟩,
    ⟨some 11, .fad 3 (.t 1), none⟩,
    ⟨some 12, .load1 (.t 11), none⟩,
    ⟨some 13, .bin .add (.t 10) (.t 12), none⟩,
    ⟨some 2, .mv (.t 13), none⟩])
  (.ret)))
theorem is_weburl_Target : FnIs Tryd.prog 46 14 [.tmp 2] c_weburl_Target := ⟨⟨_, _, Tryd.func46, rfl, rfl, by kernel_rfl, by kernel_rfl⟩⟩
def c_uri_Resolve : SCode :=
  .seq (.reg [⟨some 2, .box 63 (.t 0), none⟩,
    ⟨some 3, .box 63 (.t 1), none⟩,
    ⟨some 4, .alloc 63 [.s [], .s [], .s [], .s [], .s [], .b false, .b false, .b false, .b false], none⟩])
  (.seq (.reg [⟨some 6, .loadn 9 (.t 3), none⟩,
    ⟨some 5, .alloc 63 [.s [], .s [], .s [], .s [], .s [], .b false, .b false, .b false, .b false], none⟩,
    ⟨none, .store 9 (.t 5) (.t 6), none⟩])
  (.seq (.seq (.reg [⟨some 7, .fad 5 (.t 3), none⟩,
    ⟨some 8, .load1 (.t 7), none⟩])
  (.cond (.t 8)
   (.seq (.reg [⟨some 9, .fad 2 (.t 3), none⟩,
     ⟨some 10, .load1 (.t 9), none⟩,
     ⟨some 11, .call 80 [.t 10], none⟩,
     ⟨some 12, .fad 2 (.t 5), none⟩,
     ⟨none, .store 1 (.t 12) (.t 11), none⟩])
   (.seq (.reg [⟨some 13, .loadn 9 (.t 5), none⟩,
     ⟨none, .store 9 (.t 4) (.t 13), none⟩])
   (.ret)))
   (.skip)))
  (.seq (.drw [⟨some 14, .fad 0 (.t 2), none⟩,
    ⟨some 15, .load1 (.t 14), none⟩,
    ⟨some 16, .fad 5 (.t 2), none⟩,
    ⟨some 17, .load1 (.t 16), none⟩,
    ⟨some 18, .fad 0 (.t 5), none⟩,
    ⟨none, .store 1 (.t 18) (.t 15), none⟩,
    ⟨some 19, .fad 5 (.t 5), none⟩,
    ⟨none, .store 1 (.t 19) (.t 17), none⟩] 8 [(16, 18)])
  (.seq (.seq (.reg [⟨some 20, .fad 6 (.t 3), none⟩,
    ⟨some 21, .load1 (.t 20), none⟩])
  (.cond (.t 21)
   (.seq (.reg [⟨some 22, .fad 2 (.t 3), none⟩,
     ⟨some 23, .load1 (.t 22), none⟩,
     ⟨some 24, .call 80 [.t 23], none⟩,
     ⟨some 25, .fad 2 (.t 5), none⟩,
     ⟨none, .store 1 (.t 25) (.t 24), none⟩])
   (.seq (.reg [⟨some 26, .loadn 9 (.t 5), none⟩,
     ⟨none, .store 9 (.t 4) (.t 26), none⟩])
   (.ret)))
   (.skip)))
  (.seq (.drw [⟨some 27, .fad 1 (.t 2), none⟩,
    ⟨some 28, .load1 (.t 27), none⟩,
    ⟨some 29, .fad 6 (.t 2), none⟩,
    ⟨some 30, .load1 (.t 29), none⟩,
    ⟨some 31, .fad 1 (.t 5), none⟩,
    ⟨none, .store 1 (.t 31) (.t 28), none⟩,
    ⟨some 32, .fad 6 (.t 5), none⟩,
    ⟨none, .store 1 (.t 32) (.t 30), none⟩] 8 [(29, 31)])
  (.seq (.blk 0
   (.seq (.reg [⟨some 40, .fad 2 (.t 3), none⟩,
     ⟨some 41, .load1 (.t 40), none⟩,
     ⟨some 42, .bin .eql (.t 41) (.c (.s [])), none⟩,
     ⟨some 39, .mv (.t 42), none⟩])
   (.cond (.t 39)
    (.seq (.reg [⟨some 43, .fad 2 (.t 2), none⟩,
      ⟨some 44, .load1 (.t 43), none⟩,
      ⟨some 45, .fad 2 (.t 5), none⟩,
      ⟨none, .store 1 (.t 45) (.t 44), none⟩])
    (.seq (.reg [⟨some 46, .fad 7 (.t 3), none⟩,
      ⟨some 47, .load1 (.t 46), none⟩,
      ⟨some 48, .not (.t 47), none⟩])
    (.cond (.t 48)
     (.drw [⟨some 49, .fad 3 (.t 2), none⟩,
       ⟨some 50, .load1 (.t 49), none⟩,
       ⟨some 51, .fad 7 (.t 2), none⟩,
       ⟨some 52, .load1 (.t 51), none⟩,
       ⟨some 53, .fad 3 (.t 5), none⟩,
       ⟨none, .store 1 (.t 53) (.t 50), none⟩,
       ⟨some 54, .fad 7 (.t 5), none⟩,
       ⟨none, .store 1 (.t 54) (.t 52), none⟩] 8 [(51, 53)])
     (.skip))))
    (.seq (.reg [⟨some 56, .fad 2 (.t 3), none⟩,
      ⟨some 57, .load1 (.t 56), none⟩,
      ⟨some 58, .idx (.t 57) (.c (.i .i64 0)), none⟩,
      ⟨some 59, .bin .eql (.t 58) (.c (.i .u8 47)), none⟩,
      ⟨some 55, .mv (.t 59), none⟩])
    (.cond (.t 55)
     (.reg [⟨some 60, .fad 2 (.t 3), none⟩,
       ⟨some 61, .load1 (.t 60), none⟩,
       ⟨some 62, .call 80 [.t 61], none⟩,
       ⟨some 63, .fad 2 (.t 5), none⟩,
       ⟨none, .store 1 (.t 63) (.t 62), none⟩])
     (.reg [⟨some 33, .loadn 9 (.t 2), none⟩,
       ⟨some 34, .fad 2 (.t 3), none⟩,
       ⟨some 35, .load1 (.t 34), none⟩,
       ⟨some 36, .call 81 [.t 33, .t 35], none⟩,
       ⟨some 37, .call 80 [.t 36], none⟩,
       ⟨some 38, .fad 2 (.t 5), none⟩,
       ⟨none, .store 1 (.t 38) (.t 37), none⟩]))))))
  (.seq (.reg [⟨some 64, .loadn 9 (.t 5), none⟩,
    ⟨none, .store 9 (.t 4) (.t 64), none⟩])
  (.ret))))))))
theorem is_uri_Resolve : FnIs Tryd.prog 47 65 [.celln 4 9] c_uri_Resolve := ⟨⟨_, _, Tryd.func47, rfl, rfl, by kernel_rfl, by kernel_rfl⟩⟩
def c_ascii_Equal : SCode :=
  .seq (.reg [⟨some 4, .mv (.c (.b false)), none⟩])
  (.seq (.seq (.reg [⟨some 6, .mv (.t 0), none⟩,
    ⟨some 7, .lens (.t 6), none⟩,
    ⟨some 8, .mv (.t 1), none⟩,
    ⟨some 9, .lens (.t 8), none⟩,
    ⟨some 10, .bin .neq (.t 7) (.t 9), none⟩])
  (.cond (.t 10)
   (.seq (.reg [⟨some 4, .mv (.c (.b false)), none⟩])
   (.ret))
   (.skip)))
  (.seq (.seq (.reg [⟨some 11, .mv (.t 0), none⟩,
    ⟨some 12, .lens (.t 11), none⟩,
    ⟨some 13, .mv (.c (.i .i64 0)), none⟩])
  (.blk 0
   (.loop
    (.seq (.reg [⟨some 14, .bin .lss (.t 13) (.t 12), none⟩])
    (.seq (.cond (.t 14)
     (.skip)
     (.exit 0))
    (.seq (.blk 1
     (.seq (.reg [⟨some 15, .mv (.t 13), none⟩,
       ⟨some 5, .mv (.t 15), none⟩])
     (.seq (.drw [⟨some 16, .mv (.t 0), none⟩,
       ⟨some 17, .mv (.t 5), none⟩,
       ⟨some 18, .idx (.t 16) (.t 17), none⟩,
       ⟨some 19, .call 74 [.t 18], none⟩,
       ⟨some 20, .mv (.t 1), none⟩,
       ⟨some 21, .mv (.t 5), none⟩,
       ⟨some 22, .idx (.t 20) (.t 21), none⟩,
       ⟨some 23, .call 74 [.t 22], none⟩,
       ⟨some 24, .bin .neq (.t 19) (.t 23), none⟩] 9 [])
     (.cond (.t 24)
      (.seq (.reg [⟨some 4, .mv (.c (.b false)), none⟩])
      (.ret))
      (.skip)))))
    (.reg [⟨some 25, .bin .add (.t 13) (.c (.i .i64 1)), none⟩,
      ⟨some 13, .mv (.t 25), none⟩])))))))
  (.seq (.reg [⟨some 4, .mv (.c (.b true)), none⟩])
  (.ret))))
theorem is_ascii_Equal : FnIs Tryd.prog 48 26 [.tmp 4] c_ascii_Equal := ⟨⟨_, _, Tryd.func48, rfl, rfl, by kernel_rfl, by kernel_rfl⟩⟩
def c_uri_Join : SCode :=
  .seq (.reg [⟨some 1, .box 63 (.t 0), none⟩,
    ⟨some 2, .mv (.c (.s [])), none⟩])
  (.seq (.drw [⟨some 3, .fad 5 (.t 1), none⟩,
    ⟨some 4, .load1 (.t 3), none⟩,
    ⟨some 5, .fad 0 (.t 1), none⟩,
    ⟨some 6, .load1 (.t 5), none⟩,
    ⟨some 7, .bslice 2 [.s [], .s []] [(0, (1, .t 6)), (1, (1, .c (.s [58])))], none⟩,
    ⟨some 8, .call 83 [.t 4, .t 7], none⟩,
    ⟨some 9, .fad 6 (.t 1), none⟩,
    ⟨some 10, .load1 (.t 9), none⟩,
    ⟨some 11, .fad 1 (.t 1), none⟩,
    ⟨some 12, .load1 (.t 11), none⟩,
    ⟨some 13, .bslice 2 [.s [], .s []] [(0, (1, .c (.s [47, 47]))), (1, (1, .t 12))], none⟩,
    ⟨some 14, .call 83 [.t 10, .t 13], none⟩,
    ⟨some 15, .fad 2 (.t 1), none⟩,
    ⟨some 16, .load1 (.t 15), none⟩,
    ⟨some 17, .fad 7 (.t 1), none⟩,
    ⟨some 18, .load1 (.t 17), none⟩,
    ⟨some 19, .fad 3 (.t 1), none⟩,
    ⟨some 20, .load1 (.t 19), none⟩,
    ⟨some 21, .bslice 2 [.s [], .s []] [(0, (1, .c (.s [63]))), (1, (1, .t 20))], none⟩,
    ⟨some 22, .call 83 [.t 18, .t 21], none⟩,
    ⟨some 23, .fad 8 (.t 1), none⟩,
    ⟨some 24, .load1 (.t 23), none⟩,
    ⟨some 25, .fad 4 (.t 1), none⟩,
    ⟨some 26, .load1 (.t 25), none⟩,
    ⟨some 27, .bslice 2 [.s [], .s []] [(0, (1, .c (.s [35]))), (1, (1, .t 26))], none⟩,
    ⟨some 28, .call 83 [.t 24, .t 27], none⟩,
    ⟨some 29, .bslice 5 [.s [], .s [], .s [], .s [], .s []] [(0, (1, .t 8)), (1, (1, .t 14)), (2, (1, .t 16)), (3, (1, .t 22)), (4, (1, .t 28))], none⟩,
    ⟨some 30, .call 82 [.t 29], none⟩,
    ⟨some 2, .mv (.t 30), none⟩] 29 [])
  (.ret))
theorem is_uri_Join : FnIs Tryd.prog 49 31 [.tmp 2] c_uri_Join := ⟨⟨_, _, Tryd.func49, rfl, rfl, by kernel_rfl, by kernel_rfl⟩⟩
def c_did_isMethod : SCode :=
  .seq (.reg [⟨some 2, .mv (.c (.b false)), none⟩])
  (.seq (.seq (.reg [⟨some 4, .mv (.t 0), none⟩,
    ⟨some 5, .lens (.t 4), none⟩,
    ⟨some 6, .mv (.c (.i .i64 0)), none⟩])
  (.blk 0
   (.loop
    (.seq (.reg [⟨some 7, .bin .lss (.t 6) (.t 5), none⟩])
    (.seq (.cond (.t 7)
     (.skip)
     (.exit 0))
    (.seq (.blk 1
     (.seq (.reg [⟨some 8, .mv (.t 6), none⟩,
       ⟨some 3, .mv (.t 8), none⟩])
     (.seq (.reg [⟨some 9, .mv (.t 0), none⟩,
       ⟨some 10, .mv (.t 3), none⟩,
       ⟨some 11, .idx (.t 9) (.t 10), none⟩,
       ⟨some 12, .call 85 [.t 11], none⟩,
       ⟨some 13, .not (.t 12), none⟩,
       ⟨some 14, .mv (.t 13), none⟩,
       ⟨some 15, .mv (.t 0), some (14, true)⟩,
       ⟨some 16, .mv (.t 3), some (14, true)⟩,
       ⟨some 17, .idx (.t 15) (.t 16), some (14, true)⟩,
       ⟨some 18, .bin .lss (.t 17) (.c (.i .u8 97)), some (14, true)⟩,
       ⟨some 19, .mv (.t 18), some (14, true)⟩,
       ⟨some 20, .mv (.t 0), some (19, false)⟩,
       ⟨some 21, .mv (.t 3), some (19, false)⟩,
       ⟨some 22, .idx (.t 20) (.t 21), some (19, false)⟩,
       ⟨some 23, .bin .gtr (.t 22) (.c (.i .u8 122)), some (19, false)⟩,
       ⟨some 24, .pick (.t 19) (.c (.b true)) (.t 23), some (14, true)⟩,
       ⟨some 25, .pick (.t 14) (.t 24) (.c (.b false)), none⟩])
     (.cond (.t 25)
      (.seq (.reg [⟨some 2, .mv (.c (.b false)), none⟩])
      (.ret))
      (.skip)))))
    (.reg [⟨some 26, .bin .add (.t 6) (.c (.i .i64 1)), none⟩,
      ⟨some 6, .mv (.t 26), none⟩])))))))
  (.seq (.reg [⟨some 27, .mv (.t 0), none⟩,
    ⟨some 28, .bin .neq (.t 27) (.c (.s [])), none⟩,
    ⟨some 2, .mv (.t 28), none⟩])
  (.ret)))
theorem is_did_isMethod : FnIs Tryd.prog 51 29 [.tmp 2] c_did_isMethod := ⟨⟨_, _, Tryd.func51, rfl, rfl, by kernel_rfl, by kernel_rfl⟩⟩
def c_did_parseID : SCode :=
  .seq (.reg [⟨some 2, .mv (.c (.s [])), none⟩,
    ⟨some 3, .mv (.c (.i .i64 0)), none⟩])
  (.seq (.seq (.reg [⟨some 10, .mv (.t 0), none⟩,
    ⟨some 11, .call 86 [.t 10], none⟩,
    ⟨some 9, .mv (.t 11), none⟩,
    ⟨some 12, .ext (.t 9) 0, none⟩,
    ⟨some 13, .ext (.t 9) 1, none⟩,
    ⟨some 4, .mv (.t 12), none⟩,
    ⟨some 5, .mv (.t 13), none⟩])
  (.seq (.reg [⟨some 14, .mv (.t 5), none⟩,
    ⟨some 15, .bin .neq (.t 14) (.c (.i .i64 0)), none⟩])
  (.cond (.t 15)
   (.seq (.reg [⟨some 16, .mv (.t 5), none⟩,
     ⟨some 2, .mv (.c (.s [])), none⟩,
     ⟨some 3, .mv (.t 16), none⟩])
   (.ret))
   (.skip))))
  (.seq (.seq (.reg [⟨some 17, .mv (.t 0), none⟩,
    ⟨some 18, .lens (.t 17), none⟩,
    ⟨some 19, .mv (.c (.i .i64 0)), none⟩])
  (.blk 0
   (.loop
    (.seq (.reg [⟨some 20, .bin .lss (.t 19) (.t 18), none⟩])
    (.seq (.cond (.t 20)
     (.skip)
     (.exit 0))
    (.seq (.blk 1
     (.seq (.reg [⟨some 21, .mv (.t 19), none⟩,
       ⟨some 6, .mv (.t 21), none⟩])
     (.seq (.reg [⟨some 22, .mv (.t 0), none⟩,
       ⟨some 23, .mv (.t 6), none⟩,
       ⟨some 24, .idx (.t 22) (.t 23), none⟩,
       ⟨some 25, .bin .neq (.t 24) (.c (.i .u8 37)), none⟩,
       ⟨some 26, .mv (.t 25), none⟩,
       ⟨some 27, .mv (.t 0), some (26, true)⟩,
       ⟨some 28, .mv (.t 6), some (26, true)⟩,
       ⟨some 29, .idx (.t 27) (.t 28), some (26, true)⟩,
       ⟨some 30, .call 87 [.t 29], some (26, true)⟩,
       ⟨some 31, .not (.t 30), some (26, true)⟩,
       ⟨some 32, .pick (.t 26) (.t 31) (.c (.b false)), none⟩])
     (.cond (.t 32)
      (.seq (.reg [⟨some 2, .mv (.c (.s [])), none⟩,
        ⟨some 3, .mv (.c (.i .i64 1)), none⟩])
      (.ret))
      (.skip)))))
    (.reg [⟨some 33, .bin .add (.t 19) (.c (.i .i64 1)), none⟩,
      ⟨some 19, .mv (.t 33), none⟩])))))))
  (.seq (.seq (.reg [⟨some 34, .mv (.t 0), none⟩,
    ⟨some 35, .bin .eql (.t 34) (.c (.s [])), none⟩,
    ⟨some 36, .mv (.t 35), none⟩,
    ⟨some 37, .mv (.t 0), some (36, false)⟩,
    ⟨some 38, .mv (.t 0), some (36, false)⟩,
    ⟨some 39, .lens (.t 38), some (36, false)⟩,
    ⟨some 40, .bin .sub (.t 39) (.c (.i .i64 1)), some (36, false)⟩,
    ⟨some 41, .idx (.t 37) (.t 40), some (36, false)⟩,
    ⟨some 42, .bin .eql (.t 41) (.c (.i .u8 58)), some (36, false)⟩,
    ⟨some 43, .pick (.t 36) (.c (.b true)) (.t 42), none⟩])
  (.cond (.t 43)
   (.seq (.reg [⟨some 2, .mv (.c (.s [])), none⟩,
     ⟨some 3, .mv (.c (.i .i64 3)), none⟩])
   (.ret))
   (.skip)))
  (.seq (.reg [⟨some 45, .mv (.t 0), none⟩,
    ⟨some 46, .call 59 [.t 45, .c (.s [46, 45, 95, 58])], none⟩,
    ⟨some 44, .mv (.t 46), none⟩,
    ⟨some 47, .ext (.t 44) 0, none⟩,
    ⟨some 48, .ext (.t 44) 1, none⟩,
    ⟨some 7, .mv (.t 47), none⟩,
    ⟨some 8, .mv (.t 48), none⟩])
  (.seq (.seq (.reg [⟨some 49, .mv (.t 8), none⟩,
    ⟨some 50, .bin .neq (.t 49) (.c (.i .i64 0)), none⟩])
  (.cond (.t 50)
   (.seq (.reg [⟨some 51, .mv (.t 8), none⟩,
     ⟨some 2, .mv (.c (.s [])), none⟩,
     ⟨some 3, .mv (.t 51), none⟩])
   (.ret))
   (.skip)))
  (.seq (.reg [⟨some 52, .mv (.t 7), none⟩,
    ⟨some 53, .call 88 [.t 52, .c (.s [126]), .c (.s [37, 55, 69])], none⟩,
    ⟨some 2, .mv (.t 53), none⟩,
    ⟨some 3, .mv (.c (.i .i64 0)), none⟩])
  (.ret)))))))
theorem is_did_parseID : FnIs Tryd.prog 52 54 [.tmp 2, .tmp 3] c_did_parseID := ⟨⟨_, _, Tryd.func52, rfl, rfl, by kernel_rfl, by kernel_rfl⟩⟩
def c_ref01_Prefix : SCode :=
  .seq (.reg [⟨some 4, .mv (.c (.b false)), none⟩])
  (.seq (.reg [⟨some 5, .mv (.t 0), none⟩,
    ⟨some 6, .lens (.t 5), none⟩,
    ⟨some 7, .mv (.t 1), none⟩,
    ⟨some 8, .lens (.t 7), none⟩,
    ⟨some 9, .bin .geq (.t 6) (.t 8), none⟩,
    ⟨some 10, .mv (.t 9), none⟩,
    ⟨some 11, .mv (.t 0), some (10, true)⟩,
    ⟨some 12, .mv (.t 1), some (10, true)⟩,
    ⟨some 13, .lens (.t 12), some (10, true)⟩,
    ⟨some 14, .slcs (.t 11) none (some (.t 13)), some (10, true)⟩,
    ⟨some 15, .mv (.t 1), some (10, true)⟩,
    ⟨some 16, .bin .eql (.t 14) (.t 15), some (10, true)⟩,
    ⟨some 17, .pick (.t 10) (.t 16) (.c (.b false)), none⟩,
    ⟨some 4, .mv (.t 17), none⟩])
  (.ret))
theorem is_ref01_Prefix : FnIs Tryd.prog 53 18 [.tmp 4] c_ref01_Prefix := ⟨⟨_, _, Tryd.func53, rfl, rfl, by kernel_rfl, by kernel_rfl⟩⟩
def c_ref10_method : SCode :=
  .seq (.reg [⟨some 2, .mv (.c (.b false)), none⟩])
  (.seq (.seq (.reg [⟨some 3, .mv (.c (.i .i64 0)), none⟩])
  (.blk 0
   (.loop
    (.seq (.seq (.reg [⟨some 4, .mv (.t 3), none⟩,
      ⟨some 5, .mv (.t 0), none⟩,
      ⟨some 6, .lens (.t 5), none⟩,
      ⟨some 7, .bin .lss (.t 4) (.t 6), none⟩])
    (.cond (.t 7)
     (.skip)
     (.exit 0)))
    (.seq (.blk 1
     (.seq (.reg [⟨some 10, .mv (.t 0), none⟩,
       ⟨some 11, .mv (.t 3), none⟩,
       ⟨some 12, .idx (.t 10) (.t 11), none⟩,
       ⟨some 13, .call 89 [.t 12], none⟩,
       ⟨some 14, .not (.t 13), none⟩,
       ⟨some 15, .mv (.t 14), none⟩,
       ⟨some 16, .mv (.t 0), some (15, true)⟩,
       ⟨some 17, .mv (.t 3), some (15, true)⟩,
       ⟨some 18, .idx (.t 16) (.t 17), some (15, true)⟩,
       ⟨some 19, .bin .lss (.t 18) (.c (.i .u8 97)), some (15, true)⟩,
       ⟨some 20, .mv (.t 19), some (15, true)⟩,
       ⟨some 21, .mv (.t 0), some (20, false)⟩,
       ⟨some 22, .mv (.t 3), some (20, false)⟩,
       ⟨some 23, .idx (.t 21) (.t 22), some (20, false)⟩,
       ⟨some 24, .bin .gtr (.t 23) (.c (.i .u8 122)), some (20, false)⟩,
       ⟨some 25, .pick (.t 20) (.c (.b true)) (.t 24), some (15, true)⟩,
       ⟨some 26, .pick (.t 15) (.t 25) (.c (.b false)), none⟩])
     (.cond (.t 26)
      (.seq (.reg [⟨some 2, .mv (.c (.b false)), none⟩])
      (.ret))
      (.skip))))
    (.reg [⟨some 8, .mv (.t 3), none⟩,
      ⟨some 9, .bin .add (.t 8) (.c (.i .i64 1)), none⟩,
      ⟨some 3, .mv (.t 9), none⟩]))))))
  (.seq (.reg [⟨some 27, .mv (.t 0), none⟩,
    ⟨some 28, .bin .neq (.t 27) (.c (.s [])), none⟩,
    ⟨some 2, .mv (.t 28), none⟩])
  (.ret)))
theorem is_ref10_method : FnIs Tryd.prog 54 29 [.tmp 2] c_ref10_method := ⟨⟨_, _, Tryd.func54, rfl, rfl, by kernel_rfl, by kernel_rfl⟩⟩
def c_ref01_Split : SCode :=
  .seq (.reg [⟨some 4, .mv (.c .nil), none⟩])
  (.seq (.reg [⟨some 5, .mv (.c .nil), none⟩])
  (.seq (.reg [⟨some 6, .mv (.c (.i .i64 0)), none⟩])
  (.seq (.seq (.reg [⟨some 7, .mv (.c (.i .i64 0)), none⟩])
  (.blk 0
   (.loop
    (.seq (.seq (.reg [⟨some 8, .mv (.t 7), none⟩,
      ⟨some 9, .mv (.t 0), none⟩,
      ⟨some 10, .lens (.t 9), none⟩,
      ⟨some 11, .bin .lss (.t 8) (.t 10), none⟩])
    (.cond (.t 11)
     (.skip)
     (.exit 0)))
    (.seq (.blk 1
     (.seq (.reg [⟨some 14, .mv (.t 0), none⟩,
       ⟨some 15, .mv (.t 7), none⟩,
       ⟨some 16, .idx (.t 14) (.t 15), none⟩,
       ⟨some 17, .mv (.t 1), none⟩,
       ⟨some 18, .bin .eql (.t 16) (.t 17), none⟩])
     (.cond (.t 18)
      (.reg [⟨some 19, .mv (.t 5), none⟩,
        ⟨some 20, .mv (.t 0), none⟩,
        ⟨some 21, .mv (.t 6), none⟩,
        ⟨some 22, .mv (.t 7), none⟩,
        ⟨some 23, .slcs (.t 20) (some (.t 21)) (some (.t 22)), none⟩,
        ⟨some 24, .bslice 1 [.s []] [(0, (1, .t 23))], none⟩,
        ⟨some 25, .app 9 1 16 (.t 19) (.t 24), none⟩,
        ⟨some 26, .mv (.t 7), none⟩,
        ⟨some 27, .bin .add (.t 26) (.c (.i .i64 1)), none⟩,
        ⟨some 5, .mv (.t 25), none⟩,
        ⟨some 6, .mv (.t 27), none⟩])
      (.skip))))
    (.reg [⟨some 12, .mv (.t 7), none⟩,
      ⟨some 13, .bin .add (.t 12) (.c (.i .i64 1)), none⟩,
      ⟨some 7, .mv (.t 13), none⟩]))))))
  (.seq (.reg [⟨some 28, .mv (.t 5), none⟩,
    ⟨some 29, .mv (.t 0), none⟩,
    ⟨some 30, .mv (.t 6), none⟩,
    ⟨some 31, .slcs (.t 29) (some (.t 30)) none, none⟩,
    ⟨some 32, .bslice 1 [.s []] [(0, (1, .t 31))], none⟩,
    ⟨some 33, .app 9 1 16 (.t 28) (.t 32), none⟩,
    ⟨some 4, .mv (.t 33), none⟩])
  (.ret)))))
theorem is_ref01_Split : FnIs Tryd.prog 55 34 [.tmp 4] c_ref01_Split := ⟨⟨_, _, Tryd.func55, rfl, rfl, by kernel_rfl, by kernel_rfl⟩⟩
def c_ref03_Decode : SCode :=
  .seq (.reg [⟨some 2, .mv (.c (.s [])), none⟩,
    ⟨some 3, .mv (.c (.i .i64 0)), none⟩])
  (.seq (.seq (.reg [⟨some 9, .mv (.t 0), none⟩,
    ⟨some 10, .lens (.t 9), none⟩,
    ⟨some 11, .bin .gtr (.t 10) (.c (.i .i64 16384)), none⟩])
  (.cond (.t 11)
   (.seq (.reg [⟨some 2, .mv (.c (.s [])), none⟩,
     ⟨some 3, .mv (.c (.i .i64 5)), none⟩])
   (.ret))
   (.skip)))
  (.seq (.reg [⟨some 4, .mv (.c .nil), none⟩])
  (.seq (.seq (.reg [⟨some 5, .mv (.c (.i .i64 0)), none⟩])
  (.blk 0
   (.loop
    (.seq (.seq (.reg [⟨some 12, .mv (.t 5), none⟩,
      ⟨some 13, .mv (.t 0), none⟩,
      ⟨some 14, .lens (.t 13), none⟩,
      ⟨some 15, .bin .lss (.t 12) (.t 14), none⟩])
    (.cond (.t 15)
     (.skip)
     (.exit 0)))
    (.seq (.blk 1
     (.seq (.reg [⟨some 18, .mv (.t 0), none⟩,
       ⟨some 19, .mv (.t 5), none⟩,
       ⟨some 20, .idx (.t 18) (.t 19), none⟩,
       ⟨some 6, .mv (.t 20), none⟩])
     (.seq (.seq (.reg [⟨some 21, .mv (.t 6), none⟩,
       ⟨some 22, .bin .eql (.t 21) (.c (.i .u8 37)), none⟩])
     (.cond (.t 22)
      (.seq (.reg [⟨some 24, .mv (.t 0), none⟩,
        ⟨some 25, .mv (.t 5), none⟩,
        ⟨some 26, .call 90 [.t 24, .t 25], none⟩,
        ⟨some 23, .mv (.t 26), none⟩,
        ⟨some 27, .ext (.t 23) 0, none⟩,
        ⟨some 28, .ext (.t 23) 1, none⟩,
        ⟨some 7, .mv (.t 27), none⟩,
        ⟨some 8, .mv (.t 28), none⟩])
      (.seq (.seq (.reg [⟨some 29, .mv (.t 8), none⟩,
        ⟨some 30, .not (.t 29), none⟩])
      (.cond (.t 30)
       (.seq (.reg [⟨some 2, .mv (.c (.s [])), none⟩,
         ⟨some 3, .mv (.c (.i .i64 2)), none⟩])
       (.ret))
       (.skip)))
      (.reg [⟨some 31, .mv (.t 7), none⟩,
        ⟨some 32, .mv (.t 5), none⟩,
        ⟨some 33, .bin .add (.t 32) (.c (.i .i64 2)), none⟩,
        ⟨some 6, .mv (.t 31), none⟩,
        ⟨some 5, .mv (.t 33), none⟩])))
      (.skip)))
     (.reg [⟨some 34, .mv (.t 4), none⟩,
       ⟨some 35, .mv (.t 6), none⟩,
       ⟨some 36, .bslice 1 [.i .u8 0] [(0, (1, .t 35))], none⟩,
       ⟨some 37, .app 5 1 1 (.t 34) (.t 36), none⟩,
       ⟨some 4, .mv (.t 37), none⟩]))))
    (.reg [⟨some 16, .mv (.t 5), none⟩,
      ⟨some 17, .bin .add (.t 16) (.c (.i .i64 1)), none⟩,
      ⟨some 5, .mv (.t 17), none⟩]))))))
  (.seq (.reg [⟨some 38, .mv (.t 4), none⟩,
    ⟨some 39, .cvbs (.t 38), none⟩,
    ⟨some 2, .mv (.t 39), none⟩,
    ⟨some 3, .mv (.c (.i .i64 0)), none⟩])
  (.ret)))))
theorem is_ref03_Decode : FnIs Tryd.prog 56 40 [.tmp 2, .tmp 3] c_ref03_Decode := ⟨⟨_, _, Tryd.func56, rfl, rfl, by kernel_rfl, by kernel_rfl⟩⟩
def c_ref10_plain : SCode :=
  .seq (.reg [⟨some 2, .mv (.c (.b false)), none⟩])
  (.seq (.reg [⟨some 3, .mv (.t 0), none⟩,
    ⟨some 4, .call 91 [.t 3], none⟩,
    ⟨some 5, .mv (.t 4), none⟩,
    ⟨some 6, .mv (.t 0), some (5, false)⟩,
    ⟨some 7, .call 89 [.t 6], some (5, false)⟩,
    ⟨some 8, .pick (.t 5) (.c (.b true)) (.t 7), none⟩,
    ⟨some 9, .mv (.t 8), none⟩,
    ⟨some 10, .mv (.t 0), some (9, false)⟩,
    ⟨some 11, .call 63 [.t 10, .c (.s [46, 45, 95])], some (9, false)⟩,
    ⟨some 12, .pick (.t 9) (.c (.b true)) (.t 11), none⟩,
    ⟨some 2, .mv (.t 12), none⟩])
  (.ret))
theorem is_ref10_plain : FnIs Tryd.prog 57 13 [.tmp 2] c_ref10_plain := ⟨⟨_, _, Tryd.func57, rfl, rfl, by kernel_rfl, by kernel_rfl⟩⟩
def c_ref10_Escaped : SCode :=
  .seq (.reg [⟨some 2, .mv (.c (.s [])), none⟩])
  (.seq (.reg [⟨some 3, .mv (.c (.s [])), none⟩])
  (.seq (.seq (.reg [⟨some 4, .mv (.c (.i .i64 0)), none⟩])
  (.blk 0
   (.loop
    (.seq (.seq (.reg [⟨some 5, .mv (.t 4), none⟩,
      ⟨some 6, .mv (.t 0), none⟩,
      ⟨some 7, .lens (.t 6), none⟩,
      ⟨some 8, .bin .lss (.t 5) (.t 7), none⟩])
    (.cond (.t 8)
     (.skip)
     (.exit 0)))
    (.seq (.blk 1
     (.seq (.reg [⟨some 11, .mv (.t 0), none⟩,
       ⟨some 12, .mv (.t 4), none⟩,
       ⟨some 13, .idx (.t 11) (.t 12), none⟩,
       ⟨some 14, .call 57 [.t 13], none⟩])
     (.cond (.t 14)
      (.reg [⟨some 15, .mv (.t 3), none⟩,
        ⟨some 16, .mv (.t 0), none⟩,
        ⟨some 17, .mv (.t 4), none⟩,
        ⟨some 18, .mv (.t 4), none⟩,
        ⟨some 19, .bin .add (.t 18) (.c (.i .i64 1)), none⟩,
        ⟨some 20, .slcs (.t 16) (some (.t 17)) (some (.t 19)), none⟩,
        ⟨some 21, .bin .add (.t 15) (.t 20), none⟩,
        ⟨some 3, .mv (.t 21), none⟩])
      (.reg [⟨some 22, .mv (.t 3), none⟩,
        ⟨some 23, .mv (.t 0), none⟩,
        ⟨some 24, .mv (.t 4), none⟩,
        ⟨some 25, .idx (.t 23) (.t 24), none⟩,
        ⟨some 26, .call 92 [.t 25], none⟩,
        ⟨some 27, .bin .add (.t 22) (.t 26), none⟩,
        ⟨some 3, .mv (.t 27), none⟩]))))
    (.reg [⟨some 9, .mv (.t 4), none⟩,
      ⟨some 10, .bin .add (.t 9) (.c (.i .i64 1)), none⟩,
      ⟨some 4, .mv (.t 10), none⟩]))))))
  (.seq (.reg [⟨some 28, .mv (.t 3), none⟩,
    ⟨some 2, .mv (.t 28), none⟩])
  (.ret))))
theorem is_ref10_Escaped : FnIs Tryd.prog 58 29 [.tmp 2] c_ref10_Escaped := ⟨⟨_, _, Tryd.func58, rfl, rfl, by kernel_rfl, by kernel_rfl⟩⟩
def c_percent_Normalize : SCode :=
  .seq (.reg [⟨some 3, .box 9 (.t 1), none⟩,
    ⟨some 4, .mv (.c (.s [])), none⟩,
    ⟨some 5, .mv (.c (.i .i64 0)), none⟩])
  (.seq (.reg [⟨some 6, .mv (.t 0), none⟩,
    ⟨some 7, .mkf 94 [] [.t 3], none⟩,
    ⟨some 8, .call 93 [.t 6, .t 7], none⟩,
    ⟨some 9, .ext (.t 8) 0, none⟩,
    ⟨some 10, .ext (.t 8) 1, none⟩,
    ⟨some 4, .mv (.t 9), none⟩,
    ⟨some 5, .mv (.t 10), none⟩])
  (.ret))
theorem is_percent_Normalize : FnIs Tryd.prog 59 11 [.tmp 4, .tmp 5] c_percent_Normalize := ⟨⟨_, _, Tryd.func59, rfl, rfl, by kernel_rfl, by kernel_rfl⟩⟩
def c_ref03_Normalize : SCode :=
  .seq (.reg [⟨some 4, .mv (.c (.s [])), none⟩,
    ⟨some 5, .mv (.c (.i .i64 0)), none⟩])
  (.seq (.seq (.reg [⟨some 10, .mv (.t 0), none⟩,
    ⟨some 11, .lens (.t 10), none⟩,
    ⟨some 12, .bin .gtr (.t 11) (.c (.i .i64 16384)), none⟩])
  (.cond (.t 12)
   (.seq (.reg [⟨some 4, .mv (.c (.s [])), none⟩,
     ⟨some 5, .mv (.c (.i .i64 5)), none⟩])
   (.ret))
   (.skip)))
  (.seq (.reg [⟨some 6, .mv (.c .nil), none⟩])
  (.seq (.seq (.reg [⟨some 7, .mv (.c (.i .i64 0)), none⟩])
  (.blk 0
   (.loop
    (.seq (.seq (.reg [⟨some 13, .mv (.t 7), none⟩,
      ⟨some 14, .mv (.t 0), none⟩,
      ⟨some 15, .lens (.t 14), none⟩,
      ⟨some 16, .bin .lss (.t 13) (.t 15), none⟩])
    (.cond (.t 16)
     (.skip)
     (.exit 0)))
    (.seq (.blk 1
     (.seq (.seq (.reg [⟨some 19, .mv (.t 0), none⟩,
       ⟨some 20, .mv (.t 7), none⟩,
       ⟨some 21, .idx (.t 19) (.t 20), none⟩,
       ⟨some 22, .bin .neq (.t 21) (.c (.i .u8 37)), none⟩])
     (.cond (.t 22)
      (.seq (.seq (.reg [⟨some 23, .mv (.t 0), none⟩,
        ⟨some 24, .mv (.t 7), none⟩,
        ⟨some 25, .idx (.t 23) (.t 24), none⟩,
        ⟨some 26, .call 98 [.t 25], none⟩,
        ⟨some 27, .not (.t 26), none⟩,
        ⟨some 28, .mv (.t 27), none⟩,
        ⟨some 29, .mv (.t 0), some (28, true)⟩,
        ⟨some 30, .mv (.t 7), some (28, true)⟩,
        ⟨some 31, .idx (.t 29) (.t 30), some (28, true)⟩,
        ⟨some 32, .mv (.t 1), some (28, true)⟩,
        ⟨some 33, .call 63 [.t 31, .t 32], some (28, true)⟩,
        ⟨some 34, .not (.t 33), some (28, true)⟩,
        ⟨some 35, .pick (.t 28) (.t 34) (.c (.b false)), none⟩])
      (.cond (.t 35)
       (.seq (.reg [⟨some 4, .mv (.c (.s [])), none⟩,
         ⟨some 5, .mv (.c (.i .i64 1)), none⟩])
       (.ret))
       (.skip)))
      (.seq (.reg [⟨some 36, .mv (.t 6), none⟩,
        ⟨some 37, .mv (.t 0), none⟩,
        ⟨some 38, .mv (.t 7), none⟩,
        ⟨some 39, .idx (.t 37) (.t 38), none⟩,
        ⟨some 40, .bslice 1 [.i .u8 0] [(0, (1, .t 39))], none⟩,
        ⟨some 41, .app 5 1 1 (.t 36) (.t 40), none⟩,
        ⟨some 6, .mv (.t 41), none⟩])
      (.exit 1)))
      (.skip)))
     (.seq (.reg [⟨some 43, .mv (.t 0), none⟩,
       ⟨some 44, .mv (.t 7), none⟩,
       ⟨some 45, .call 90 [.t 43, .t 44], none⟩,
       ⟨some 42, .mv (.t 45), none⟩,
       ⟨some 46, .ext (.t 42) 0, none⟩,
       ⟨some 47, .ext (.t 42) 1, none⟩,
       ⟨some 8, .mv (.t 46), none⟩,
       ⟨some 9, .mv (.t 47), none⟩])
     (.seq (.seq (.reg [⟨some 48, .mv (.t 9), none⟩,
       ⟨some 49, .not (.t 48), none⟩])
     (.cond (.t 49)
      (.seq (.reg [⟨some 4, .mv (.c (.s [])), none⟩,
        ⟨some 5, .mv (.c (.i .i64 2)), none⟩])
      (.ret))
      (.skip)))
     (.seq (.seq (.reg [⟨some 50, .mv (.t 8), none⟩,
       ⟨some 51, .call 98 [.t 50], none⟩])
     (.cond (.t 51)
      (.reg [⟨some 52, .mv (.t 6), none⟩,
        ⟨some 53, .mv (.t 8), none⟩,
        ⟨some 54, .bslice 1 [.i .u8 0] [(0, (1, .t 53))], none⟩,
        ⟨some 55, .app 5 1 1 (.t 52) (.t 54), none⟩,
        ⟨some 6, .mv (.t 55), none⟩])
      (.reg [⟨some 56, .mv (.t 6), none⟩,
        ⟨some 57, .mv (.t 8), none⟩,
        ⟨some 58, .call 92 [.t 57], none⟩,
        ⟨some 59, .apps 5 (.t 56) (.t 58), none⟩,
        ⟨some 6, .mv (.t 59), none⟩])))
     (.reg [⟨some 60, .mv (.t 7), none⟩,
       ⟨some 61, .bin .add (.t 60) (.c (.i .i64 2)), none⟩,
       ⟨some 7, .mv (.t 61), none⟩]))))))
    (.reg [⟨some 17, .mv (.t 7), none⟩,
      ⟨some 18, .bin .add (.t 17) (.c (.i .i64 1)), none⟩,
      ⟨some 7, .mv (.t 18), none⟩]))))))
  (.seq (.reg [⟨some 62, .mv (.t 6), none⟩,
    ⟨some 63, .cvbs (.t 62), none⟩,
    ⟨some 4, .mv (.t 63), none⟩,
    ⟨some 5, .mv (.c (.i .i64 0)), none⟩])
  (.ret)))))
theorem is_ref03_Normalize : FnIs Tryd.prog 60 64 [.tmp 4, .tmp 5] c_ref03_Normalize := ⟨⟨_, _, Tryd.func60, rfl, rfl, by kernel_rfl, by kernel_rfl⟩⟩
def c_ref01_In : SCode :=
  .seq (.reg [⟨some 4, .mv (.c (.b false)), none⟩])
  (.seq (.seq (.reg [⟨some 5, .mv (.c (.i .i64 0)), none⟩])
  (.blk 0
   (.loop
    (.seq (.seq (.reg [⟨some 6, .mv (.t 5), none⟩,
      ⟨some 7, .mv (.t 1), none⟩,
      ⟨some 8, .lens (.t 7), none⟩,
      ⟨some 9, .bin .lss (.t 6) (.t 8), none⟩])
    (.cond (.t 9)
     (.skip)
     (.exit 0)))
    (.seq (.blk 1
     (.seq (.reg [⟨some 12, .mv (.t 1), none⟩,
       ⟨some 13, .mv (.t 5), none⟩,
       ⟨some 14, .idx (.t 12) (.t 13), none⟩,
       ⟨some 15, .mv (.t 0), none⟩,
       ⟨some 16, .bin .eql (.t 14) (.t 15), none⟩])
     (.cond (.t 16)
      (.seq (.reg [⟨some 4, .mv (.c (.b true)), none⟩])
      (.ret))
      (.skip))))
    (.reg [⟨some 10, .mv (.t 5), none⟩,
      ⟨some 11, .bin .add (.t 10) (.c (.i .i64 1)), none⟩,
      ⟨some 5, .mv (.t 11), none⟩]))))))
  (.seq (.reg [⟨some 4, .mv (.c (.b false)), none⟩])
  (.ret)))
theorem is_ref01_In : FnIs Tryd.prog 63 17 [.tmp 4] c_ref01_In := ⟨⟨_, _, Tryd.func63, rfl, rfl, by kernel_rfl, by kernel_rfl⟩⟩
def c_number_Strict : SCode :=
  .seq (.reg [⟨some 4, .mv (.c (.i .u64 0)), none⟩,
    ⟨some 5, .mv (.c (.i .i64 0)), none⟩])
  (.seq (.seq (.reg [⟨some 7, .mv (.t 0), none⟩,
    ⟨some 8, .call 101 [.t 7, .c (.fn 85 [] [])], none⟩,
    ⟨some 6, .mv (.t 8), none⟩])
  (.seq (.reg [⟨some 9, .mv (.t 6), none⟩,
    ⟨some 10, .bin .neq (.t 9) (.c (.i .i64 0)), none⟩])
  (.cond (.t 10)
   (.seq (.reg [⟨some 11, .mv (.t 6), none⟩,
     ⟨some 4, .mv (.c (.i .u64 0)), none⟩,
     ⟨some 5, .mv (.t 11), none⟩])
   (.ret))
   (.skip))))
  (.seq (.seq (.reg [⟨some 12, .mv (.t 0), none⟩,
    ⟨some 13, .lens (.t 12), none⟩,
    ⟨some 14, .bin .gtr (.t 13) (.c (.i .i64 1)), none⟩,
    ⟨some 15, .mv (.t 14), none⟩,
    ⟨some 16, .mv (.t 0), some (15, true)⟩,
    ⟨some 17, .idx (.t 16) (.c (.i .i64 0)), some (15, true)⟩,
    ⟨some 18, .bin .eql (.t 17) (.c (.i .u8 48)), some (15, true)⟩,
    ⟨some 19, .pick (.t 15) (.t 18) (.c (.b false)), none⟩])
  (.cond (.t 19)
   (.seq (.reg [⟨some 4, .mv (.c (.i .u64 0)), none⟩,
     ⟨some 5, .mv (.c (.i .i64 6)), none⟩])
   (.ret))
   (.skip)))
  (.seq (.reg [⟨some 20, .mv (.t 0), none⟩,
    ⟨some 21, .mv (.t 1), none⟩,
    ⟨some 22, .call 102 [.t 20, .c (.i .u64 10), .t 21], none⟩,
    ⟨some 23, .ext (.t 22) 0, none⟩,
    ⟨some 24, .ext (.t 22) 1, none⟩,
    ⟨some 4, .mv (.t 23), none⟩,
    ⟨some 5, .mv (.t 24), none⟩])
  (.ret))))
theorem is_number_Strict : FnIs Tryd.prog 64 25 [.tmp 4, .tmp 5] c_number_Strict := ⟨⟨_, _, Tryd.func64, rfl, rfl, by kernel_rfl, by kernel_rfl⟩⟩
def c_ref05_IsIPv4 : SCode :=
  .seq (.reg [⟨some 2, .mv (.c (.b false)), none⟩])
  (.seq (.reg [⟨some 8, .mv (.t 0), none⟩,
    ⟨some 9, .call 55 [.t 8, .c (.i .u8 46)], none⟩,
    ⟨some 3, .mv (.t 9), none⟩])
  (.seq (.seq (.reg [⟨some 10, .mv (.t 3), none⟩,
    ⟨some 11, .lenr (.t 10), none⟩,
    ⟨some 12, .mv (.c (.i .i64 0)), none⟩])
  (.blk 0
   (.loop
    (.seq (.reg [⟨some 13, .bin .lss (.t 12) (.t 11), none⟩])
    (.seq (.cond (.t 13)
     (.skip)
     (.exit 0))
    (.seq (.blk 1
     (.seq (.reg [⟨some 14, .iad 1 (.t 10) (.t 12), none⟩,
       ⟨some 15, .load1 (.t 14), none⟩,
       ⟨some 5, .mv (.t 15), none⟩])
     (.seq (.reg [⟨some 17, .mv (.t 5), none⟩,
       ⟨some 18, .call 69 [.t 17, .c (.i .u64 255)], none⟩,
       ⟨some 16, .mv (.t 18), none⟩,
       ⟨some 19, .ext (.t 16) 0, none⟩,
       ⟨some 20, .ext (.t 16) 1, none⟩,
       ⟨some 6, .mv (.t 19), none⟩,
       ⟨some 7, .mv (.t 20), none⟩])
     (.seq (.reg [⟨some 21, .mv (.t 7), none⟩,
       ⟨some 22, .bin .neq (.t 21) (.c (.i .i64 0)), none⟩])
     (.cond (.t 22)
      (.seq (.reg [⟨some 2, .mv (.c (.b false)), none⟩])
      (.ret))
      (.skip))))))
    (.reg [⟨some 23, .bin .add (.t 12) (.c (.i .i64 1)), none⟩,
      ⟨some 12, .mv (.t 23), none⟩])))))))
  (.seq (.reg [⟨some 24, .mv (.t 3), none⟩,
    ⟨some 25, .lenr (.t 24), none⟩,
    ⟨some 26, .bin .eql (.t 25) (.c (.i .i64 4)), none⟩,
    ⟨some 2, .mv (.t 26), none⟩])
  (.ret))))
theorem is_ref05_IsIPv4 : FnIs Tryd.prog 66 27 [.tmp 2] c_ref05_IsIPv4 := ⟨⟨_, _, Tryd.func66, rfl, rfl, by kernel_rfl, by kernel_rfl⟩⟩
def c_ref05_name : SCode :=
  .seq (.reg [⟨some 2, .mv (.c (.b false)), none⟩])
  (.seq (.reg [⟨some 6, .mv (.t 0), none⟩,
    ⟨some 7, .call 55 [.t 6, .c (.i .u8 46)], none⟩,
    ⟨some 3, .mv (.t 7), none⟩])
  (.seq (.seq (.reg [⟨some 8, .mv (.t 3), none⟩,
    ⟨some 9, .lenr (.t 8), none⟩,
    ⟨some 10, .mv (.c (.i .i64 0)), none⟩])
  (.blk 0
   (.loop
    (.seq (.reg [⟨some 11, .bin .lss (.t 10) (.t 9), none⟩])
    (.seq (.cond (.t 11)
     (.skip)
     (.exit 0))
    (.seq (.blk 1
     (.seq (.reg [⟨some 12, .iad 1 (.t 8) (.t 10), none⟩,
       ⟨some 13, .load1 (.t 12), none⟩,
       ⟨some 5, .mv (.t 13), none⟩])
     (.seq (.reg [⟨some 14, .mv (.t 5), none⟩,
       ⟨some 15, .call 104 [.t 14], none⟩,
       ⟨some 16, .not (.t 15), none⟩])
     (.cond (.t 16)
      (.seq (.reg [⟨some 2, .mv (.c (.b false)), none⟩])
      (.ret))
      (.skip)))))
    (.reg [⟨some 17, .bin .add (.t 10) (.c (.i .i64 1)), none⟩,
      ⟨some 10, .mv (.t 17), none⟩])))))))
  (.seq (.reg [⟨some 18, .mv (.t 3), none⟩,
    ⟨some 19, .mv (.t 3), none⟩,
    ⟨some 20, .lenr (.t 19), none⟩,
    ⟨some 21, .bin .sub (.t 20) (.c (.i .i64 1)), none⟩,
    ⟨some 22, .iad 1 (.t 18) (.t 21), none⟩,
    ⟨some 23, .load1 (.t 22), none⟩,
    ⟨some 24, .call 105 [.t 23], none⟩,
    ⟨some 25, .not (.t 24), none⟩,
    ⟨some 2, .mv (.t 25), none⟩])
  (.ret))))
theorem is_ref05_name : FnIs Tryd.prog 67 26 [.tmp 2] c_ref05_name := ⟨⟨_, _, Tryd.func67, rfl, rfl, by kernel_rfl, by kernel_rfl⟩⟩
def c_ref04_Strict : SCode :=
  .seq (.reg [⟨some 4, .mv (.c (.i .u64 0)), none⟩,
    ⟨some 5, .mv (.c (.i .i64 0)), none⟩])
  (.seq (.reg [⟨some 9, .mv (.t 0), none⟩,
    ⟨some 10, .mv (.t 1), none⟩,
    ⟨some 11, .call 106 [.t 9, .c (.i .u64 10), .t 10], none⟩,
    ⟨some 8, .mv (.t 11), none⟩,
    ⟨some 12, .ext (.t 8) 0, none⟩,
    ⟨some 13, .ext (.t 8) 1, none⟩,
    ⟨some 6, .mv (.t 12), none⟩,
    ⟨some 7, .mv (.t 13), none⟩])
  (.seq (.seq (.reg [⟨some 14, .mv (.t 7), none⟩,
    ⟨some 15, .bin .eql (.t 14) (.c (.i .i64 0)), none⟩,
    ⟨some 16, .mv (.t 15), none⟩,
    ⟨some 17, .mv (.t 7), some (16, false)⟩,
    ⟨some 18, .bin .eql (.t 17) (.c (.i .i64 4)), some (16, false)⟩,
    ⟨some 19, .pick (.t 16) (.c (.b true)) (.t 18), none⟩,
    ⟨some 20, .mv (.t 19), none⟩,
    ⟨some 21, .mv (.t 0), some (20, true)⟩,
    ⟨some 22, .lens (.t 21), some (20, true)⟩,
    ⟨some 23, .bin .gtr (.t 22) (.c (.i .i64 1)), some (20, true)⟩,
    ⟨some 24, .pick (.t 20) (.t 23) (.c (.b false)), none⟩,
    ⟨some 25, .mv (.t 24), none⟩,
    ⟨some 26, .mv (.t 0), some (25, true)⟩,
    ⟨some 27, .idx (.t 26) (.c (.i .i64 0)), some (25, true)⟩,
    ⟨some 28, .bin .eql (.t 27) (.c (.i .u8 48)), some (25, true)⟩,
    ⟨some 29, .pick (.t 25) (.t 28) (.c (.b false)), none⟩])
  (.cond (.t 29)
   (.seq (.reg [⟨some 4, .mv (.c (.i .u64 0)), none⟩,
     ⟨some 5, .mv (.c (.i .i64 6)), none⟩])
   (.ret))
   (.skip)))
  (.seq (.reg [⟨some 30, .mv (.t 6), none⟩,
    ⟨some 31, .mv (.t 7), none⟩,
    ⟨some 4, .mv (.t 30), none⟩,
    ⟨some 5, .mv (.t 31), none⟩])
  (.ret))))
theorem is_ref04_Strict : FnIs Tryd.prog 69 32 [.tmp 4, .tmp 5] c_ref04_Strict := ⟨⟨_, _, Tryd.func69, rfl, rfl, by kernel_rfl, by kernel_rfl⟩⟩
def c_ref04_Format : SCode :=
  .seq (.reg [⟨some 2, .mv (.c (.s [])), none⟩])
  (.seq (.reg [⟨some 3, .mv (.c (.s [])), none⟩])
  (.blk 0
   (.loop
    (.blk 1
     (.seq (.reg [⟨some 4, .mv (.t 0), none⟩,
       ⟨some 5, .bin .rem (.t 4) (.c (.i .u64 10)), none⟩,
       ⟨some 6, .bin .add (.c (.i .u64 48)) (.t 5), none⟩,
       ⟨some 7, .cvi .u8 (.t 6), none⟩,
       ⟨some 8, .bslice 1 [.i .u8 0] [(0, (1, .t 7))], none⟩,
       ⟨some 9, .cvbs (.t 8), none⟩,
       ⟨some 10, .mv (.t 3), none⟩,
       ⟨some 11, .bin .add (.t 9) (.t 10), none⟩,
       ⟨some 3, .mv (.t 11), none⟩])
     (.seq (.reg [⟨some 12, .mv (.t 0), none⟩,
       ⟨some 13, .bin .quo (.t 12) (.c (.i .u64 10)), none⟩,
       ⟨some 0, .mv (.t 13), none⟩])
     (.seq (.reg [⟨some 14, .mv (.t 0), none⟩,
       ⟨some 15, .bin .eql (.t 14) (.c (.i .u64 0)), none⟩])
     (.cond (.t 15)
      (.seq (.reg [⟨some 16, .mv (.t 3), none⟩,
        ⟨some 2, .mv (.t 16), none⟩])
      (.ret))
      (.skip)))))))))
theorem is_ref04_Format : FnIs Tryd.prog 71 17 [.tmp 2] c_ref04_Format := ⟨⟨_, _, Tryd.func71, rfl, rfl, by kernel_rfl, by kernel_rfl⟩⟩
def c_host_isLabel : SCode :=
  .seq (.reg [⟨some 2, .mv (.c (.b false)), none⟩])
  (.seq (.seq (.reg [⟨some 4, .mv (.t 0), none⟩,
    ⟨some 5, .bin .eql (.t 4) (.c (.s [])), none⟩,
    ⟨some 6, .mv (.t 5), none⟩,
    ⟨some 7, .mv (.t 0), some (6, false)⟩,
    ⟨some 8, .lens (.t 7), some (6, false)⟩,
    ⟨some 9, .bin .gtr (.t 8) (.c (.i .i64 63)), some (6, false)⟩,
    ⟨some 10, .pick (.t 6) (.c (.b true)) (.t 9), none⟩,
    ⟨some 11, .mv (.t 10), none⟩,
    ⟨some 12, .mv (.t 0), some (11, false)⟩,
    ⟨some 13, .idx (.t 12) (.c (.i .i64 0)), some (11, false)⟩,
    ⟨some 14, .bin .eql (.t 13) (.c (.i .u8 45)), some (11, false)⟩,
    ⟨some 15, .pick (.t 11) (.c (.b true)) (.t 14), none⟩,
    ⟨some 16, .mv (.t 15), none⟩,
    ⟨some 17, .mv (.t 0), some (16, false)⟩,
    ⟨some 18, .mv (.t 0), some (16, false)⟩,
    ⟨some 19, .lens (.t 18), some (16, false)⟩,
    ⟨some 20, .bin .sub (.t 19) (.c (.i .i64 1)), some (16, false)⟩,
    ⟨some 21, .idx (.t 17) (.t 20), some (16, false)⟩,
    ⟨some 22, .bin .eql (.t 21) (.c (.i .u8 45)), some (16, false)⟩,
    ⟨some 23, .pick (.t 16) (.c (.b true)) (.t 22), none⟩])
  (.cond (.t 23)
   (.seq (.reg [⟨some 2, .mv (.c (.b false)), none⟩])
   (.ret))
   (.skip)))
  (.seq (.seq (.reg [⟨some 24, .mv (.t 0), none⟩,
    ⟨some 25, .lens (.t 24), none⟩,
    ⟨some 26, .mv (.c (.i .i64 0)), none⟩])
  (.blk 0
   (.loop
    (.seq (.reg [⟨some 27, .bin .lss (.t 26) (.t 25), none⟩])
    (.seq (.cond (.t 27)
     (.skip)
     (.exit 0))
    (.seq (.blk 1
     (.seq (.reg [⟨some 28, .mv (.t 26), none⟩,
       ⟨some 3, .mv (.t 28), none⟩])
     (.seq (.reg [⟨some 29, .mv (.t 0), none⟩,
       ⟨some 30, .mv (.t 3), none⟩,
       ⟨some 31, .idx (.t 29) (.t 30), none⟩,
       ⟨some 32, .call 108 [.t 31], none⟩,
       ⟨some 33, .not (.t 32), none⟩,
       ⟨some 34, .mv (.t 33), none⟩,
       ⟨some 35, .mv (.t 0), some (34, true)⟩,
       ⟨some 36, .mv (.t 3), some (34, true)⟩,
       ⟨some 37, .idx (.t 35) (.t 36), some (34, true)⟩,
       ⟨some 38, .call 85 [.t 37], some (34, true)⟩,
       ⟨some 39, .not (.t 38), some (34, true)⟩,
       ⟨some 40, .pick (.t 34) (.t 39) (.c (.b false)), none⟩,
       ⟨some 41, .mv (.t 40), none⟩,
       ⟨some 42, .mv (.t 0), some (41, true)⟩,
       ⟨some 43, .mv (.t 3), some (41, true)⟩,
       ⟨some 44, .idx (.t 42) (.t 43), some (41, true)⟩,
       ⟨some 45, .bin .neq (.t 44) (.c (.i .u8 45)), some (41, true)⟩,
       ⟨some 46, .pick (.t 41) (.t 45) (.c (.b false)), none⟩])
     (.cond (.t 46)
      (.seq (.reg [⟨some 2, .mv (.c (.b false)), none⟩])
      (.ret))
      (.skip)))))
    (.reg [⟨some 47, .bin .add (.t 26) (.c (.i .i64 1)), none⟩,
      ⟨some 26, .mv (.t 47), none⟩])))))))
  (.seq (.reg [⟨some 2, .mv (.c (.b true)), none⟩])
  (.ret))))
theorem is_host_isLabel : FnIs Tryd.prog 72 48 [.tmp 2] c_host_isLabel := ⟨⟨_, _, Tryd.func72, rfl, rfl, by kernel_rfl, by kernel_rfl⟩⟩
def c_ascii_Digits : SCode :=
  .seq (.reg [⟨some 2, .mv (.c (.b false)), none⟩])
  (.seq (.seq (.reg [⟨some 4, .mv (.t 0), none⟩,
    ⟨some 5, .lens (.t 4), none⟩,
    ⟨some 6, .mv (.c (.i .i64 0)), none⟩])
  (.blk 0
   (.loop
    (.seq (.reg [⟨some 7, .bin .lss (.t 6) (.t 5), none⟩])
    (.seq (.cond (.t 7)
     (.skip)
     (.exit 0))
    (.seq (.blk 1
     (.seq (.reg [⟨some 8, .mv (.t 6), none⟩,
       ⟨some 3, .mv (.t 8), none⟩])
     (.seq (.reg [⟨some 9, .mv (.t 0), none⟩,
       ⟨some 10, .mv (.t 3), none⟩,
       ⟨some 11, .idx (.t 9) (.t 10), none⟩,
       ⟨some 12, .call 85 [.t 11], none⟩,
       ⟨some 13, .not (.t 12), none⟩])
     (.cond (.t 13)
      (.seq (.reg [⟨some 2, .mv (.c (.b false)), none⟩])
      (.ret))
      (.skip)))))
    (.reg [⟨some 14, .bin .add (.t 6) (.c (.i .i64 1)), none⟩,
      ⟨some 6, .mv (.t 14), none⟩])))))))
  (.seq (.reg [⟨some 15, .mv (.t 0), none⟩,
    ⟨some 16, .bin .neq (.t 15) (.c (.s [])), none⟩,
    ⟨some 2, .mv (.t 16), none⟩])
  (.ret)))
theorem is_ascii_Digits : FnIs Tryd.prog 73 17 [.tmp 2] c_ascii_Digits := ⟨⟨_, _, Tryd.func73, rfl, rfl, by kernel_rfl, by kernel_rfl⟩⟩
def c_ascii_lower : SCode :=
  .seq (.reg [⟨some 2, .mv (.c (.i .u8 0)), none⟩])
  (.seq (.seq (.reg [⟨some 3, .mv (.t 0), none⟩,
    ⟨some 4, .call 109 [.t 3], none⟩])
  (.cond (.t 4)
   (.seq (.reg [⟨some 5, .mv (.t 0), none⟩,
     ⟨some 6, .bin .add (.t 5) (.c (.i .u8 32)), none⟩,
     ⟨some 2, .mv (.t 6), none⟩])
   (.ret))
   (.skip)))
  (.seq (.reg [⟨some 7, .mv (.t 0), none⟩,
    ⟨some 2, .mv (.t 7), none⟩])
  (.ret)))
theorem is_ascii_lower : FnIs Tryd.prog 74 8 [.tmp 2] c_ascii_lower := ⟨⟨_, _, Tryd.func74, rfl, rfl, by kernel_rfl, by kernel_rfl⟩⟩
def c_uri_Split_1 : SCode :=
  .seq (.reg [⟨some 3, .mv (.c (.s [])), none⟩,
    ⟨some 4, .mv (.c (.b false)), none⟩])
  (.seq (.reg [⟨some 7, .load1 (.t 1), none⟩,
    ⟨some 8, .mv (.t 0), none⟩,
    ⟨some 9, .call 62 [.t 7, .t 8], none⟩,
    ⟨some 5, .mv (.t 9), none⟩])
  (.seq (.seq (.reg [⟨some 10, .mv (.t 5), none⟩,
    ⟨some 11, .bin .lss (.t 10) (.c (.i .i64 0)), none⟩])
  (.cond (.t 11)
   (.seq (.reg [⟨some 3, .mv (.c (.s [])), none⟩,
     ⟨some 4, .mv (.c (.b false)), none⟩])
   (.ret))
   (.skip)))
  (.seq (.reg [⟨some 12, .load1 (.t 1), none⟩,
    ⟨some 13, .mv (.t 5), none⟩,
    ⟨some 14, .bin .add (.t 13) (.c (.i .i64 1)), none⟩,
    ⟨some 15, .slcs (.t 12) (some (.t 14)) none, none⟩,
    ⟨some 6, .mv (.t 15), none⟩])
  (.seq (.reg [⟨some 16, .load1 (.t 1), none⟩,
    ⟨some 17, .mv (.t 5), none⟩,
    ⟨some 18, .slcs (.t 16) none (some (.t 17)), none⟩,
    ⟨none, .store 1 (.t 1) (.t 18), none⟩])
  (.seq (.reg [⟨some 19, .mv (.t 6), none⟩,
    ⟨some 3, .mv (.t 19), none⟩,
    ⟨some 4, .mv (.c (.b true)), none⟩])
  (.ret))))))
theorem is_uri_Split_1 : FnIs Tryd.prog 75 20 [.tmp 3, .tmp 4] c_uri_Split_1 := ⟨⟨_, _, Tryd.func75, rfl, rfl, by kernel_rfl, by kernel_rfl⟩⟩
def c_uri_schemeEnd : SCode :=
  .seq (.reg [⟨some 2, .mv (.c (.i .i64 0)), none⟩])
  (.seq (.reg [⟨some 3, .mv (.t 0), none⟩,
    ⟨some 4, .call 78 [.t 3], none⟩,
    ⟨some 5, .call 62 [.t 4, .c (.i .u8 58)], none⟩,
    ⟨some 2, .mv (.t 5), none⟩])
  (.ret))
theorem is_uri_schemeEnd : FnIs Tryd.prog 76 6 [.tmp 2] c_uri_schemeEnd := ⟨⟨_, _, Tryd.func76, rfl, rfl, by kernel_rfl, by kernel_rfl⟩⟩
def c_uri_isScheme : SCode :=
  .seq (.reg [⟨some 2, .mv (.c (.b false)), none⟩])
  (.seq (.seq (.reg [⟨some 4, .mv (.t 0), none⟩,
    ⟨some 5, .lens (.t 4), none⟩,
    ⟨some 6, .mv (.c (.i .i64 0)), none⟩])
  (.blk 0
   (.loop
    (.seq (.reg [⟨some 7, .bin .lss (.t 6) (.t 5), none⟩])
    (.seq (.cond (.t 7)
     (.skip)
     (.exit 0))
    (.seq (.blk 1
     (.seq (.reg [⟨some 8, .mv (.t 6), none⟩,
       ⟨some 3, .mv (.t 8), none⟩])
     (.seq (.reg [⟨some 9, .mv (.t 0), none⟩,
       ⟨some 10, .mv (.t 3), none⟩,
       ⟨some 11, .idx (.t 9) (.t 10), none⟩,
       ⟨some 12, .call 108 [.t 11], none⟩,
       ⟨some 13, .not (.t 12), none⟩,
       ⟨some 14, .mv (.t 13), none⟩,
       ⟨some 15, .mv (.t 3), some (14, true)⟩,
       ⟨some 16, .bin .eql (.t 15) (.c (.i .i64 0)), some (14, true)⟩,
       ⟨some 17, .mv (.t 16), some (14, true)⟩,
       ⟨some 18, .mv (.t 0), some (17, false)⟩,
       ⟨some 19, .mv (.t 3), some (17, false)⟩,
       ⟨some 20, .idx (.t 18) (.t 19), some (17, false)⟩,
       ⟨some 21, .call 85 [.t 20], some (17, false)⟩,
       ⟨some 22, .not (.t 21), some (17, false)⟩,
       ⟨some 23, .mv (.t 22), some (17, false)⟩,
       ⟨some 24, .mv (.t 0), some (23, true)⟩,
       ⟨some 25, .mv (.t 3), some (23, true)⟩,
       ⟨some 26, .idx (.t 24) (.t 25), some (23, true)⟩,
       ⟨some 27, .call 62 [.c (.s [43, 45, 46]), .t 26], some (23, true)⟩,
       ⟨some 28, .bin .lss (.t 27) (.c (.i .i64 0)), some (23, true)⟩,
       ⟨some 29, .pick (.t 23) (.t 28) (.c (.b false)), some (17, false)⟩,
       ⟨some 30, .pick (.t 17) (.c (.b true)) (.t 29), some (14, true)⟩,
       ⟨some 31, .pick (.t 14) (.t 30) (.c (.b false)), none⟩])
     (.cond (.t 31)
      (.seq (.reg [⟨some 2, .mv (.c (.b false)), none⟩])
      (.ret))
      (.skip)))))
    (.reg [⟨some 32, .bin .add (.t 6) (.c (.i .i64 1)), none⟩,
      ⟨some 6, .mv (.t 32), none⟩])))))))
  (.seq (.reg [⟨some 33, .mv (.t 0), none⟩,
    ⟨some 34, .bin .neq (.t 33) (.c (.s [])), none⟩,
    ⟨some 2, .mv (.t 34), none⟩])
  (.ret)))
theorem is_uri_isScheme : FnIs Tryd.prog 77 35 [.tmp 2] c_uri_isScheme := ⟨⟨_, _, Tryd.func77, rfl, rfl, by kernel_rfl, by kernel_rfl⟩⟩
def c_uri_firstPart : SCode :=
  .seq (.reg [⟨some 2, .mv (.c (.s [])), none⟩])
  (.seq (.reg [⟨some 7, .mv (.t 0), none⟩,
    ⟨some 8, .call 33 [.t 7, .c (.s [47])], none⟩,
    ⟨some 6, .mv (.t 8), none⟩,
    ⟨some 9, .ext (.t 6) 0, none⟩,
    ⟨some 10, .ext (.t 6) 1, none⟩,
    ⟨some 11, .ext (.t 6) 2, none⟩,
    ⟨some 3, .mv (.t 9), none⟩,
    ⟨some 4, .mv (.t 10), none⟩,
    ⟨some 5, .mv (.t 11), none⟩])
  (.seq (.reg [⟨some 12, .mv (.t 3), none⟩,
    ⟨some 2, .mv (.t 12), none⟩])
  (.ret)))
theorem is_uri_firstPart : FnIs Tryd.prog 78 13 [.tmp 2] c_uri_firstPart := ⟨⟨_, _, Tryd.func78, rfl, rfl, by kernel_rfl, by kernel_rfl⟩⟩
def c_uri_RemoveDots : SCode :=
  .seq (.reg [⟨some 2, .mv (.c (.s [])), none⟩])
  (.seq (.drw [⟨some 6, .mv (.t 0), none⟩,
    ⟨some 7, .mv (.t 0), none⟩,
    ⟨some 8, .lens (.t 7), none⟩,
    ⟨some 9, .mks 5 1 1 (.c (.i .i64 0)) (.t 8), none⟩,
    ⟨some 3, .mv (.t 6), none⟩,
    ⟨some 4, .mv (.t 9), none⟩] 6 [])
  (.seq (.blk 0
   (.loop
    (.seq (.seq (.reg [⟨some 10, .mv (.t 3), none⟩,
      ⟨some 11, .bin .neq (.t 10) (.c (.s [])), none⟩])
    (.cond (.t 11)
     (.skip)
     (.exit 0)))
    (.blk 1
     (.blk 2
      (.seq (.reg [⟨some 26, .mv (.t 3), none⟩,
        ⟨some 27, .call 61 [.t 26, .c (.s [46, 46, 47])], none⟩,
        ⟨some 25, .mv (.t 27), none⟩])
      (.cond (.t 25)
       (.reg [⟨some 28, .mv (.t 3), none⟩,
         ⟨some 29, .slcs (.t 28) (some (.c (.i .i64 3))) none, none⟩,
         ⟨some 3, .mv (.t 29), none⟩])
       (.seq (.seq (.reg [⟨some 31, .mv (.t 3), none⟩,
         ⟨some 32, .call 61 [.t 31, .c (.s [46, 47])], none⟩,
         ⟨some 30, .mv (.t 32), none⟩])
       (.cond (.t 30)
        (.skip)
        (.reg [⟨some 33, .mv (.t 3), none⟩,
          ⟨some 34, .call 61 [.t 33, .c (.s [47, 46, 47])], none⟩,
          ⟨some 30, .mv (.t 34), none⟩])))
       (.cond (.t 30)
        (.reg [⟨some 35, .mv (.t 3), none⟩,
          ⟨some 36, .slcs (.t 35) (some (.c (.i .i64 2))) none, none⟩,
          ⟨some 3, .mv (.t 36), none⟩])
        (.seq (.reg [⟨some 38, .mv (.t 3), none⟩,
          ⟨some 39, .bin .eql (.t 38) (.c (.s [47, 46])), none⟩,
          ⟨some 37, .mv (.t 39), none⟩])
        (.cond (.t 37)
         (.reg [⟨some 3, .mv (.c (.s [47])), none⟩])
         (.seq (.reg [⟨some 41, .mv (.t 3), none⟩,
           ⟨some 42, .call 61 [.t 41, .c (.s [47, 46, 46, 47])], none⟩,
           ⟨some 40, .mv (.t 42), none⟩])
         (.cond (.t 40)
          (.drw [⟨some 43, .mv (.t 3), none⟩,
            ⟨some 44, .slcs (.t 43) (some (.c (.i .i64 3))) none, none⟩,
            ⟨some 45, .mv (.t 4), none⟩,
            ⟨some 46, .call 111 [.t 45], none⟩,
            ⟨some 3, .mv (.t 44), none⟩,
            ⟨some 4, .mv (.t 46), none⟩] 6 [])
          (.seq (.reg [⟨some 48, .mv (.t 3), none⟩,
            ⟨some 49, .bin .eql (.t 48) (.c (.s [47, 46, 46])), none⟩,
            ⟨some 47, .mv (.t 49), none⟩])
          (.cond (.t 47)
           (.reg [⟨some 50, .mv (.t 4), none⟩,
             ⟨some 51, .call 111 [.t 50], none⟩,
             ⟨some 3, .mv (.c (.s [47])), none⟩,
             ⟨some 4, .mv (.t 51), none⟩])
           (.seq (.seq (.reg [⟨some 53, .mv (.t 3), none⟩,
             ⟨some 54, .bin .eql (.t 53) (.c (.s [46])), none⟩,
             ⟨some 52, .mv (.t 54), none⟩])
           (.cond (.t 52)
            (.skip)
            (.reg [⟨some 55, .mv (.t 3), none⟩,
              ⟨some 56, .bin .eql (.t 55) (.c (.s [46, 46])), none⟩,
              ⟨some 52, .mv (.t 56), none⟩])))
           (.cond (.t 52)
            (.reg [⟨some 3, .mv (.c (.s [])), none⟩])
            (.seq (.reg [⟨some 12, .mv (.t 3), none⟩,
              ⟨some 13, .slcs (.t 12) (some (.c (.i .i64 1))) none, none⟩,
              ⟨some 14, .call 78 [.t 13], none⟩,
              ⟨some 15, .lens (.t 14), none⟩,
              ⟨some 16, .bin .add (.c (.i .i64 1)) (.t 15), none⟩,
              ⟨some 5, .mv (.t 16), none⟩])
            (.drw [⟨some 17, .mv (.t 3), none⟩,
              ⟨some 18, .mv (.t 5), none⟩,
              ⟨some 19, .slcs (.t 17) (some (.t 18)) none, none⟩,
              ⟨some 20, .mv (.t 4), none⟩,
              ⟨some 21, .mv (.t 3), none⟩,
              ⟨some 22, .mv (.t 5), none⟩,
              ⟨some 23, .slcs (.t 21) none (some (.t 22)), none⟩,
              ⟨some 24, .apps 5 (.t 20) (.t 23), none⟩,
              ⟨some 3, .mv (.t 19), none⟩,
              ⟨some 4, .mv (.t 24), none⟩] 10 [])))))))))))))))))))
  (.seq (.reg [⟨some 57, .mv (.t 4), none⟩,
    ⟨some 58, .cvbs (.t 57), none⟩,
    ⟨some 2, .mv (.t 58), none⟩])
  (.ret))))
theorem is_uri_RemoveDots : FnIs Tryd.prog 80 59 [.tmp 2] c_uri_RemoveDots := ⟨⟨_, _, Tryd.func80, rfl, rfl, by kernel_rfl, by kernel_rfl⟩⟩
def c_uri_merge : SCode :=
  .seq (.reg [⟨some 2, .box 63 (.t 0), none⟩,
    ⟨some 4, .mv (.c (.s [])), none⟩])
  (.seq (.seq (.reg [⟨some 5, .fad 6 (.t 2), none⟩,
    ⟨some 6, .load1 (.t 5), none⟩,
    ⟨some 7, .mv (.t 6), none⟩,
    ⟨some 8, .fad 2 (.t 2), some (7, true)⟩,
    ⟨some 9, .load1 (.t 8), some (7, true)⟩,
    ⟨some 10, .bin .eql (.t 9) (.c (.s [])), some (7, true)⟩,
    ⟨some 11, .pick (.t 7) (.t 10) (.c (.b false)), none⟩])
  (.cond (.t 11)
   (.seq (.reg [⟨some 12, .mv (.t 1), none⟩,
     ⟨some 13, .bin .add (.c (.s [47])) (.t 12), none⟩,
     ⟨some 4, .mv (.t 13), none⟩])
   (.ret))
   (.skip)))
  (.seq (.drw [⟨some 14, .fad 2 (.t 2), none⟩,
    ⟨some 15, .load1 (.t 14), none⟩,
    ⟨some 16, .fad 2 (.t 2), none⟩,
    ⟨some 17, .load1 (.t 16), none⟩,
    ⟨some 18, .call 112 [.t 17, .c (.i .u8 47)], none⟩,
    ⟨some 19, .bin .add (.t 18) (.c (.i .i64 1)), none⟩,
    ⟨some 20, .slcs (.t 15) none (some (.t 19)), none⟩,
    ⟨some 21, .mv (.t 1), none⟩,
    ⟨some 22, .bin .add (.t 20) (.t 21), none⟩,
    ⟨some 4, .mv (.t 22), none⟩] 10 [])
  (.ret)))
theorem is_uri_merge : FnIs Tryd.prog 81 23 [.tmp 4] c_uri_merge := ⟨⟨_, _, Tryd.func81, rfl, rfl, by kernel_rfl, by kernel_rfl⟩⟩
def c_uri_concat : SCode :=
  .seq (.reg [⟨some 2, .mv (.c (.s [])), none⟩])
  (.seq (.reg [⟨some 3, .mv (.t 0), none⟩,
    ⟨some 4, .call 113 [.t 3, .c (.s [])], none⟩,
    ⟨some 2, .mv (.t 4), none⟩])
  (.ret))
theorem is_uri_concat : FnIs Tryd.prog 82 5 [.tmp 2] c_uri_concat := ⟨⟨_, _, Tryd.func82, rfl, rfl, by kernel_rfl, by kernel_rfl⟩⟩
def c_uri_given : SCode :=
  .seq (.reg [⟨some 4, .mv (.c (.s [])), none⟩])
  (.seq (.seq (.reg [⟨some 5, .mv (.t 0), none⟩,
    ⟨some 6, .not (.t 5), none⟩])
  (.cond (.t 6)
   (.seq (.reg [⟨some 4, .mv (.c (.s [])), none⟩])
   (.ret))
   (.skip)))
  (.seq (.reg [⟨some 7, .mv (.t 1), none⟩,
    ⟨some 8, .call 82 [.t 7], none⟩,
    ⟨some 4, .mv (.t 8), none⟩])
  (.ret)))
theorem is_uri_given : FnIs Tryd.prog 83 9 [.tmp 4] c_uri_given := ⟨⟨_, _, Tryd.func83, rfl, rfl, by kernel_rfl, by kernel_rfl⟩⟩
def c_ascii_IsDigit : SCode :=
  .seq (.reg [⟨some 2, .mv (.c (.b false)), none⟩])
  (.seq (.reg [⟨some 3, .mv (.t 0), none⟩,
    ⟨some 4, .bin .geq (.t 3) (.c (.i .u8 48)), none⟩,
    ⟨some 5, .mv (.t 4), none⟩,
    ⟨some 6, .mv (.t 0), some (5, true)⟩,
    ⟨some 7, .bin .leq (.t 6) (.c (.i .u8 57)), some (5, true)⟩,
    ⟨some 8, .pick (.t 5) (.t 7) (.c (.b false)), none⟩,
    ⟨some 2, .mv (.t 8), none⟩])
  (.ret))
theorem is_ascii_IsDigit : FnIs Tryd.prog 85 9 [.tmp 2] c_ascii_IsDigit := ⟨⟨_, _, Tryd.func85, rfl, rfl, by kernel_rfl, by kernel_rfl⟩⟩
def c_percent_Decode : SCode :=
  .seq (.reg [⟨some 2, .mv (.c (.s [])), none⟩,
    ⟨some 3, .mv (.c (.i .i64 0)), none⟩])
  (.seq (.reg [⟨some 4, .mv (.t 0), none⟩,
    ⟨some 5, .call 93 [.t 4, .c (.fn 114 [] [])], none⟩,
    ⟨some 6, .ext (.t 5) 0, none⟩,
    ⟨some 7, .ext (.t 5) 1, none⟩,
    ⟨some 2, .mv (.t 6), none⟩,
    ⟨some 3, .mv (.t 7), none⟩])
  (.ret))
theorem is_percent_Decode : FnIs Tryd.prog 86 8 [.tmp 2, .tmp 3] c_percent_Decode := ⟨⟨_, _, Tryd.func86, rfl, rfl, by kernel_rfl, by kernel_rfl⟩⟩
def c_did_isIDByte : SCode :=
  .seq (.reg [⟨some 2, .mv (.c (.b false)), none⟩])
  (.seq (.reg [⟨some 3, .mv (.t 0), none⟩,
    ⟨some 4, .call 108 [.t 3], none⟩,
    ⟨some 5, .mv (.t 4), none⟩,
    ⟨some 6, .mv (.t 0), some (5, false)⟩,
    ⟨some 7, .call 85 [.t 6], some (5, false)⟩,
    ⟨some 8, .pick (.t 5) (.c (.b true)) (.t 7), none⟩,
    ⟨some 9, .mv (.t 8), none⟩,
    ⟨some 10, .mv (.t 0), some (9, false)⟩,
    ⟨some 11, .call 62 [.c (.s [46, 45, 95, 58]), .t 10], some (9, false)⟩,
    ⟨some 12, .bin .geq (.t 11) (.c (.i .i64 0)), some (9, false)⟩,
    ⟨some 13, .pick (.t 9) (.c (.b true)) (.t 12), none⟩,
    ⟨some 2, .mv (.t 13), none⟩])
  (.ret))
theorem is_did_isIDByte : FnIs Tryd.prog 87 14 [.tmp 2] c_did_isIDByte := ⟨⟨_, _, Tryd.func87, rfl, rfl, by kernel_rfl, by kernel_rfl⟩⟩
def c_ref01_IsDigit : SCode :=
  .seq (.reg [⟨some 2, .mv (.c (.b false)), none⟩])
  (.seq (.reg [⟨some 3, .mv (.t 0), none⟩,
    ⟨some 4, .bin .geq (.t 3) (.c (.i .u8 48)), none⟩,
    ⟨some 5, .mv (.t 4), none⟩,
    ⟨some 6, .mv (.t 0), some (5, true)⟩,
    ⟨some 7, .bin .leq (.t 6) (.c (.i .u8 57)), some (5, true)⟩,
    ⟨some 8, .pick (.t 5) (.t 7) (.c (.b false)), none⟩,
    ⟨some 2, .mv (.t 8), none⟩])
  (.ret))
theorem is_ref01_IsDigit : FnIs Tryd.prog 89 9 [.tmp 2] c_ref01_IsDigit := ⟨⟨_, _, Tryd.func89, rfl, rfl, by kernel_rfl, by kernel_rfl⟩⟩
def c_ref03_escape : SCode :=
  .seq (.reg [⟨some 4, .mv (.c (.i .u8 0)), none⟩,
    ⟨some 5, .mv (.c (.b false)), none⟩])
  (.seq (.seq (.reg [⟨some 6, .mv (.t 1), none⟩,
    ⟨some 7, .bin .add (.t 6) (.c (.i .i64 2)), none⟩,
    ⟨some 8, .mv (.t 0), none⟩,
    ⟨some 9, .lens (.t 8), none⟩,
    ⟨some 10, .bin .geq (.t 7) (.t 9), none⟩,
    ⟨some 11, .mv (.t 10), none⟩,
    ⟨some 12, .mv (.t 0), some (11, false)⟩,
    ⟨some 13, .mv (.t 1), some (11, false)⟩,
    ⟨some 14, .idx (.t 12) (.t 13), some (11, false)⟩,
    ⟨some 15, .bin .neq (.t 14) (.c (.i .u8 37)), some (11, false)⟩,
    ⟨some 16, .pick (.t 11) (.c (.b true)) (.t 15), none⟩,
    ⟨some 17, .mv (.t 16), none⟩,
    ⟨some 18, .mv (.t 0), some (17, false)⟩,
    ⟨some 19, .mv (.t 1), some (17, false)⟩,
    ⟨some 20, .bin .add (.t 19) (.c (.i .i64 1)), some (17, false)⟩,
    ⟨some 21, .idx (.t 18) (.t 20), some (17, false)⟩,
    ⟨some 22, .call 116 [.t 21], some (17, false)⟩,
    ⟨some 23, .not (.t 22), some (17, false)⟩,
    ⟨some 24, .pick (.t 17) (.c (.b true)) (.t 23), none⟩,
    ⟨some 25, .mv (.t 24), none⟩,
    ⟨some 26, .mv (.t 0), some (25, false)⟩,
    ⟨some 27, .mv (.t 1), some (25, false)⟩,
    ⟨some 28, .bin .add (.t 27) (.c (.i .i64 2)), some (25, false)⟩,
    ⟨some 29, .idx (.t 26) (.t 28), some (25, false)⟩,
    ⟨some 30, .call 116 [.t 29], some (25, false)⟩,
    ⟨some 31, .not (.t 30), some (25, false)⟩,
    ⟨some 32, .pick (.t 25) (.c (.b true)) (.t 31), none⟩])
  (.cond (.t 32)
   (.seq (.reg [⟨some 4, .mv (.c (.i .u8 0)), none⟩,
     ⟨some 5, .mv (.c (.b false)), none⟩])
   (.ret))
   (.skip)))
  (.seq (.drw [⟨some 33, .mv (.t 0), none⟩,
    ⟨some 34, .mv (.t 1), none⟩,
    ⟨some 35, .bin .add (.t 34) (.c (.i .i64 1)), none⟩,
    ⟨some 36, .idx (.t 33) (.t 35), none⟩,
    ⟨some 37, .call 117 [.t 36], none⟩,
    ⟨some 38, .bin .mul (.c (.i .u8 16)) (.t 37), none⟩,
    ⟨some 39, .mv (.t 0), none⟩,
    ⟨some 40, .mv (.t 1), none⟩,
    ⟨some 41, .bin .add (.t 40) (.c (.i .i64 2)), none⟩,
    ⟨some 42, .idx (.t 39) (.t 41), none⟩,
    ⟨some 43, .call 117 [.t 42], none⟩,
    ⟨some 44, .bin .add (.t 38) (.t 43), none⟩,
    ⟨some 4, .mv (.t 44), none⟩,
    ⟨some 5, .mv (.c (.b true)), none⟩] 14 [])
  (.ret)))
theorem is_ref03_escape : FnIs Tryd.prog 90 45 [.tmp 4, .tmp 5] c_ref03_escape := ⟨⟨_, _, Tryd.func90, rfl, rfl, by kernel_rfl, by kernel_rfl⟩⟩
def c_ref01_IsAlpha : SCode :=
  .seq (.reg [⟨some 2, .mv (.c (.b false)), none⟩])
  (.seq (.reg [⟨some 3, .mv (.t 0), none⟩,
    ⟨some 4, .bin .geq (.t 3) (.c (.i .u8 65)), none⟩,
    ⟨some 5, .mv (.t 4), none⟩,
    ⟨some 6, .mv (.t 0), some (5, true)⟩,
    ⟨some 7, .bin .leq (.t 6) (.c (.i .u8 90)), some (5, true)⟩,
    ⟨some 8, .pick (.t 5) (.t 7) (.c (.b false)), none⟩,
    ⟨some 9, .mv (.t 8), none⟩,
    ⟨some 10, .mv (.t 0), some (9, false)⟩,
    ⟨some 11, .bin .geq (.t 10) (.c (.i .u8 97)), some (9, false)⟩,
    ⟨some 12, .mv (.t 11), some (9, false)⟩,
    ⟨some 13, .mv (.t 0), some (12, true)⟩,
    ⟨some 14, .bin .leq (.t 13) (.c (.i .u8 122)), some (12, true)⟩,
    ⟨some 15, .pick (.t 12) (.t 14) (.c (.b false)), some (9, false)⟩,
    ⟨some 16, .pick (.t 9) (.c (.b true)) (.t 15), none⟩,
    ⟨some 2, .mv (.t 16), none⟩])
  (.ret))
theorem is_ref01_IsAlpha : FnIs Tryd.prog 91 17 [.tmp 2] c_ref01_IsAlpha := ⟨⟨_, _, Tryd.func91, rfl, rfl, by kernel_rfl, by kernel_rfl⟩⟩
def c_ref03_Escape : SCode :=
  .seq (.reg [⟨some 2, .mv (.c (.s [])), none⟩])
  (.seq (.drw [⟨some 3, .mv (.t 0), none⟩,
    ⟨some 4, .bin .quo (.t 3) (.c (.i .u8 16)), none⟩,
    ⟨some 5, .idx (.c (.s [48, 49, 50, 51, 52, 53, 54, 55, 56, 57, 65, 66, 67, 68, 69, 70])) (.t 4), none⟩,
    ⟨some 6, .mv (.t 0), none⟩,
    ⟨some 7, .bin .rem (.t 6) (.c (.i .u8 16)), none⟩,
    ⟨some 8, .idx (.c (.s [48, 49, 50, 51, 52, 53, 54, 55, 56, 57, 65, 66, 67, 68, 69, 70])) (.t 7), none⟩,
    ⟨some 9, .bslice 3 [.i .u8 0, .i .u8 0, .i .u8 0] [(0, (1, .c (.i .u8 37))), (1, (1, .t 5)), (2, (1, .t 8))], none⟩,
    ⟨some 10, .cvbs (.t 9), none⟩,
    ⟨some 2, .mv (.t 10), none⟩] 9 [])
  (.ret))
theorem is_ref03_Escape : FnIs Tryd.prog 92 11 [.tmp 2] c_ref03_Escape := ⟨⟨_, _, Tryd.func92, rfl, rfl, by kernel_rfl, by kernel_rfl⟩⟩
def c_percent_rewrite : SCode :=
  .seq (.reg [⟨some 4, .mv (.c (.s [])), none⟩,
    ⟨some 5, .mv (.c (.i .i64 0)), none⟩])
  (.seq (.seq (.reg [⟨some 12, .mv (.t 0), none⟩,
    ⟨some 13, .lens (.t 12), none⟩,
    ⟨some 14, .bin .gtr (.t 13) (.c (.i .i64 16384)), none⟩])
  (.cond (.t 14)
   (.seq (.reg [⟨some 4, .mv (.c (.s [])), none⟩,
     ⟨some 5, .mv (.c (.i .i64 5)), none⟩])
   (.ret))
   (.skip)))
  (.seq (.reg [⟨some 15, .mv (.t 0), none⟩,
    ⟨some 16, .lens (.t 15), none⟩,
    ⟨some 17, .mks 5 1 1 (.c (.i .i64 0)) (.t 16), none⟩,
    ⟨some 6, .mv (.t 17), none⟩])
  (.seq (.reg [⟨some 7, .mv (.c (.i .i64 0)), none⟩])
  (.seq (.seq (.reg [⟨some 18, .mv (.t 0), none⟩,
    ⟨some 19, .lens (.t 18), none⟩,
    ⟨some 20, .mv (.c (.i .i64 0)), none⟩])
  (.blk 0
   (.loop
    (.seq (.reg [⟨some 21, .bin .lss (.t 20) (.t 19), none⟩])
    (.seq (.cond (.t 21)
     (.skip)
     (.exit 0))
    (.seq (.blk 1
     (.seq (.reg [⟨some 22, .mv (.t 20), none⟩,
       ⟨some 8, .mv (.t 22), none⟩])
     (.seq (.seq (.reg [⟨some 23, .mv (.t 8), none⟩,
       ⟨some 24, .mv (.t 7), none⟩,
       ⟨some 25, .bin .lss (.t 23) (.t 24), none⟩])
     (.cond (.t 25)
      (.exit 1)
      (.skip)))
     (.seq (.reg [⟨some 26, .mv (.t 0), none⟩,
       ⟨some 27, .mv (.t 8), none⟩,
       ⟨some 28, .idx (.t 26) (.t 27), none⟩,
       ⟨some 9, .mv (.t 28), none⟩,
       ⟨some 10, .mv (.c (.i .i64 1)), none⟩])
     (.seq (.seq (.reg [⟨some 29, .mv (.t 9), none⟩,
       ⟨some 30, .bin .eql (.t 29) (.c (.i .u8 37)), none⟩])
     (.cond (.t 30)
      (.seq (.seq (.reg [⟨some 31, .mv (.t 0), none⟩,
        ⟨some 32, .mv (.t 8), none⟩,
        ⟨some 33, .call 118 [.t 31, .t 32], none⟩,
        ⟨some 34, .not (.t 33), none⟩])
      (.cond (.t 34)
       (.seq (.reg [⟨some 4, .mv (.c (.s [])), none⟩,
         ⟨some 5, .mv (.c (.i .i64 2)), none⟩])
       (.ret))
       (.skip)))
      (.drw [⟨some 35, .mv (.t 0), none⟩,
        ⟨some 36, .mv (.t 8), none⟩,
        ⟨some 37, .bin .add (.t 36) (.c (.i .i64 1)), none⟩,
        ⟨some 38, .idx (.t 35) (.t 37), none⟩,
        ⟨some 39, .call 119 [.t 38], none⟩,
        ⟨some 40, .bin .shl (.t 39) (.c (.i .u64 4)), none⟩,
        ⟨some 41, .mv (.t 0), none⟩,
        ⟨some 42, .mv (.t 8), none⟩,
        ⟨some 43, .bin .add (.t 42) (.c (.i .i64 2)), none⟩,
        ⟨some 44, .idx (.t 41) (.t 43), none⟩,
        ⟨some 45, .call 119 [.t 44], none⟩,
        ⟨some 46, .bin .or (.t 40) (.t 45), none⟩,
        ⟨some 9, .mv (.t 46), none⟩,
        ⟨some 10, .mv (.c (.i .i64 3)), none⟩] 14 []))
      (.skip)))
     (.seq (.reg [⟨some 11, .mv (.c (.i .i64 0)), none⟩])
     (.seq (.seq (.reg [⟨some 48, .mv (.t 1), none⟩,
       ⟨some 49, .mv (.t 6), none⟩,
       ⟨some 50, .mv (.t 9), none⟩,
       ⟨some 51, .mv (.t 10), none⟩,
       ⟨some 52, .bin .eql (.t 51) (.c (.i .i64 3)), none⟩,
       ⟨some 53, .callv (.t 48) [.t 49, .t 50, .t 52], none⟩,
       ⟨some 47, .mv (.t 53), none⟩,
       ⟨some 54, .ext (.t 47) 0, none⟩,
       ⟨some 55, .ext (.t 47) 1, none⟩,
       ⟨some 6, .mv (.t 54), none⟩,
       ⟨some 11, .mv (.t 55), none⟩])
     (.seq (.reg [⟨some 56, .mv (.t 11), none⟩,
       ⟨some 57, .bin .neq (.t 56) (.c (.i .i64 0)), none⟩])
     (.cond (.t 57)
      (.seq (.reg [⟨some 58, .mv (.t 11), none⟩,
        ⟨some 4, .mv (.c (.s [])), none⟩,
        ⟨some 5, .mv (.t 58), none⟩])
      (.ret))
      (.skip))))
     (.reg [⟨some 59, .mv (.t 8), none⟩,
       ⟨some 60, .mv (.t 10), none⟩,
       ⟨some 61, .bin .add (.t 59) (.t 60), none⟩,
       ⟨some 7, .mv (.t 61), none⟩]))))))))
    (.reg [⟨some 62, .bin .add (.t 20) (.c (.i .i64 1)), none⟩,
      ⟨some 20, .mv (.t 62), none⟩])))))))
  (.seq (.reg [⟨some 63, .mv (.t 6), none⟩,
    ⟨some 64, .cvbs (.t 63), none⟩,
    ⟨some 4, .mv (.t 64), none⟩,
    ⟨some 5, .mv (.c (.i .i64 0)), none⟩])
  (.ret))))))
theorem is_percent_rewrite : FnIs Tryd.prog 93 65 [.tmp 4, .tmp 5] c_percent_rewrite := ⟨⟨_, _, Tryd.func93, rfl, rfl, by kernel_rfl, by kernel_rfl⟩⟩
def c_percent_Normalize_1 : SCode :=
  .seq (.reg [⟨some 7, .mv (.c .nil), none⟩,
    ⟨some 8, .mv (.c (.i .i64 0)), none⟩])
  (.seq (.blk 0
   (.seq (.reg [⟨some 10, .mv (.t 2), none⟩,
     ⟨some 11, .mv (.t 10), none⟩,
     ⟨some 12, .mv (.t 1), some (11, true)⟩,
     ⟨some 13, .call 95 [.t 12], some (11, true)⟩,
     ⟨some 14, .not (.t 13), some (11, true)⟩,
     ⟨some 15, .pick (.t 11) (.t 14) (.c (.b false)), none⟩,
     ⟨some 9, .mv (.t 15), none⟩])
   (.cond (.t 9)
    (.seq (.reg [⟨some 16, .mv (.t 0), none⟩,
      ⟨some 17, .mv (.t 1), none⟩,
      ⟨some 18, .call 96 [.t 16, .t 17], none⟩,
      ⟨some 7, .mv (.t 18), none⟩,
      ⟨some 8, .mv (.c (.i .i64 0)), none⟩])
    (.ret))
    (.seq (.reg [⟨some 20, .mv (.t 1), none⟩,
      ⟨some 21, .load1 (.t 3), none⟩,
      ⟨some 22, .call 97 [.t 20, .t 21], none⟩,
      ⟨some 19, .mv (.t 22), none⟩])
    (.cond (.t 19)
     (.seq (.reg [⟨some 23, .mv (.t 0), none⟩,
       ⟨some 24, .mv (.t 1), none⟩,
       ⟨some 25, .bslice 1 [.i .u8 0] [(0, (1, .t 24))], none⟩,
       ⟨some 26, .app 5 1 1 (.t 23) (.t 25), none⟩,
       ⟨some 7, .mv (.t 26), none⟩,
       ⟨some 8, .mv (.c (.i .i64 0)), none⟩])
     (.ret))
     (.skip))))))
  (.seq (.reg [⟨some 27, .mv (.t 0), none⟩,
    ⟨some 7, .mv (.t 27), none⟩,
    ⟨some 8, .mv (.c (.i .i64 1)), none⟩])
  (.ret)))
theorem is_percent_Normalize_1 : FnIs Tryd.prog 94 28 [.tmp 7, .tmp 8] c_percent_Normalize_1 := ⟨⟨_, _, Tryd.func94, rfl, rfl, by kernel_rfl, by kernel_rfl⟩⟩
def c_ascii_IsUnreserved : SCode :=
  .seq (.reg [⟨some 2, .mv (.c (.b false)), none⟩])
  (.seq (.reg [⟨some 3, .mv (.t 0), none⟩,
    ⟨some 4, .call 120 [.t 3], none⟩,
    ⟨some 5, .mv (.t 4), none⟩,
    ⟨some 6, .mv (.t 0), some (5, false)⟩,
    ⟨some 7, .call 121 [.t 6, .c (.s [45, 46, 95, 126])], some (5, false)⟩,
    ⟨some 8, .pick (.t 5) (.c (.b true)) (.t 7), none⟩,
    ⟨some 2, .mv (.t 8), none⟩])
  (.ret))
theorem is_ascii_IsUnreserved : FnIs Tryd.prog 95 9 [.tmp 2] c_ascii_IsUnreserved := ⟨⟨_, _, Tryd.func95, rfl, rfl, by kernel_rfl, by kernel_rfl⟩⟩
def c_percent_appendEscape : SCode :=
  .seq (.reg [⟨some 4, .mv (.c .nil), none⟩])
  (.seq (.drw [⟨some 5, .mv (.t 0), none⟩,
    ⟨some 6, .mv (.t 1), none⟩,
    ⟨some 7, .bin .shr (.t 6) (.c (.i .u64 4)), none⟩,
    ⟨some 8, .idx (.c (.s [48, 49, 50, 51, 52, 53, 54, 55, 56, 57, 65, 66, 67, 68, 69, 70])) (.t 7), none⟩,
    ⟨some 9, .mv (.t 1), none⟩,
    ⟨some 10, .bin .and (.t 9) (.c (.i .u8 15)), none⟩,
    ⟨some 11, .idx (.c (.s [48, 49, 50, 51, 52, 53, 54, 55, 56, 57, 65, 66, 67, 68, 69, 70])) (.t 10), none⟩,
    ⟨some 12, .bslice 3 [.i .u8 0, .i .u8 0, .i .u8 0] [(0, (1, .c (.i .u8 37))), (1, (1, .t 8)), (2, (1, .t 11))], none⟩,
    ⟨some 13, .app 5 1 1 (.t 5) (.t 12), none⟩,
    ⟨some 4, .mv (.t 13), none⟩] 8 [])
  (.ret))
theorem is_percent_appendEscape : FnIs Tryd.prog 96 14 [.tmp 4] c_percent_appendEscape := ⟨⟨_, _, Tryd.func96, rfl, rfl, by kernel_rfl, by kernel_rfl⟩⟩
def c_percent_isPlain : SCode :=
  .seq (.reg [⟨some 4, .mv (.c (.b false)), none⟩])
  (.seq (.reg [⟨some 5, .mv (.t 0), none⟩,
    ⟨some 6, .call 95 [.t 5], none⟩,
    ⟨some 7, .mv (.t 6), none⟩,
    ⟨some 8, .mv (.t 0), some (7, false)⟩,
    ⟨some 9, .bin .neq (.t 8) (.c (.i .u8 37)), some (7, false)⟩,
    ⟨some 10, .mv (.t 9), some (7, false)⟩,
    ⟨some 11, .mv (.t 1), some (10, true)⟩,
    ⟨some 12, .mv (.t 0), some (10, true)⟩,
    ⟨some 13, .call 62 [.t 11, .t 12], some (10, true)⟩,
    ⟨some 14, .bin .geq (.t 13) (.c (.i .i64 0)), some (10, true)⟩,
    ⟨some 15, .pick (.t 10) (.t 14) (.c (.b false)), some (7, false)⟩,
    ⟨some 16, .pick (.t 7) (.c (.b true)) (.t 15), none⟩,
    ⟨some 4, .mv (.t 16), none⟩])
  (.ret))
theorem is_percent_isPlain : FnIs Tryd.prog 97 17 [.tmp 4] c_percent_isPlain := ⟨⟨_, _, Tryd.func97, rfl, rfl, by kernel_rfl, by kernel_rfl⟩⟩
def c_ref01_IsUnreserved : SCode :=
  .seq (.reg [⟨some 2, .mv (.c (.b false)), none⟩])
  (.seq (.reg [⟨some 3, .mv (.t 0), none⟩,
    ⟨some 4, .call 91 [.t 3], none⟩,
    ⟨some 5, .mv (.t 4), none⟩,
    ⟨some 6, .mv (.t 0), some (5, false)⟩,
    ⟨some 7, .call 89 [.t 6], some (5, false)⟩,
    ⟨some 8, .pick (.t 5) (.c (.b true)) (.t 7), none⟩,
    ⟨some 9, .mv (.t 8), none⟩,
    ⟨some 10, .mv (.t 0), some (9, false)⟩,
    ⟨some 11, .call 63 [.t 10, .c (.s [45, 46, 95, 126])], some (9, false)⟩,
    ⟨some 12, .pick (.t 9) (.c (.b true)) (.t 11), none⟩,
    ⟨some 2, .mv (.t 12), none⟩])
  (.ret))
theorem is_ref01_IsUnreserved : FnIs Tryd.prog 98 13 [.tmp 2] c_ref01_IsUnreserved := ⟨⟨_, _, Tryd.func98, rfl, rfl, by kernel_rfl, by kernel_rfl⟩⟩
def c_number_check : SCode :=
  .seq (.reg [⟨some 4, .mv (.c (.i .i64 0)), none⟩])
  (.seq (.seq (.reg [⟨some 6, .mv (.t 0), none⟩,
    ⟨some 7, .bin .eql (.t 6) (.c (.s [])), none⟩])
  (.cond (.t 7)
   (.seq (.reg [⟨some 4, .mv (.c (.i .i64 3)), none⟩])
   (.ret))
   (.skip)))
  (.seq (.seq (.reg [⟨some 8, .mv (.t 0), none⟩,
    ⟨some 9, .lens (.t 8), none⟩,
    ⟨some 10, .mv (.c (.i .i64 0)), none⟩])
  (.blk 0
   (.loop
    (.seq (.reg [⟨some 11, .bin .lss (.t 10) (.t 9), none⟩])
    (.seq (.cond (.t 11)
     (.skip)
     (.exit 0))
    (.seq (.blk 1
     (.seq (.reg [⟨some 12, .mv (.t 10), none⟩,
       ⟨some 5, .mv (.t 12), none⟩])
     (.seq (.reg [⟨some 13, .mv (.t 1), none⟩,
       ⟨some 14, .mv (.t 0), none⟩,
       ⟨some 15, .mv (.t 5), none⟩,
       ⟨some 16, .idx (.t 14) (.t 15), none⟩,
       ⟨some 17, .callv (.t 13) [.t 16], none⟩,
       ⟨some 18, .not (.t 17), none⟩])
     (.cond (.t 18)
      (.seq (.reg [⟨some 4, .mv (.c (.i .i64 1)), none⟩])
      (.ret))
      (.skip)))))
    (.reg [⟨some 19, .bin .add (.t 10) (.c (.i .i64 1)), none⟩,
      ⟨some 10, .mv (.t 19), none⟩])))))))
  (.seq (.reg [⟨some 4, .mv (.c (.i .i64 0)), none⟩])
  (.ret))))
theorem is_number_check : FnIs Tryd.prog 101 20 [.tmp 4] c_number_check := ⟨⟨_, _, Tryd.func101, rfl, rfl, by kernel_rfl, by kernel_rfl⟩⟩
def c_number_value : SCode :=
  .seq (.reg [⟨some 6, .mv (.c (.i .u64 0)), none⟩,
    ⟨some 7, .mv (.c (.i .i64 0)), none⟩])
  (.seq (.reg [⟨some 8, .mv (.c (.i .u64 0)), none⟩])
  (.seq (.seq (.reg [⟨some 11, .mv (.t 0), none⟩,
    ⟨some 12, .lens (.t 11), none⟩,
    ⟨some 13, .mv (.c (.i .i64 0)), none⟩])
  (.blk 0
   (.loop
    (.seq (.reg [⟨some 14, .bin .lss (.t 13) (.t 12), none⟩])
    (.seq (.cond (.t 14)
     (.skip)
     (.exit 0))
    (.seq (.blk 1
     (.seq (.reg [⟨some 15, .mv (.t 13), none⟩,
       ⟨some 9, .mv (.t 15), none⟩])
     (.seq (.reg [⟨some 16, .mv (.t 0), none⟩,
       ⟨some 17, .mv (.t 9), none⟩,
       ⟨some 18, .idx (.t 16) (.t 17), none⟩,
       ⟨some 19, .call 123 [.t 18], none⟩,
       ⟨some 10, .mv (.t 19), none⟩])
     (.seq (.seq (.reg [⟨some 20, .mv (.t 10), none⟩,
       ⟨some 21, .mv (.t 2), none⟩,
       ⟨some 22, .bin .gtr (.t 20) (.t 21), none⟩,
       ⟨some 23, .mv (.t 22), none⟩,
       ⟨some 24, .mv (.t 8), some (23, false)⟩,
       ⟨some 25, .mv (.t 2), some (23, false)⟩,
       ⟨some 26, .mv (.t 10), some (23, false)⟩,
       ⟨some 27, .bin .sub (.t 25) (.t 26), some (23, false)⟩,
       ⟨some 28, .mv (.t 1), some (23, false)⟩,
       ⟨some 29, .bin .quo (.t 27) (.t 28), some (23, false)⟩,
       ⟨some 30, .bin .gtr (.t 24) (.t 29), some (23, false)⟩,
       ⟨some 31, .pick (.t 23) (.c (.b true)) (.t 30), none⟩])
     (.cond (.t 31)
      (.seq (.reg [⟨some 6, .mv (.c (.i .u64 0)), none⟩,
        ⟨some 7, .mv (.c (.i .i64 4)), none⟩])
      (.ret))
      (.skip)))
     (.reg [⟨some 32, .mv (.t 8), none⟩,
       ⟨some 33, .mv (.t 1), none⟩,
       ⟨some 34, .bin .mul (.t 32) (.t 33), none⟩,
       ⟨some 35, .mv (.t 10), none⟩,
       ⟨some 36, .bin .add (.t 34) (.t 35), none⟩,
       ⟨some 8, .mv (.t 36), none⟩])))))
    (.reg [⟨some 37, .bin .add (.t 13) (.c (.i .i64 1)), none⟩,
      ⟨some 13, .mv (.t 37), none⟩])))))))
  (.seq (.reg [⟨some 38, .mv (.t 8), none⟩,
    ⟨some 6, .mv (.t 38), none⟩,
    ⟨some 7, .mv (.c (.i .i64 0)), none⟩])
  (.ret))))
theorem is_number_value : FnIs Tryd.prog 102 39 [.tmp 6, .tmp 7] c_number_value := ⟨⟨_, _, Tryd.func102, rfl, rfl, by kernel_rfl, by kernel_rfl⟩⟩
def c_ref05_label : SCode :=
  .seq (.reg [⟨some 2, .mv (.c (.b false)), none⟩])
  (.seq (.seq (.reg [⟨some 3, .mv (.c (.i .i64 0)), none⟩])
  (.blk 0
   (.loop
    (.seq (.seq (.reg [⟨some 4, .mv (.t 3), none⟩,
      ⟨some 5, .mv (.t 0), none⟩,
      ⟨some 6, .lens (.t 5), none⟩,
      ⟨some 7, .bin .lss (.t 4) (.t 6), none⟩])
    (.cond (.t 7)
     (.skip)
     (.exit 0)))
    (.seq (.blk 1
     (.seq (.reg [⟨some 10, .mv (.t 0), none⟩,
       ⟨some 11, .mv (.t 3), none⟩,
       ⟨some 12, .idx (.t 10) (.t 11), none⟩,
       ⟨some 13, .call 91 [.t 12], none⟩,
       ⟨some 14, .not (.t 13), none⟩,
       ⟨some 15, .mv (.t 14), none⟩,
       ⟨some 16, .mv (.t 0), some (15, true)⟩,
       ⟨some 17, .mv (.t 3), some (15, true)⟩,
       ⟨some 18, .idx (.t 16) (.t 17), some (15, true)⟩,
       ⟨some 19, .call 89 [.t 18], some (15, true)⟩,
       ⟨some 20, .not (.t 19), some (15, true)⟩,
       ⟨some 21, .pick (.t 15) (.t 20) (.c (.b false)), none⟩,
       ⟨some 22, .mv (.t 21), none⟩,
       ⟨some 23, .mv (.t 0), some (22, true)⟩,
       ⟨some 24, .mv (.t 3), some (22, true)⟩,
       ⟨some 25, .idx (.t 23) (.t 24), some (22, true)⟩,
       ⟨some 26, .bin .neq (.t 25) (.c (.i .u8 45)), some (22, true)⟩,
       ⟨some 27, .pick (.t 22) (.t 26) (.c (.b false)), none⟩])
     (.cond (.t 27)
      (.seq (.reg [⟨some 2, .mv (.c (.b false)), none⟩])
      (.ret))
      (.skip))))
    (.reg [⟨some 8, .mv (.t 3), none⟩,
      ⟨some 9, .bin .add (.t 8) (.c (.i .i64 1)), none⟩,
      ⟨some 3, .mv (.t 9), none⟩]))))))
  (.seq (.reg [⟨some 28, .mv (.t 0), none⟩,
    ⟨some 29, .bin .neq (.t 28) (.c (.s [])), none⟩,
    ⟨some 30, .mv (.t 29), none⟩,
    ⟨some 31, .mv (.t 0), some (30, true)⟩,
    ⟨some 32, .lens (.t 31), some (30, true)⟩,
    ⟨some 33, .bin .leq (.t 32) (.c (.i .i64 63)), some (30, true)⟩,
    ⟨some 34, .pick (.t 30) (.t 33) (.c (.b false)), none⟩,
    ⟨some 35, .mv (.t 34), none⟩,
    ⟨some 36, .mv (.t 0), some (35, true)⟩,
    ⟨some 37, .idx (.t 36) (.c (.i .i64 0)), some (35, true)⟩,
    ⟨some 38, .bin .neq (.t 37) (.c (.i .u8 45)), some (35, true)⟩,
    ⟨some 39, .pick (.t 35) (.t 38) (.c (.b false)), none⟩,
    ⟨some 40, .mv (.t 39), none⟩,
    ⟨some 41, .mv (.t 0), some (40, true)⟩,
    ⟨some 42, .mv (.t 0), some (40, true)⟩,
    ⟨some 43, .lens (.t 42), some (40, true)⟩,
    ⟨some 44, .bin .sub (.t 43) (.c (.i .i64 1)), some (40, true)⟩,
    ⟨some 45, .idx (.t 41) (.t 44), some (40, true)⟩,
    ⟨some 46, .bin .neq (.t 45) (.c (.i .u8 45)), some (40, true)⟩,
    ⟨some 47, .pick (.t 40) (.t 46) (.c (.b false)), none⟩,
    ⟨some 2, .mv (.t 47), none⟩])
  (.ret)))
theorem is_ref05_label : FnIs Tryd.prog 104 48 [.tmp 2] c_ref05_label := ⟨⟨_, _, Tryd.func104, rfl, rfl, by kernel_rfl, by kernel_rfl⟩⟩
def c_ref01_Digits : SCode :=
  .seq (.reg [⟨some 2, .mv (.c (.b false)), none⟩])
  (.seq (.seq (.reg [⟨some 3, .mv (.c (.i .i64 0)), none⟩])
  (.blk 0
   (.loop
    (.seq (.seq (.reg [⟨some 4, .mv (.t 3), none⟩,
      ⟨some 5, .mv (.t 0), none⟩,
      ⟨some 6, .lens (.t 5), none⟩,
      ⟨some 7, .bin .lss (.t 4) (.t 6), none⟩])
    (.cond (.t 7)
     (.skip)
     (.exit 0)))
    (.seq (.blk 1
     (.seq (.reg [⟨some 10, .mv (.t 0), none⟩,
       ⟨some 11, .mv (.t 3), none⟩,
       ⟨some 12, .idx (.t 10) (.t 11), none⟩,
       ⟨some 13, .call 89 [.t 12], none⟩,
       ⟨some 14, .not (.t 13), none⟩])
     (.cond (.t 14)
      (.seq (.reg [⟨some 2, .mv (.c (.b false)), none⟩])
      (.ret))
      (.skip))))
    (.reg [⟨some 8, .mv (.t 3), none⟩,
      ⟨some 9, .bin .add (.t 8) (.c (.i .i64 1)), none⟩,
      ⟨some 3, .mv (.t 9), none⟩]))))))
  (.seq (.reg [⟨some 15, .mv (.t 0), none⟩,
    ⟨some 16, .bin .neq (.t 15) (.c (.s [])), none⟩,
    ⟨some 2, .mv (.t 16), none⟩])
  (.ret)))
theorem is_ref01_Digits : FnIs Tryd.prog 105 17 [.tmp 2] c_ref01_Digits := ⟨⟨_, _, Tryd.func105, rfl, rfl, by kernel_rfl, by kernel_rfl⟩⟩
def c_ref04_parse : SCode :=
  .seq (.reg [⟨some 6, .mv (.c (.i .u64 0)), none⟩,
    ⟨some 7, .mv (.c (.i .i64 0)), none⟩])
  (.seq (.seq (.reg [⟨some 12, .mv (.t 0), none⟩,
    ⟨some 13, .bin .eql (.t 12) (.c (.s [])), none⟩])
  (.cond (.t 13)
   (.seq (.reg [⟨some 6, .mv (.c (.i .u64 0)), none⟩,
     ⟨some 7, .mv (.c (.i .i64 3)), none⟩])
   (.ret))
   (.skip)))
  (.seq (.seq (.reg [⟨some 8, .mv (.c (.i .i64 0)), none⟩])
  (.blk 0
   (.loop
    (.seq (.seq (.reg [⟨some 14, .mv (.t 8), none⟩,
      ⟨some 15, .mv (.t 0), none⟩,
      ⟨some 16, .lens (.t 15), none⟩,
      ⟨some 17, .bin .lss (.t 14) (.t 16), none⟩])
    (.cond (.t 17)
     (.skip)
     (.exit 0)))
    (.seq (.blk 1
     (.seq (.reg [⟨some 20, .mv (.t 1), none⟩,
       ⟨some 21, .bin .eql (.t 20) (.c (.i .u64 10)), none⟩,
       ⟨some 22, .mv (.t 21), none⟩,
       ⟨some 23, .mv (.t 0), some (22, true)⟩,
       ⟨some 24, .mv (.t 8), some (22, true)⟩,
       ⟨some 25, .idx (.t 23) (.t 24), some (22, true)⟩,
       ⟨some 26, .call 89 [.t 25], some (22, true)⟩,
       ⟨some 27, .not (.t 26), some (22, true)⟩,
       ⟨some 28, .pick (.t 22) (.t 27) (.c (.b false)), none⟩,
       ⟨some 29, .mv (.t 28), none⟩,
       ⟨some 30, .mv (.t 1), some (29, false)⟩,
       ⟨some 31, .bin .eql (.t 30) (.c (.i .u64 16)), some (29, false)⟩,
       ⟨some 32, .mv (.t 31), some (29, false)⟩,
       ⟨some 33, .mv (.t 0), some (32, true)⟩,
       ⟨some 34, .mv (.t 8), some (32, true)⟩,
       ⟨some 35, .idx (.t 33) (.t 34), some (32, true)⟩,
       ⟨some 36, .call 116 [.t 35], some (32, true)⟩,
       ⟨some 37, .not (.t 36), some (32, true)⟩,
       ⟨some 38, .pick (.t 32) (.t 37) (.c (.b false)), some (29, false)⟩,
       ⟨some 39, .pick (.t 29) (.c (.b true)) (.t 38), none⟩])
     (.cond (.t 39)
      (.seq (.reg [⟨some 6, .mv (.c (.i .u64 0)), none⟩,
        ⟨some 7, .mv (.c (.i .i64 1)), none⟩])
      (.ret))
      (.skip))))
    (.reg [⟨some 18, .mv (.t 8), none⟩,
      ⟨some 19, .bin .add (.t 18) (.c (.i .i64 1)), none⟩,
      ⟨some 8, .mv (.t 19), none⟩]))))))
  (.seq (.reg [⟨some 9, .mv (.c (.i .u64 0)), none⟩])
  (.seq (.seq (.reg [⟨some 10, .mv (.c (.i .i64 0)), none⟩])
  (.blk 2
   (.loop
    (.seq (.seq (.reg [⟨some 40, .mv (.t 10), none⟩,
      ⟨some 41, .mv (.t 0), none⟩,
      ⟨some 42, .lens (.t 41), none⟩,
      ⟨some 43, .bin .lss (.t 40) (.t 42), none⟩])
    (.cond (.t 43)
     (.skip)
     (.exit 2)))
    (.seq (.blk 3
     (.seq (.reg [⟨some 46, .mv (.t 0), none⟩,
       ⟨some 47, .mv (.t 10), none⟩,
       ⟨some 48, .idx (.t 46) (.t 47), none⟩,
       ⟨some 49, .bin .sub (.t 48) (.c (.i .u8 48)), none⟩,
       ⟨some 50, .cvi .u64 (.t 49), none⟩,
       ⟨some 11, .mv (.t 50), none⟩])
     (.seq (.seq (.reg [⟨some 51, .mv (.t 0), none⟩,
       ⟨some 52, .mv (.t 10), none⟩,
       ⟨some 53, .idx (.t 51) (.t 52), none⟩,
       ⟨some 54, .bin .gtr (.t 53) (.c (.i .u8 57)), none⟩])
     (.cond (.t 54)
      (.reg [⟨some 55, .mv (.t 0), none⟩,
        ⟨some 56, .mv (.t 10), none⟩,
        ⟨some 57, .idx (.t 55) (.t 56), none⟩,
        ⟨some 58, .bin .or (.t 57) (.c (.i .u8 32)), none⟩,
        ⟨some 59, .cvi .u64 (.t 58), none⟩,
        ⟨some 60, .bin .sub (.t 59) (.c (.i .u64 97)), none⟩,
        ⟨some 61, .bin .add (.t 60) (.c (.i .u64 10)), none⟩,
        ⟨some 11, .mv (.t 61), none⟩])
      (.skip)))
     (.seq (.seq (.reg [⟨some 62, .mv (.t 9), none⟩,
       ⟨some 63, .mv (.t 2), none⟩,
       ⟨some 64, .mv (.t 1), none⟩,
       ⟨some 65, .bin .quo (.t 63) (.t 64), none⟩,
       ⟨some 66, .bin .gtr (.t 62) (.t 65), none⟩,
       ⟨some 67, .mv (.t 66), none⟩,
       ⟨some 68, .mv (.t 9), some (67, false)⟩,
       ⟨some 69, .mv (.t 1), some (67, false)⟩,
       ⟨some 70, .bin .mul (.t 68) (.t 69), some (67, false)⟩,
       ⟨some 71, .mv (.t 2), some (67, false)⟩,
       ⟨some 72, .mv (.t 11), some (67, false)⟩,
       ⟨some 73, .bin .sub (.t 71) (.t 72), some (67, false)⟩,
       ⟨some 74, .bin .gtr (.t 70) (.t 73), some (67, false)⟩,
       ⟨some 75, .pick (.t 67) (.c (.b true)) (.t 74), none⟩,
       ⟨some 76, .mv (.t 75), none⟩,
       ⟨some 77, .mv (.t 11), some (76, false)⟩,
       ⟨some 78, .mv (.t 2), some (76, false)⟩,
       ⟨some 79, .bin .gtr (.t 77) (.t 78), some (76, false)⟩,
       ⟨some 80, .pick (.t 76) (.c (.b true)) (.t 79), none⟩])
     (.cond (.t 80)
      (.seq (.reg [⟨some 6, .mv (.c (.i .u64 0)), none⟩,
        ⟨some 7, .mv (.c (.i .i64 4)), none⟩])
      (.ret))
      (.skip)))
     (.reg [⟨some 81, .mv (.t 9), none⟩,
       ⟨some 82, .mv (.t 1), none⟩,
       ⟨some 83, .bin .mul (.t 81) (.t 82), none⟩,
       ⟨some 84, .mv (.t 11), none⟩,
       ⟨some 85, .bin .add (.t 83) (.t 84), none⟩,
       ⟨some 9, .mv (.t 85), none⟩])))))
    (.reg [⟨some 44, .mv (.t 10), none⟩,
      ⟨some 45, .bin .add (.t 44) (.c (.i .i64 1)), none⟩,
      ⟨some 10, .mv (.t 45), none⟩]))))))
  (.seq (.reg [⟨some 86, .mv (.t 9), none⟩,
    ⟨some 6, .mv (.t 86), none⟩,
    ⟨some 7, .mv (.c (.i .i64 0)), none⟩])
  (.ret))))))
theorem is_ref04_parse : FnIs Tryd.prog 106 87 [.tmp 6, .tmp 7] c_ref04_parse := ⟨⟨_, _, Tryd.func106, rfl, rfl, by kernel_rfl, by kernel_rfl⟩⟩
def c_ascii_IsAlpha : SCode :=
  .seq (.reg [⟨some 2, .mv (.c (.b false)), none⟩])
  (.seq (.reg [⟨some 3, .mv (.t 0), none⟩,
    ⟨some 4, .bin .geq (.t 3) (.c (.i .u8 97)), none⟩,
    ⟨some 5, .mv (.t 4), none⟩,
    ⟨some 6, .mv (.t 0), some (5, true)⟩,
    ⟨some 7, .bin .leq (.t 6) (.c (.i .u8 122)), some (5, true)⟩,
    ⟨some 8, .pick (.t 5) (.t 7) (.c (.b false)), none⟩,
    ⟨some 9, .mv (.t 8), none⟩,
    ⟨some 10, .mv (.t 0), some (9, false)⟩,
    ⟨some 11, .call 109 [.t 10], some (9, false)⟩,
    ⟨some 12, .pick (.t 9) (.c (.b true)) (.t 11), none⟩,
    ⟨some 2, .mv (.t 12), none⟩])
  (.ret))
theorem is_ascii_IsAlpha : FnIs Tryd.prog 108 13 [.tmp 2] c_ascii_IsAlpha := ⟨⟨_, _, Tryd.func108, rfl, rfl, by kernel_rfl, by kernel_rfl⟩⟩
def c_ascii_isCapital : SCode :=
  .seq (.reg [⟨some 2, .mv (.c (.b false)), none⟩])
  (.seq (.reg [⟨some 3, .mv (.t 0), none⟩,
    ⟨some 4, .bin .geq (.t 3) (.c (.i .u8 65)), none⟩,
    ⟨some 5, .mv (.t 4), none⟩,
    ⟨some 6, .mv (.t 0), some (5, true)⟩,
    ⟨some 7, .bin .leq (.t 6) (.c (.i .u8 90)), some (5, true)⟩,
    ⟨some 8, .pick (.t 5) (.t 7) (.c (.b false)), none⟩,
    ⟨some 2, .mv (.t 8), none⟩])
  (.ret))
theorem is_ascii_isCapital : FnIs Tryd.prog 109 9 [.tmp 2] c_ascii_isCapital := ⟨⟨_, _, Tryd.func109, rfl, rfl, by kernel_rfl, by kernel_rfl⟩⟩
def c_percent_Decode_1 : SCode :=
  .seq (.reg [⟨some 6, .mv (.c .nil), none⟩,
    ⟨some 7, .mv (.c (.i .i64 0)), none⟩])
  (.seq (.reg [⟨some 8, .mv (.t 0), none⟩,
    ⟨some 9, .mv (.t 1), none⟩,
    ⟨some 10, .bslice 1 [.i .u8 0] [(0, (1, .t 9))], none⟩,
    ⟨some 11, .app 5 1 1 (.t 8) (.t 10), none⟩,
    ⟨some 6, .mv (.t 11), none⟩,
    ⟨some 7, .mv (.c (.i .i64 0)), none⟩])
  (.ret))
theorem is_percent_Decode_1 : FnIs Tryd.prog 114 12 [.tmp 6, .tmp 7] c_percent_Decode_1 := ⟨⟨_, _, Tryd.func114, rfl, rfl, by kernel_rfl, by kernel_rfl⟩⟩
def c_ref01_IsHex : SCode :=
  .seq (.reg [⟨some 2, .mv (.c (.b false)), none⟩])
  (.seq (.reg [⟨some 3, .mv (.t 0), none⟩,
    ⟨some 4, .call 89 [.t 3], none⟩,
    ⟨some 5, .mv (.t 4), none⟩,
    ⟨some 6, .mv (.t 0), some (5, false)⟩,
    ⟨some 7, .bin .geq (.t 6) (.c (.i .u8 65)), some (5, false)⟩,
    ⟨some 8, .mv (.t 7), some (5, false)⟩,
    ⟨some 9, .mv (.t 0), some (8, true)⟩,
    ⟨some 10, .bin .leq (.t 9) (.c (.i .u8 70)), some (8, true)⟩,
    ⟨some 11, .pick (.t 8) (.t 10) (.c (.b false)), some (5, false)⟩,
    ⟨some 12, .pick (.t 5) (.c (.b true)) (.t 11), none⟩,
    ⟨some 13, .mv (.t 12), none⟩,
    ⟨some 14, .mv (.t 0), some (13, false)⟩,
    ⟨some 15, .bin .geq (.t 14) (.c (.i .u8 97)), some (13, false)⟩,
    ⟨some 16, .mv (.t 15), some (13, false)⟩,
    ⟨some 17, .mv (.t 0), some (16, true)⟩,
    ⟨some 18, .bin .leq (.t 17) (.c (.i .u8 102)), some (16, true)⟩,
    ⟨some 19, .pick (.t 16) (.t 18) (.c (.b false)), some (13, false)⟩,
    ⟨some 20, .pick (.t 13) (.c (.b true)) (.t 19), none⟩,
    ⟨some 2, .mv (.t 20), none⟩])
  (.ret))
theorem is_ref01_IsHex : FnIs Tryd.prog 116 21 [.tmp 2] c_ref01_IsHex := ⟨⟨_, _, Tryd.func116, rfl, rfl, by kernel_rfl, by kernel_rfl⟩⟩
def c_ref03_digit : SCode :=
  .seq (.reg [⟨some 2, .mv (.c (.i .u8 0)), none⟩])
  (.seq (.blk 0
   (.seq (.reg [⟨some 4, .mv (.t 0), none⟩,
     ⟨some 5, .bin .leq (.t 4) (.c (.i .u8 57)), none⟩,
     ⟨some 3, .mv (.t 5), none⟩])
   (.cond (.t 3)
    (.seq (.reg [⟨some 6, .mv (.t 0), none⟩,
      ⟨some 7, .bin .sub (.t 6) (.c (.i .u8 48)), none⟩,
      ⟨some 2, .mv (.t 7), none⟩])
    (.ret))
    (.seq (.reg [⟨some 9, .mv (.t 0), none⟩,
      ⟨some 10, .bin .leq (.t 9) (.c (.i .u8 70)), none⟩,
      ⟨some 8, .mv (.t 10), none⟩])
    (.cond (.t 8)
     (.seq (.reg [⟨some 11, .mv (.t 0), none⟩,
       ⟨some 12, .bin .sub (.t 11) (.c (.i .u8 65)), none⟩,
       ⟨some 13, .bin .add (.t 12) (.c (.i .u8 10)), none⟩,
       ⟨some 2, .mv (.t 13), none⟩])
     (.ret))
     (.skip))))))
  (.seq (.reg [⟨some 14, .mv (.t 0), none⟩,
    ⟨some 15, .bin .sub (.t 14) (.c (.i .u8 97)), none⟩,
    ⟨some 16, .bin .add (.t 15) (.c (.i .u8 10)), none⟩,
    ⟨some 2, .mv (.t 16), none⟩])
  (.ret)))
theorem is_ref03_digit : FnIs Tryd.prog 117 17 [.tmp 2] c_ref03_digit := ⟨⟨_, _, Tryd.func117, rfl, rfl, by kernel_rfl, by kernel_rfl⟩⟩
def c_percent_isEscapeAt : SCode :=
  .seq (.reg [⟨some 4, .mv (.c (.b false)), none⟩])
  (.seq (.reg [⟨some 5, .mv (.t 0), none⟩,
    ⟨some 6, .lens (.t 5), none⟩,
    ⟨some 7, .mv (.t 1), none⟩,
    ⟨some 8, .bin .sub (.t 6) (.t 7), none⟩,
    ⟨some 9, .bin .geq (.t 8) (.c (.i .i64 3)), none⟩,
    ⟨some 10, .mv (.t 9), none⟩,
    ⟨some 11, .mv (.t 0), some (10, true)⟩,
    ⟨some 12, .mv (.t 1), some (10, true)⟩,
    ⟨some 13, .bin .add (.t 12) (.c (.i .i64 1)), some (10, true)⟩,
    ⟨some 14, .idx (.t 11) (.t 13), some (10, true)⟩,
    ⟨some 15, .call 137 [.t 14], some (10, true)⟩,
    ⟨some 16, .pick (.t 10) (.t 15) (.c (.b false)), none⟩,
    ⟨some 17, .mv (.t 16), none⟩,
    ⟨some 18, .mv (.t 0), some (17, true)⟩,
    ⟨some 19, .mv (.t 1), some (17, true)⟩,
    ⟨some 20, .bin .add (.t 19) (.c (.i .i64 2)), some (17, true)⟩,
    ⟨some 21, .idx (.t 18) (.t 20), some (17, true)⟩,
    ⟨some 22, .call 137 [.t 21], some (17, true)⟩,
    ⟨some 23, .pick (.t 17) (.t 22) (.c (.b false)), none⟩,
    ⟨some 4, .mv (.t 23), none⟩])
  (.ret))
theorem is_percent_isEscapeAt : FnIs Tryd.prog 118 24 [.tmp 4] c_percent_isEscapeAt := ⟨⟨_, _, Tryd.func118, rfl, rfl, by kernel_rfl, by kernel_rfl⟩⟩
def c_percent_digit : SCode :=
  .seq (.reg [⟨some 2, .mv (.c (.i .u8 0)), none⟩])
  (.seq (.seq (.reg [⟨some 3, .mv (.t 0), none⟩,
    ⟨some 4, .call 85 [.t 3], none⟩])
  (.cond (.t 4)
   (.seq (.reg [⟨some 5, .mv (.t 0), none⟩,
     ⟨some 6, .bin .sub (.t 5) (.c (.i .u8 48)), none⟩,
     ⟨some 2, .mv (.t 6), none⟩])
   (.ret))
   (.skip)))
  (.seq (.reg [⟨some 7, .mv (.t 0), none⟩,
    ⟨some 8, .bin .and (.t 7) (.c (.i .u8 223)), none⟩,
    ⟨some 9, .bin .sub (.t 8) (.c (.i .u8 65)), none⟩,
    ⟨some 10, .bin .add (.t 9) (.c (.i .u8 10)), none⟩,
    ⟨some 2, .mv (.t 10), none⟩])
  (.ret)))
theorem is_percent_digit : FnIs Tryd.prog 119 11 [.tmp 2] c_percent_digit := ⟨⟨_, _, Tryd.func119, rfl, rfl, by kernel_rfl, by kernel_rfl⟩⟩
def c_ascii_isLetterOrDigit : SCode :=
  .seq (.reg [⟨some 2, .mv (.c (.b false)), none⟩])
  (.seq (.reg [⟨some 3, .mv (.t 0), none⟩,
    ⟨some 4, .call 108 [.t 3], none⟩,
    ⟨some 5, .mv (.t 4), none⟩,
    ⟨some 6, .mv (.t 0), some (5, false)⟩,
    ⟨some 7, .call 85 [.t 6], some (5, false)⟩,
    ⟨some 8, .pick (.t 5) (.c (.b true)) (.t 7), none⟩,
    ⟨some 2, .mv (.t 8), none⟩])
  (.ret))
theorem is_ascii_isLetterOrDigit : FnIs Tryd.prog 120 9 [.tmp 2] c_ascii_isLetterOrDigit := ⟨⟨_, _, Tryd.func120, rfl, rfl, by kernel_rfl, by kernel_rfl⟩⟩
def c_ascii_isOneOf : SCode :=
  .seq (.reg [⟨some 4, .mv (.c (.b false)), none⟩])
  (.seq (.reg [⟨some 5, .mv (.t 1), none⟩,
    ⟨some 6, .mv (.t 0), none⟩,
    ⟨some 7, .call 62 [.t 5, .t 6], none⟩,
    ⟨some 8, .bin .geq (.t 7) (.c (.i .i64 0)), none⟩,
    ⟨some 4, .mv (.t 8), none⟩])
  (.ret))
theorem is_ascii_isOneOf : FnIs Tryd.prog 121 9 [.tmp 4] c_ascii_isOneOf := ⟨⟨_, _, Tryd.func121, rfl, rfl, by kernel_rfl, by kernel_rfl⟩⟩
def c_number_digit : SCode :=
  .seq (.reg [⟨some 2, .mv (.c (.i .u64 0)), none⟩])
  (.seq (.seq (.reg [⟨some 3, .mv (.t 0), none⟩,
    ⟨some 4, .call 85 [.t 3], none⟩])
  (.cond (.t 4)
   (.seq (.reg [⟨some 5, .mv (.t 0), none⟩,
     ⟨some 6, .bin .sub (.t 5) (.c (.i .u8 48)), none⟩,
     ⟨some 7, .cvi .u64 (.t 6), none⟩,
     ⟨some 2, .mv (.t 7), none⟩])
   (.ret))
   (.skip)))
  (.seq (.reg [⟨some 8, .mv (.t 0), none⟩,
    ⟨some 9, .bin .and (.t 8) (.c (.i .u8 223)), none⟩,
    ⟨some 10, .bin .sub (.t 9) (.c (.i .u8 65)), none⟩,
    ⟨some 11, .cvi .u64 (.t 10), none⟩,
    ⟨some 12, .bin .add (.t 11) (.c (.i .u64 10)), none⟩,
    ⟨some 2, .mv (.t 12), none⟩])
  (.ret)))
theorem is_number_digit : FnIs Tryd.prog 123 13 [.tmp 2] c_number_digit := ⟨⟨_, _, Tryd.func123, rfl, rfl, by kernel_rfl, by kernel_rfl⟩⟩
def c_ascii_IsHex : SCode :=
  .seq (.reg [⟨some 2, .mv (.c (.b false)), none⟩])
  (.seq (.reg [⟨some 3, .mv (.t 0), none⟩,
    ⟨some 4, .call 85 [.t 3], none⟩,
    ⟨some 5, .mv (.t 4), none⟩,
    ⟨some 6, .mv (.t 0), some (5, false)⟩,
    ⟨some 7, .bin .geq (.t 6) (.c (.i .u8 97)), some (5, false)⟩,
    ⟨some 8, .mv (.t 7), some (5, false)⟩,
    ⟨some 9, .mv (.t 0), some (8, true)⟩,
    ⟨some 10, .bin .leq (.t 9) (.c (.i .u8 102)), some (8, true)⟩,
    ⟨some 11, .pick (.t 8) (.t 10) (.c (.b false)), some (5, false)⟩,
    ⟨some 12, .pick (.t 5) (.c (.b true)) (.t 11), none⟩,
    ⟨some 13, .mv (.t 12), none⟩,
    ⟨some 14, .mv (.t 0), some (13, false)⟩,
    ⟨some 15, .bin .geq (.t 14) (.c (.i .u8 65)), some (13, false)⟩,
    ⟨some 16, .mv (.t 15), some (13, false)⟩,
    ⟨some 17, .mv (.t 0), some (16, true)⟩,
    ⟨some 18, .bin .leq (.t 17) (.c (.i .u8 70)), some (16, true)⟩,
    ⟨some 19, .pick (.t 16) (.t 18) (.c (.b false)), some (13, false)⟩,
    ⟨some 20, .pick (.t 13) (.c (.b true)) (.t 19), none⟩,
    ⟨some 2, .mv (.t 20), none⟩])
  (.ret))
theorem is_ascii_IsHex : FnIs Tryd.prog 137 21 [.tmp 2] c_ascii_IsHex := ⟨⟨_, _, Tryd.func137, rfl, rfl, by kernel_rfl, by kernel_rfl⟩⟩
end Go.Proofs.YtkokcmpgebjiaaaDoor.Sx
