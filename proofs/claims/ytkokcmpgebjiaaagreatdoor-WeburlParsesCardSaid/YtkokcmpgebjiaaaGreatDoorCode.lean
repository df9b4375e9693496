/- The functions of the seat's program in the short form: made by program, and compared with the program's text by the kernel. -/
import Derived.Test.YtkokcmpgebjiaaaGreatDoorSxc
import Derived.Test.YtkokcmpgebjiaaaGreatDoorProg
namespace Go.Proofs.YtkokcmpgebjiaaaGreatDoor.Sx
open Go.RowKit
set_option linter.unusedVariables false
set_option maxRecDepth 100000

def c_law07_WeburlParses : SCode :=
  .seq (.reg [⟨some 2, .mv (.c (.b false)), none⟩])
  (.seq (.seq (.reg [⟨some 7, .call 6 [], none⟩,
    ⟨some 8, .not (.t 7), none⟩])
  (.cond (.t 8)
   (.seq (.reg [⟨some 2, .mv (.c (.b false)), none⟩])
   (.ret))
   (.skip)))
  (.seq (.seq (.reg [⟨some 9, .mv (.t 0), none⟩,
    ⟨some 10, .lens (.t 9), none⟩,
    ⟨some 11, .bin .gtr (.t 10) (.c (.i .i64 3000)), none⟩,
    ⟨some 12, .mv (.t 11), none⟩,
    ⟨some 13, .mv (.t 0), some (12, true)⟩,
    ⟨some 14, .lens (.t 13), some (12, true)⟩,
    ⟨some 15, .bin .leq (.t 14) (.c (.i .i64 4096)), some (12, true)⟩,
    ⟨some 16, .pick (.t 12) (.t 15) (.c (.b false)), none⟩])
  (.cond (.t 16)
   (.seq (.reg [⟨some 2, .mv (.c (.b true)), none⟩])
   (.ret))
   (.skip)))
  (.seq (.reg [⟨some 18, .mv (.t 0), none⟩,
    ⟨some 19, .call 7 [.t 18], none⟩,
    ⟨some 17, .mv (.t 19), none⟩,
    ⟨some 20, .ext (.t 17) 0, none⟩,
    ⟨some 21, .ext (.t 17) 1, none⟩,
    ⟨some 3, .alloc 24 [.s [], .i .i64 0, .s [], .s [], .s [], .b false, .b false], none⟩,
    ⟨none, .store 7 (.t 3) (.t 20), none⟩,
    ⟨some 4, .mv (.t 21), none⟩])
  (.seq (.reg [⟨some 23, .mv (.t 0), none⟩,
    ⟨some 24, .call 8 [.t 23], none⟩,
    ⟨some 22, .mv (.t 24), none⟩,
    ⟨some 25, .ext (.t 22) 0, none⟩,
    ⟨some 26, .ext (.t 22) 1, none⟩,
    ⟨some 5, .alloc 24 [.s [], .i .i64 0, .s [], .s [], .s [], .b false, .b false], none⟩,
    ⟨none, .store 7 (.t 5) (.t 25), none⟩,
    ⟨some 6, .mv (.t 26), none⟩])
  (.seq (.reg [⟨some 27, .loadn 7 (.t 3), none⟩,
    ⟨some 28, .loadn 7 (.t 5), none⟩,
    ⟨some 29, .eqs false (.str [(0, (none, .ts)), (1, (none, .ti)), (2, (none, .ts)), (3, (none, .ts)), (4, (none, .ts)), (5, (none, .tb)), (6, (none, .tb))]) (.t 27) (.t 28), none⟩,
    ⟨some 30, .mv (.t 29), none⟩,
    ⟨some 31, .mv (.t 4), some (30, true)⟩,
    ⟨some 32, .mv (.t 6), some (30, true)⟩,
    ⟨some 33, .bin .eql (.t 31) (.t 32), some (30, true)⟩,
    ⟨some 34, .pick (.t 30) (.t 33) (.c (.b false)), none⟩,
    ⟨some 2, .mv (.t 34), none⟩])
  (.ret))))))
theorem is_law07_WeburlParses : FnIs Tryz.prog 3 35 [.tmp 2] c_law07_WeburlParses := ⟨⟨_, _, Tryz.func3, rfl, rfl, by kernel_rfl, by kernel_rfl⟩⟩
def c_law07_WeburlFormats : SCode :=
  .seq (.reg [⟨some 1, .box 24 (.t 0), none⟩,
    ⟨some 2, .mv (.c (.b false)), none⟩])
  (.seq (.seq (.reg [⟨some 3, .call 6 [], none⟩,
    ⟨some 4, .not (.t 3), none⟩])
  (.cond (.t 4)
   (.seq (.reg [⟨some 2, .mv (.c (.b false)), none⟩])
   (.ret))
   (.skip)))
  (.seq (.drw [⟨some 5, .loadn 7 (.t 1), none⟩,
    ⟨some 6, .call 9 [.t 5], none⟩,
    ⟨some 7, .not (.t 6), none⟩,
    ⟨some 8, .mv (.t 7), none⟩,
    ⟨some 9, .loadn 7 (.t 1), some (8, false)⟩,
    ⟨some 10, .call 10 [.t 9], some (8, false)⟩,
    ⟨some 11, .loadn 7 (.t 1), some (8, false)⟩,
    ⟨some 12, .call 11 [.t 11], some (8, false)⟩,
    ⟨some 13, .bin .eql (.t 10) (.t 12), some (8, false)⟩,
    ⟨some 14, .mv (.t 13), some (8, false)⟩,
    ⟨some 15, .loadn 7 (.t 1), some (14, true)⟩,
    ⟨some 16, .call 12 [.t 15], some (14, true)⟩,
    ⟨some 17, .loadn 7 (.t 1), some (14, true)⟩,
    ⟨some 18, .call 13 [.t 17], some (14, true)⟩,
    ⟨some 19, .beq false (.t 16) (.t 18), some (14, true)⟩,
    ⟨some 20, .pick (.t 14) (.t 19) (.c (.b false)), some (8, false)⟩,
    ⟨some 21, .mv (.t 20), some (8, false)⟩,
    ⟨some 22, .loadn 7 (.t 1), some (21, true)⟩,
    ⟨some 23, .call 14 [.t 22], some (21, true)⟩,
    ⟨some 24, .loadn 7 (.t 1), some (21, true)⟩,
    ⟨some 25, .call 15 [.t 24], some (21, true)⟩,
    ⟨some 26, .bin .eql (.t 23) (.t 25), some (21, true)⟩,
    ⟨some 27, .pick (.t 21) (.t 26) (.c (.b false)), some (8, false)⟩,
    ⟨some 28, .mv (.t 27), some (8, false)⟩,
    ⟨some 29, .loadn 7 (.t 1), some (28, true)⟩,
    ⟨some 30, .call 16 [.t 29], some (28, true)⟩,
    ⟨some 31, .loadn 7 (.t 1), some (28, true)⟩,
    ⟨some 32, .call 17 [.t 31], some (28, true)⟩,
    ⟨some 33, .eqs false (.str [(0, (none, .ts)), (1, (none, .ti))]) (.t 30) (.t 32), some (28, true)⟩,
    ⟨some 34, .pick (.t 28) (.t 33) (.c (.b false)), some (8, false)⟩,
    ⟨some 35, .pick (.t 8) (.c (.b true)) (.t 34), none⟩,
    ⟨some 2, .mv (.t 35), none⟩] 32 [])
  (.ret)))
theorem is_law07_WeburlFormats : FnIs Tryz.prog 4 36 [.tmp 2] c_law07_WeburlFormats := ⟨⟨_, _, Tryz.func4, rfl, rfl, by kernel_rfl, by kernel_rfl⟩⟩
def c_law07_WeburlRelatives : SCode :=
  .seq (.reg [⟨some 3, .box 24 (.t 0), none⟩,
    ⟨some 6, .mv (.c (.b false)), none⟩])
  (.seq (.seq (.reg [⟨some 15, .call 6 [], none⟩,
    ⟨some 16, .not (.t 15), none⟩])
  (.cond (.t 16)
   (.seq (.reg [⟨some 6, .mv (.c (.b false)), none⟩])
   (.ret))
   (.skip)))
  (.seq (.seq (.reg [⟨some 17, .loadn 7 (.t 3), none⟩,
    ⟨some 18, .call 9 [.t 17], none⟩,
    ⟨some 19, .not (.t 18), none⟩,
    ⟨some 20, .mv (.t 19), none⟩,
    ⟨some 21, .mv (.t 1), some (20, false)⟩,
    ⟨some 22, .lens (.t 21), some (20, false)⟩,
    ⟨some 23, .bin .gtr (.t 22) (.c (.i .i64 500)), some (20, false)⟩,
    ⟨some 24, .pick (.t 20) (.c (.b true)) (.t 23), none⟩,
    ⟨some 25, .mv (.t 24), none⟩,
    ⟨some 26, .mv (.t 2), some (25, false)⟩,
    ⟨some 27, .lens (.t 26), some (25, false)⟩,
    ⟨some 28, .bin .gtr (.t 27) (.c (.i .i64 500)), some (25, false)⟩,
    ⟨some 29, .pick (.t 25) (.c (.b true)) (.t 28), none⟩])
  (.cond (.t 29)
   (.seq (.reg [⟨some 6, .mv (.c (.b true)), none⟩])
   (.ret))
   (.skip)))
  (.seq (.reg [⟨some 31, .mv (.t 1), none⟩,
    ⟨some 32, .call 8 [.t 31], none⟩,
    ⟨some 30, .mv (.t 32), none⟩,
    ⟨some 33, .ext (.t 30) 0, none⟩,
    ⟨some 34, .ext (.t 30) 1, none⟩,
    ⟨some 7, .alloc 24 [.s [], .i .i64 0, .s [], .s [], .s [], .b false, .b false], none⟩,
    ⟨none, .store 7 (.t 7) (.t 33), none⟩,
    ⟨some 8, .mv (.t 34), none⟩])
  (.seq (.seq (.reg [⟨some 35, .loadn 7 (.t 3), none⟩,
    ⟨some 36, .loadn 7 (.t 7), none⟩,
    ⟨some 37, .bslice 2 [.s [], .i .i64 0, .s [], .s [], .s [], .b false, .b false, .s [], .i .i64 0, .s [], .s [], .s [], .b false, .b false] [(0, (7, .t 35)), (7, (7, .t 36))], none⟩,
    ⟨some 38, .lenr (.t 37), none⟩,
    ⟨some 39, .mv (.c (.i .i64 0)), none⟩])
  (.blk 0
   (.loop
    (.seq (.reg [⟨some 40, .bin .lss (.t 39) (.t 38), none⟩])
    (.seq (.cond (.t 40)
     (.skip)
     (.exit 0))
    (.seq (.blk 1
     (.seq (.reg [⟨some 41, .iad 7 (.t 37) (.t 39), none⟩,
       ⟨some 42, .loadn 7 (.t 41), none⟩,
       ⟨some 10, .alloc 24 [.s [], .i .i64 0, .s [], .s [], .s [], .b false, .b false], none⟩,
       ⟨none, .store 7 (.t 10) (.t 42), none⟩])
     (.seq (.reg [⟨some 44, .loadn 7 (.t 10), none⟩,
       ⟨some 45, .mv (.t 2), none⟩,
       ⟨some 46, .call 18 [.t 44, .t 45], none⟩,
       ⟨some 43, .mv (.t 46), none⟩,
       ⟨some 47, .ext (.t 43) 0, none⟩,
       ⟨some 48, .ext (.t 43) 1, none⟩,
       ⟨some 11, .alloc 24 [.s [], .i .i64 0, .s [], .s [], .s [], .b false, .b false], none⟩,
       ⟨none, .store 7 (.t 11) (.t 47), none⟩,
       ⟨some 12, .mv (.t 48), none⟩])
     (.seq (.reg [⟨some 50, .loadn 7 (.t 10), none⟩,
       ⟨some 51, .mv (.t 2), none⟩,
       ⟨some 52, .call 19 [.t 50, .t 51], none⟩,
       ⟨some 49, .mv (.t 52), none⟩,
       ⟨some 53, .ext (.t 49) 0, none⟩,
       ⟨some 54, .ext (.t 49) 1, none⟩,
       ⟨some 13, .alloc 24 [.s [], .i .i64 0, .s [], .s [], .s [], .b false, .b false], none⟩,
       ⟨none, .store 7 (.t 13) (.t 53), none⟩,
       ⟨some 14, .mv (.t 54), none⟩])
     (.seq (.reg [⟨some 55, .loadn 7 (.t 11), none⟩,
       ⟨some 56, .loadn 7 (.t 13), none⟩,
       ⟨some 57, .eqs true (.str [(0, (none, .ts)), (1, (none, .ti)), (2, (none, .ts)), (3, (none, .ts)), (4, (none, .ts)), (5, (none, .tb)), (6, (none, .tb))]) (.t 55) (.t 56), none⟩,
       ⟨some 58, .mv (.t 57), none⟩,
       ⟨some 59, .mv (.t 12), some (58, false)⟩,
       ⟨some 60, .mv (.t 14), some (58, false)⟩,
       ⟨some 61, .bin .neq (.t 59) (.t 60), some (58, false)⟩,
       ⟨some 62, .pick (.t 58) (.c (.b true)) (.t 61), none⟩])
     (.cond (.t 62)
      (.seq (.reg [⟨some 6, .mv (.c (.b false)), none⟩])
      (.ret))
      (.skip)))))))
    (.reg [⟨some 63, .bin .add (.t 39) (.c (.i .i64 1)), none⟩,
      ⟨some 39, .mv (.t 63), none⟩])))))))
  (.seq (.reg [⟨some 6, .mv (.c (.b true)), none⟩])
  (.ret))))))
theorem is_law07_WeburlRelatives : FnIs Tryz.prog 5 64 [.tmp 6] c_law07_WeburlRelatives := ⟨⟨_, _, Tryz.func5, rfl, rfl, by kernel_rfl, by kernel_rfl⟩⟩
def c_law07_sane : SCode :=
  .seq (.reg [⟨some 0, .mv (.c (.b false)), none⟩])
  (.seq (.reg [⟨some 8, .call 7 [.c (.s [72, 84, 84, 80, 83, 58, 47, 47, 69, 120, 97, 109, 112, 108, 101, 46, 99, 111, 109, 58, 52, 52, 51, 47, 97, 47, 46, 47, 37, 55, 101, 98, 63, 120, 35, 121])], none⟩,
    ⟨some 7, .mv (.t 8), none⟩,
    ⟨some 9, .ext (.t 7) 0, none⟩,
    ⟨some 10, .ext (.t 7) 1, none⟩,
    ⟨some 1, .alloc 24 [.s [], .i .i64 0, .s [], .s [], .s [], .b false, .b false], none⟩,
    ⟨none, .store 7 (.t 1) (.t 9), none⟩,
    ⟨some 2, .mv (.t 10), none⟩])
  (.seq (.reg [⟨some 12, .build [.s [], .i .i64 0, .s [], .s [], .s [], .b false, .b false] [(0, (1, .c (.s [97]))), (2, (1, .c (.s [47, 98, 47, 99])))], none⟩,
    ⟨some 13, .call 18 [.t 12, .c (.s [46, 46, 47, 100])], none⟩,
    ⟨some 11, .mv (.t 13), none⟩,
    ⟨some 14, .ext (.t 11) 0, none⟩,
    ⟨some 15, .ext (.t 11) 1, none⟩,
    ⟨some 3, .alloc 24 [.s [], .i .i64 0, .s [], .s [], .s [], .b false, .b false], none⟩,
    ⟨none, .store 7 (.t 3) (.t 14), none⟩,
    ⟨some 4, .mv (.t 15), none⟩])
  (.seq (.reg [⟨some 17, .loadn 7 (.t 3), none⟩,
    ⟨some 18, .call 18 [.t 17, .c (.s [104, 116, 116, 112, 58, 47, 47, 97, 47])], none⟩,
    ⟨some 16, .mv (.t 18), none⟩,
    ⟨some 19, .ext (.t 16) 0, none⟩,
    ⟨some 20, .ext (.t 16) 1, none⟩,
    ⟨some 5, .alloc 24 [.s [], .i .i64 0, .s [], .s [], .s [], .b false, .b false], none⟩,
    ⟨none, .store 7 (.t 5) (.t 19), none⟩,
    ⟨some 6, .mv (.t 20), none⟩])
  (.seq (.reg [⟨some 21, .mv (.t 2), none⟩,
    ⟨some 22, .bin .eql (.t 21) (.c (.i .i64 0)), none⟩,
    ⟨some 23, .mv (.t 22), none⟩,
    ⟨some 24, .fad 0 (.t 1), some (23, true)⟩,
    ⟨some 25, .load1 (.t 24), some (23, true)⟩,
    ⟨some 26, .bin .eql (.t 25) (.c (.s [101, 120, 97, 109, 112, 108, 101, 46, 99, 111, 109])), some (23, true)⟩,
    ⟨some 27, .pick (.t 23) (.t 26) (.c (.b false)), none⟩,
    ⟨some 28, .mv (.t 27), none⟩,
    ⟨some 29, .fad 1 (.t 1), some (28, true)⟩,
    ⟨some 30, .load1 (.t 29), some (28, true)⟩,
    ⟨some 31, .bin .eql (.t 30) (.c (.i .i64 0)), some (28, true)⟩,
    ⟨some 32, .pick (.t 28) (.t 31) (.c (.b false)), none⟩,
    ⟨some 33, .mv (.t 32), none⟩,
    ⟨some 34, .fad 2 (.t 1), some (33, true)⟩,
    ⟨some 35, .load1 (.t 34), some (33, true)⟩,
    ⟨some 36, .bin .eql (.t 35) (.c (.s [47, 97, 47, 126, 98])), some (33, true)⟩,
    ⟨some 37, .pick (.t 33) (.t 36) (.c (.b false)), none⟩,
    ⟨some 38, .mv (.t 37), none⟩,
    ⟨some 39, .fad 3 (.t 1), some (38, true)⟩,
    ⟨some 40, .load1 (.t 39), some (38, true)⟩,
    ⟨some 41, .bin .eql (.t 40) (.c (.s [120])), some (38, true)⟩,
    ⟨some 42, .pick (.t 38) (.t 41) (.c (.b false)), none⟩,
    ⟨some 43, .mv (.t 42), none⟩,
    ⟨some 44, .mv (.t 4), some (43, true)⟩,
    ⟨some 45, .bin .eql (.t 44) (.c (.i .i64 0)), some (43, true)⟩,
    ⟨some 46, .pick (.t 43) (.t 45) (.c (.b false)), none⟩,
    ⟨some 47, .mv (.t 46), none⟩,
    ⟨some 48, .loadn 7 (.t 3), some (47, true)⟩,
    ⟨some 49, .call 10 [.t 48], some (47, true)⟩,
    ⟨some 50, .bin .eql (.t 49) (.c (.s [104, 116, 116, 112, 115, 58, 47, 47, 97, 47, 100])), some (47, true)⟩,
    ⟨some 51, .pick (.t 47) (.t 50) (.c (.b false)), none⟩,
    ⟨some 52, .mv (.t 51), none⟩,
    ⟨some 53, .mv (.t 6), some (52, true)⟩,
    ⟨some 54, .bin .eql (.t 53) (.c (.i .i64 253)), some (52, true)⟩,
    ⟨some 55, .pick (.t 52) (.t 54) (.c (.b false)), none⟩,
    ⟨some 0, .mv (.t 55), none⟩])
  (.ret)))))
theorem is_law07_sane : FnIs Tryz.prog 6 56 [.tmp 0] c_law07_sane := ⟨⟨_, _, Tryz.func6, rfl, rfl, by kernel_rfl, by kernel_rfl⟩⟩
def c_weburl_Parse : SCode :=
  .seq (.reg [⟨some 2, .alloc 24 [.s [], .i .i64 0, .s [], .s [], .s [], .b false, .b false], none⟩,
    ⟨some 3, .mv (.c (.i .i64 0)), none⟩])
  (.seq (.seq (.reg [⟨some 8, .mv (.t 0), none⟩,
    ⟨some 9, .lens (.t 8), none⟩,
    ⟨some 10, .bin .gtr (.t 9) (.c (.i .i64 4096)), none⟩])
  (.cond (.t 10)
   (.seq (.reg [⟨some 11, .build [.s [], .i .i64 0, .s [], .s [], .s [], .b false, .b false] [], none⟩,
     ⟨none, .store 7 (.t 2) (.t 11), none⟩,
     ⟨some 3, .mv (.c (.i .i64 5)), none⟩])
   (.ret))
   (.skip)))
  (.seq (.reg [⟨some 13, .mv (.t 0), none⟩,
    ⟨some 14, .call 20 [.t 13], none⟩,
    ⟨some 12, .mv (.t 14), none⟩,
    ⟨some 15, .ext (.t 12) 0, none⟩,
    ⟨some 16, .ext (.t 12) 1, none⟩,
    ⟨some 4, .alloc 38 [.s [], .s [], .s [], .s [], .s [], .b false, .b false, .b false, .b false], none⟩,
    ⟨none, .store 9 (.t 4) (.t 15), none⟩,
    ⟨some 5, .mv (.t 16), none⟩])
  (.seq (.seq (.reg [⟨some 17, .mv (.t 5), none⟩,
    ⟨some 18, .bin .neq (.t 17) (.c (.i .i64 0)), none⟩])
  (.cond (.t 18)
   (.seq (.reg [⟨some 19, .build [.s [], .i .i64 0, .s [], .s [], .s [], .b false, .b false] [], none⟩,
     ⟨some 20, .mv (.t 5), none⟩,
     ⟨none, .store 7 (.t 2) (.t 19), none⟩,
     ⟨some 3, .mv (.t 20), none⟩])
   (.ret))
   (.skip)))
  (.seq (.reg [⟨some 22, .loadn 9 (.t 4), none⟩,
    ⟨some 23, .call 21 [.t 22], none⟩,
    ⟨some 21, .mv (.t 23), none⟩,
    ⟨some 24, .ext (.t 21) 0, none⟩,
    ⟨some 25, .ext (.t 21) 1, none⟩,
    ⟨some 6, .alloc 32 [.s [], .i .i64 0], none⟩,
    ⟨none, .store 2 (.t 6) (.t 24), none⟩,
    ⟨some 5, .mv (.t 25), none⟩])
  (.seq (.seq (.reg [⟨some 26, .mv (.t 5), none⟩,
    ⟨some 27, .bin .neq (.t 26) (.c (.i .i64 0)), none⟩])
  (.cond (.t 27)
   (.seq (.reg [⟨some 28, .build [.s [], .i .i64 0, .s [], .s [], .s [], .b false, .b false] [], none⟩,
     ⟨some 29, .mv (.t 5), none⟩,
     ⟨none, .store 7 (.t 2) (.t 28), none⟩,
     ⟨some 3, .mv (.t 29), none⟩])
   (.ret))
   (.skip)))
  (.seq (.reg [⟨some 31, .loadn 9 (.t 4), none⟩,
    ⟨some 32, .call 22 [.t 31], none⟩,
    ⟨some 30, .mv (.t 32), none⟩,
    ⟨some 33, .ext (.t 30) 0, none⟩,
    ⟨some 34, .ext (.t 30) 1, none⟩,
    ⟨some 7, .alloc 24 [.s [], .i .i64 0, .s [], .s [], .s [], .b false, .b false], none⟩,
    ⟨none, .store 7 (.t 7) (.t 33), none⟩,
    ⟨some 5, .mv (.t 34), none⟩])
  (.seq (.seq (.reg [⟨some 35, .mv (.t 5), none⟩,
    ⟨some 36, .bin .neq (.t 35) (.c (.i .i64 0)), none⟩])
  (.cond (.t 36)
   (.seq (.reg [⟨some 37, .build [.s [], .i .i64 0, .s [], .s [], .s [], .b false, .b false] [], none⟩,
     ⟨some 38, .mv (.t 5), none⟩,
     ⟨none, .store 7 (.t 2) (.t 37), none⟩,
     ⟨some 3, .mv (.t 38), none⟩])
   (.ret))
   (.skip)))
  (.seq (.drw [⟨some 39, .fad 0 (.t 6), none⟩,
    ⟨some 40, .load1 (.t 39), none⟩,
    ⟨some 41, .fad 1 (.t 6), none⟩,
    ⟨some 42, .load1 (.t 41), none⟩,
    ⟨some 43, .fad 0 (.t 7), none⟩,
    ⟨none, .store 1 (.t 43) (.t 40), none⟩,
    ⟨some 44, .fad 1 (.t 7), none⟩,
    ⟨none, .store 1 (.t 44) (.t 42), none⟩] 8 [(41, 43)])
  (.seq (.seq (.reg [⟨some 45, .loadn 7 (.t 7), none⟩,
    ⟨some 46, .call 10 [.t 45], none⟩,
    ⟨some 47, .lens (.t 46), none⟩,
    ⟨some 48, .bin .gtr (.t 47) (.c (.i .i64 4096)), none⟩])
  (.cond (.t 48)
   (.seq (.reg [⟨some 49, .build [.s [], .i .i64 0, .s [], .s [], .s [], .b false, .b false] [], none⟩,
     ⟨none, .store 7 (.t 2) (.t 49), none⟩,
     ⟨some 3, .mv (.c (.i .i64 5)), none⟩])
   (.ret))
   (.skip)))
  (.seq (.reg [⟨some 50, .loadn 7 (.t 7), none⟩,
    ⟨none, .store 7 (.t 2) (.t 50), none⟩,
    ⟨some 3, .mv (.c (.i .i64 0)), none⟩])
  (.ret)))))))))))
theorem is_weburl_Parse : FnIs Tryz.prog 7 51 [.celln 2 7, .tmp 3] c_weburl_Parse := ⟨⟨_, _, Tryz.func7, rfl, rfl, by kernel_rfl, by kernel_rfl⟩⟩
def c_ref07_Parse : SCode :=
  .seq (.reg [⟨some 2, .alloc 24 [.s [], .i .i64 0, .s [], .s [], .s [], .b false, .b false], none⟩,
    ⟨some 3, .mv (.c (.i .i64 0)), none⟩])
  (.seq (.seq (.reg [⟨some 11, .mv (.t 0), none⟩,
    ⟨some 12, .lens (.t 11), none⟩,
    ⟨some 13, .bin .gtr (.t 12) (.c (.i .i64 4096)), none⟩])
  (.cond (.t 13)
   (.seq (.reg [⟨some 14, .build [.s [], .i .i64 0, .s [], .s [], .s [], .b false, .b false] [], none⟩,
     ⟨none, .store 7 (.t 2) (.t 14), none⟩,
     ⟨some 3, .mv (.c (.i .i64 5)), none⟩])
   (.ret))
   (.skip)))
  (.seq (.reg [⟨some 16, .mv (.t 0), none⟩,
    ⟨some 17, .call 23 [.t 16], none⟩,
    ⟨some 15, .mv (.t 17), none⟩,
    ⟨some 18, .ext (.t 15) 0, none⟩,
    ⟨some 19, .ext (.t 15) 1, none⟩,
    ⟨some 4, .alloc 38 [.s [], .s [], .s [], .s [], .s [], .b false, .b false, .b false, .b false], none⟩,
    ⟨none, .store 9 (.t 4) (.t 18), none⟩,
    ⟨some 5, .mv (.t 19), none⟩])
  (.seq (.seq (.reg [⟨some 20, .mv (.t 5), none⟩,
    ⟨some 21, .bin .neq (.t 20) (.c (.i .i64 0)), none⟩])
  (.cond (.t 21)
   (.seq (.reg [⟨some 22, .build [.s [], .i .i64 0, .s [], .s [], .s [], .b false, .b false] [], none⟩,
     ⟨some 23, .mv (.t 5), none⟩,
     ⟨none, .store 7 (.t 2) (.t 22), none⟩,
     ⟨some 3, .mv (.t 23), none⟩])
   (.ret))
   (.skip)))
  (.seq (.blk 0
   (.seq (.reg [⟨some 25, .fad 5 (.t 4), none⟩,
     ⟨some 26, .load1 (.t 25), none⟩,
     ⟨some 27, .not (.t 26), none⟩,
     ⟨some 28, .mv (.t 27), none⟩,
     ⟨some 29, .fad 0 (.t 4), some (28, false)⟩,
     ⟨some 30, .load1 (.t 29), some (28, false)⟩,
     ⟨some 31, .call 24 [.t 30, .c (.s [104, 116, 116, 112, 115])], some (28, false)⟩,
     ⟨some 32, .not (.t 31), some (28, false)⟩,
     ⟨some 33, .pick (.t 28) (.c (.b true)) (.t 32), none⟩,
     ⟨some 24, .mv (.t 33), none⟩])
   (.cond (.t 24)
    (.seq (.reg [⟨some 34, .build [.s [], .i .i64 0, .s [], .s [], .s [], .b false, .b false] [], none⟩,
      ⟨none, .store 7 (.t 2) (.t 34), none⟩,
      ⟨some 3, .mv (.c (.i .i64 60)), none⟩])
    (.ret))
    (.seq (.reg [⟨some 36, .fad 6 (.t 4), none⟩,
      ⟨some 37, .load1 (.t 36), none⟩,
      ⟨some 38, .not (.t 37), none⟩,
      ⟨some 35, .mv (.t 38), none⟩])
    (.cond (.t 35)
     (.seq (.reg [⟨some 39, .build [.s [], .i .i64 0, .s [], .s [], .s [], .b false, .b false] [], none⟩,
       ⟨none, .store 7 (.t 2) (.t 39), none⟩,
       ⟨some 3, .mv (.c (.i .i64 71)), none⟩])
     (.ret))
     (.seq (.drw [⟨some 41, .fad 1 (.t 4), none⟩,
       ⟨some 42, .load1 (.t 41), none⟩,
       ⟨some 43, .call 25 [.t 42, .c (.s [64])], none⟩,
       ⟨some 44, .fad 1 (.t 4), none⟩,
       ⟨some 45, .load1 (.t 44), none⟩,
       ⟨some 46, .lens (.t 45), none⟩,
       ⟨some 47, .bin .lss (.t 43) (.t 46), none⟩,
       ⟨some 40, .mv (.t 47), none⟩] 8 [])
     (.cond (.t 40)
      (.seq (.reg [⟨some 48, .build [.s [], .i .i64 0, .s [], .s [], .s [], .b false, .b false] [], none⟩,
        ⟨none, .store 7 (.t 2) (.t 48), none⟩,
        ⟨some 3, .mv (.c (.i .i64 70)), none⟩])
      (.ret))
      (.skip))))))))
  (.seq (.reg [⟨some 50, .fad 1 (.t 4), none⟩,
    ⟨some 51, .load1 (.t 50), none⟩,
    ⟨some 52, .call 26 [.t 51], none⟩,
    ⟨some 49, .mv (.t 52), none⟩,
    ⟨some 53, .ext (.t 49) 0, none⟩,
    ⟨some 54, .ext (.t 49) 1, none⟩,
    ⟨some 6, .alloc 32 [.s [], .i .i64 0], none⟩,
    ⟨none, .store 2 (.t 6) (.t 53), none⟩,
    ⟨some 5, .mv (.t 54), none⟩])
  (.seq (.seq (.reg [⟨some 55, .mv (.t 5), none⟩,
    ⟨some 56, .bin .neq (.t 55) (.c (.i .i64 0)), none⟩])
  (.cond (.t 56)
   (.seq (.reg [⟨some 57, .build [.s [], .i .i64 0, .s [], .s [], .s [], .b false, .b false] [], none⟩,
     ⟨some 58, .mv (.t 5), none⟩,
     ⟨none, .store 7 (.t 2) (.t 57), none⟩,
     ⟨some 3, .mv (.t 58), none⟩])
   (.ret))
   (.skip)))
  (.seq (.reg [⟨some 60, .fad 2 (.t 4), none⟩,
    ⟨some 61, .load1 (.t 60), none⟩,
    ⟨some 62, .call 27 [.t 61, .c (.s [33, 36, 38, 39, 40, 41, 42, 43, 44, 59, 61, 58, 64, 47])], none⟩,
    ⟨some 59, .mv (.t 62), none⟩,
    ⟨some 63, .ext (.t 59) 0, none⟩,
    ⟨some 64, .ext (.t 59) 1, none⟩,
    ⟨some 7, .mv (.t 63), none⟩,
    ⟨some 5, .mv (.t 64), none⟩])
  (.seq (.seq (.reg [⟨some 65, .mv (.t 5), none⟩,
    ⟨some 66, .bin .neq (.t 65) (.c (.i .i64 0)), none⟩])
  (.cond (.t 66)
   (.seq (.reg [⟨some 67, .build [.s [], .i .i64 0, .s [], .s [], .s [], .b false, .b false] [], none⟩,
     ⟨some 68, .mv (.t 5), none⟩,
     ⟨none, .store 7 (.t 2) (.t 67), none⟩,
     ⟨some 3, .mv (.t 68), none⟩])
   (.ret))
   (.skip)))
  (.seq (.reg [⟨some 70, .fad 3 (.t 4), none⟩,
    ⟨some 71, .load1 (.t 70), none⟩,
    ⟨some 72, .call 27 [.t 71, .c (.s [33, 36, 38, 39, 40, 41, 42, 43, 44, 59, 61, 58, 64, 47, 63])], none⟩,
    ⟨some 69, .mv (.t 72), none⟩,
    ⟨some 73, .ext (.t 69) 0, none⟩,
    ⟨some 74, .ext (.t 69) 1, none⟩,
    ⟨some 8, .mv (.t 73), none⟩,
    ⟨some 5, .mv (.t 74), none⟩])
  (.seq (.seq (.reg [⟨some 75, .mv (.t 5), none⟩,
    ⟨some 76, .bin .neq (.t 75) (.c (.i .i64 0)), none⟩])
  (.cond (.t 76)
   (.seq (.reg [⟨some 77, .build [.s [], .i .i64 0, .s [], .s [], .s [], .b false, .b false] [], none⟩,
     ⟨some 78, .mv (.t 5), none⟩,
     ⟨none, .store 7 (.t 2) (.t 77), none⟩,
     ⟨some 3, .mv (.t 78), none⟩])
   (.ret))
   (.skip)))
  (.seq (.reg [⟨some 80, .fad 4 (.t 4), none⟩,
    ⟨some 81, .load1 (.t 80), none⟩,
    ⟨some 82, .call 27 [.t 81, .c (.s [33, 36, 38, 39, 40, 41, 42, 43, 44, 59, 61, 58, 64, 47, 63])], none⟩,
    ⟨some 79, .mv (.t 82), none⟩,
    ⟨some 83, .ext (.t 79) 0, none⟩,
    ⟨some 84, .ext (.t 79) 1, none⟩,
    ⟨some 9, .mv (.t 83), none⟩,
    ⟨some 5, .mv (.t 84), none⟩])
  (.seq (.seq (.reg [⟨some 85, .mv (.t 5), none⟩,
    ⟨some 86, .bin .neq (.t 85) (.c (.i .i64 0)), none⟩])
  (.cond (.t 86)
   (.seq (.reg [⟨some 87, .build [.s [], .i .i64 0, .s [], .s [], .s [], .b false, .b false] [], none⟩,
     ⟨some 88, .mv (.t 5), none⟩,
     ⟨none, .store 7 (.t 2) (.t 87), none⟩,
     ⟨some 3, .mv (.t 88), none⟩])
   (.ret))
   (.skip)))
  (.seq (.seq (.reg [⟨some 89, .mv (.t 7), none⟩,
    ⟨some 90, .call 28 [.t 89], none⟩,
    ⟨some 7, .mv (.t 90), none⟩])
  (.seq (.reg [⟨some 91, .mv (.t 7), none⟩,
    ⟨some 92, .bin .eql (.t 91) (.c (.s [])), none⟩])
  (.cond (.t 92)
   (.reg [⟨some 7, .mv (.c (.s [47])), none⟩])
   (.skip))))
  (.seq (.reg [⟨some 93, .fad 0 (.t 6), none⟩,
    ⟨some 94, .load1 (.t 93), none⟩,
    ⟨some 95, .fad 1 (.t 6), none⟩,
    ⟨some 96, .load1 (.t 95), none⟩,
    ⟨some 97, .mv (.t 7), none⟩,
    ⟨some 98, .mv (.t 8), none⟩,
    ⟨some 99, .mv (.t 9), none⟩,
    ⟨some 100, .fad 7 (.t 4), none⟩,
    ⟨some 101, .load1 (.t 100), none⟩,
    ⟨some 102, .fad 8 (.t 4), none⟩,
    ⟨some 103, .load1 (.t 102), none⟩,
    ⟨some 104, .build [.s [], .i .i64 0, .s [], .s [], .s [], .b false, .b false] [(0, (1, .t 94)), (1, (1, .t 96)), (2, (1, .t 97)), (3, (1, .t 98)), (4, (1, .t 99)), (5, (1, .t 101)), (6, (1, .t 103))], none⟩,
    ⟨some 10, .alloc 24 [.s [], .i .i64 0, .s [], .s [], .s [], .b false, .b false], none⟩,
    ⟨none, .store 7 (.t 10) (.t 104), none⟩])
  (.seq (.seq (.reg [⟨some 105, .loadn 7 (.t 10), none⟩,
    ⟨some 106, .call 11 [.t 105], none⟩,
    ⟨some 107, .lens (.t 106), none⟩,
    ⟨some 108, .bin .gtr (.t 107) (.c (.i .i64 4096)), none⟩])
  (.cond (.t 108)
   (.seq (.reg [⟨some 109, .build [.s [], .i .i64 0, .s [], .s [], .s [], .b false, .b false] [], none⟩,
     ⟨none, .store 7 (.t 2) (.t 109), none⟩,
     ⟨some 3, .mv (.c (.i .i64 5)), none⟩])
   (.ret))
   (.skip)))
  (.seq (.reg [⟨some 110, .loadn 7 (.t 10), none⟩,
    ⟨none, .store 7 (.t 2) (.t 110), none⟩,
    ⟨some 3, .mv (.c (.i .i64 0)), none⟩])
  (.ret)))))))))))))))))
theorem is_ref07_Parse : FnIs Tryz.prog 8 111 [.celln 2 7, .tmp 3] c_ref07_Parse := ⟨⟨_, _, Tryz.func8, rfl, rfl, by kernel_rfl, by kernel_rfl⟩⟩
def c_law07_kept : SCode :=
  .seq (.reg [⟨some 1, .box 24 (.t 0), none⟩,
    ⟨some 2, .mv (.c (.b false)), none⟩])
  (.seq (.reg [⟨some 3, .fad 0 (.t 1), none⟩,
    ⟨some 4, .load1 (.t 3), none⟩,
    ⟨some 5, .lens (.t 4), none⟩,
    ⟨some 6, .fad 2 (.t 1), none⟩,
    ⟨some 7, .load1 (.t 6), none⟩,
    ⟨some 8, .lens (.t 7), none⟩,
    ⟨some 9, .bin .add (.t 5) (.t 8), none⟩,
    ⟨some 10, .fad 3 (.t 1), none⟩,
    ⟨some 11, .load1 (.t 10), none⟩,
    ⟨some 12, .lens (.t 11), none⟩,
    ⟨some 13, .bin .add (.t 9) (.t 12), none⟩,
    ⟨some 14, .fad 4 (.t 1), none⟩,
    ⟨some 15, .load1 (.t 14), none⟩,
    ⟨some 16, .lens (.t 15), none⟩,
    ⟨some 17, .bin .add (.t 13) (.t 16), none⟩,
    ⟨some 18, .bin .leq (.t 17) (.c (.i .i64 1000)), none⟩,
    ⟨some 2, .mv (.t 18), none⟩])
  (.ret))
theorem is_law07_kept : FnIs Tryz.prog 9 19 [.tmp 2] c_law07_kept := ⟨⟨_, _, Tryz.func9, rfl, rfl, by kernel_rfl, by kernel_rfl⟩⟩
def c_weburl_Format : SCode :=
  .seq (.reg [⟨some 1, .box 24 (.t 0), none⟩,
    ⟨some 2, .mv (.c (.s [])), none⟩])
  (.seq (.drw [⟨some 4, .loadn 7 (.t 1), none⟩,
    ⟨some 5, .call 16 [.t 4], none⟩,
    ⟨some 6, .call 29 [.t 5], none⟩,
    ⟨some 7, .bin .add (.c (.s [104, 116, 116, 112, 115, 58, 47, 47])) (.t 6), none⟩,
    ⟨some 8, .loadn 7 (.t 1), none⟩,
    ⟨some 9, .call 14 [.t 8], none⟩,
    ⟨some 10, .bin .add (.t 7) (.t 9), none⟩,
    ⟨some 3, .mv (.t 10), none⟩] 8 [])
  (.seq (.seq (.reg [⟨some 11, .fad 6 (.t 1), none⟩,
    ⟨some 12, .load1 (.t 11), none⟩])
  (.cond (.t 12)
   (.reg [⟨some 13, .mv (.t 3), none⟩,
     ⟨some 14, .fad 4 (.t 1), none⟩,
     ⟨some 15, .load1 (.t 14), none⟩,
     ⟨some 16, .bin .add (.c (.s [35])) (.t 15), none⟩,
     ⟨some 17, .bin .add (.t 13) (.t 16), none⟩,
     ⟨some 3, .mv (.t 17), none⟩])
   (.skip)))
  (.seq (.reg [⟨some 18, .mv (.t 3), none⟩,
    ⟨some 2, .mv (.t 18), none⟩])
  (.ret))))
theorem is_weburl_Format : FnIs Tryz.prog 10 19 [.tmp 2] c_weburl_Format := ⟨⟨_, _, Tryz.func10, rfl, rfl, by kernel_rfl, by kernel_rfl⟩⟩
def c_ref07_Format : SCode :=
  .seq (.reg [⟨some 1, .box 24 (.t 0), none⟩,
    ⟨some 2, .mv (.c (.s [])), none⟩])
  (.seq (.drw [⟨some 4, .loadn 7 (.t 1), none⟩,
    ⟨some 5, .call 17 [.t 4], none⟩,
    ⟨some 6, .call 30 [.t 5], none⟩,
    ⟨some 7, .bin .add (.c (.s [104, 116, 116, 112, 115, 58, 47, 47])) (.t 6), none⟩,
    ⟨some 8, .loadn 7 (.t 1), none⟩,
    ⟨some 9, .call 15 [.t 8], none⟩,
    ⟨some 10, .bin .add (.t 7) (.t 9), none⟩,
    ⟨some 3, .mv (.t 10), none⟩] 8 [])
  (.seq (.seq (.reg [⟨some 11, .fad 6 (.t 1), none⟩,
    ⟨some 12, .load1 (.t 11), none⟩])
  (.cond (.t 12)
   (.reg [⟨some 13, .mv (.t 3), none⟩,
     ⟨some 14, .fad 4 (.t 1), none⟩,
     ⟨some 15, .load1 (.t 14), none⟩,
     ⟨some 16, .bin .add (.c (.s [35])) (.t 15), none⟩,
     ⟨some 17, .bin .add (.t 13) (.t 16), none⟩,
     ⟨some 3, .mv (.t 17), none⟩])
   (.skip)))
  (.seq (.reg [⟨some 18, .mv (.t 3), none⟩,
    ⟨some 2, .mv (.t 18), none⟩])
  (.ret))))
theorem is_ref07_Format : FnIs Tryz.prog 11 19 [.tmp 2] c_ref07_Format := ⟨⟨_, _, Tryz.func11, rfl, rfl, by kernel_rfl, by kernel_rfl⟩⟩
def c_weburl_Valid : SCode :=
  .seq (.reg [⟨some 1, .box 24 (.t 0), none⟩,
    ⟨some 2, .mv (.c (.b false)), none⟩])
  (.seq (.reg [⟨some 6, .loadn 7 (.t 1), none⟩,
    ⟨some 7, .call 10 [.t 6], none⟩,
    ⟨some 8, .call 7 [.t 7], none⟩,
    ⟨some 5, .mv (.t 8), none⟩,
    ⟨some 9, .ext (.t 5) 0, none⟩,
    ⟨some 10, .ext (.t 5) 1, none⟩,
    ⟨some 3, .alloc 24 [.s [], .i .i64 0, .s [], .s [], .s [], .b false, .b false], none⟩,
    ⟨none, .store 7 (.t 3) (.t 9), none⟩,
    ⟨some 4, .mv (.t 10), none⟩])
  (.seq (.reg [⟨some 11, .mv (.t 4), none⟩,
    ⟨some 12, .bin .eql (.t 11) (.c (.i .i64 0)), none⟩,
    ⟨some 13, .mv (.t 12), none⟩,
    ⟨some 14, .loadn 7 (.t 3), some (13, true)⟩,
    ⟨some 15, .loadn 7 (.t 1), some (13, true)⟩,
    ⟨some 16, .eqs false (.str [(0, (none, .ts)), (1, (none, .ti)), (2, (none, .ts)), (3, (none, .ts)), (4, (none, .ts)), (5, (none, .tb)), (6, (none, .tb))]) (.t 14) (.t 15), some (13, true)⟩,
    ⟨some 17, .pick (.t 13) (.t 16) (.c (.b false)), none⟩,
    ⟨some 2, .mv (.t 17), none⟩])
  (.ret)))
theorem is_weburl_Valid : FnIs Tryz.prog 12 18 [.tmp 2] c_weburl_Valid := ⟨⟨_, _, Tryz.func12, rfl, rfl, by kernel_rfl, by kernel_rfl⟩⟩
def c_ref07_Valid : SCode :=
  .seq (.reg [⟨some 1, .box 24 (.t 0), none⟩,
    ⟨some 2, .mv (.c (.b false)), none⟩])
  (.seq (.reg [⟨some 6, .loadn 7 (.t 1), none⟩,
    ⟨some 7, .call 11 [.t 6], none⟩,
    ⟨some 8, .call 8 [.t 7], none⟩,
    ⟨some 5, .mv (.t 8), none⟩,
    ⟨some 9, .ext (.t 5) 0, none⟩,
    ⟨some 10, .ext (.t 5) 1, none⟩,
    ⟨some 3, .alloc 24 [.s [], .i .i64 0, .s [], .s [], .s [], .b false, .b false], none⟩,
    ⟨none, .store 7 (.t 3) (.t 9), none⟩,
    ⟨some 4, .mv (.t 10), none⟩])
  (.seq (.reg [⟨some 11, .mv (.t 4), none⟩,
    ⟨some 12, .bin .eql (.t 11) (.c (.i .i64 0)), none⟩,
    ⟨some 13, .mv (.t 12), none⟩,
    ⟨some 14, .loadn 7 (.t 1), some (13, true)⟩,
    ⟨some 15, .loadn 7 (.t 3), some (13, true)⟩,
    ⟨some 16, .eqs false (.str [(0, (none, .ts)), (1, (none, .ti)), (2, (none, .ts)), (3, (none, .ts)), (4, (none, .ts)), (5, (none, .tb)), (6, (none, .tb))]) (.t 14) (.t 15), some (13, true)⟩,
    ⟨some 17, .pick (.t 13) (.t 16) (.c (.b false)), none⟩,
    ⟨some 2, .mv (.t 17), none⟩])
  (.ret)))
theorem is_ref07_Valid : FnIs Tryz.prog 13 18 [.tmp 2] c_ref07_Valid := ⟨⟨_, _, Tryz.func13, rfl, rfl, by kernel_rfl, by kernel_rfl⟩⟩
def c_weburl_Target : SCode :=
  .seq (.reg [⟨some 1, .box 24 (.t 0), none⟩,
    ⟨some 2, .mv (.c (.s [])), none⟩])
  (.seq (.seq (.reg [⟨some 3, .fad 5 (.t 1), none⟩,
    ⟨some 4, .load1 (.t 3), none⟩,
    ⟨some 5, .not (.t 4), none⟩])
  (.cond (.t 5)
   (.seq (.reg [⟨some 6, .fad 2 (.t 1), none⟩,
     ⟨some 7, .load1 (.t 6), none⟩,
     ⟨some 2, .mv (.t 7), none⟩])
   (.ret))
   (.skip)))
  (.seq (.reg [⟨some 8, .fad 2 (.t 1), none⟩,
    ⟨some 9, .load1 (.t 8), none⟩,
    ⟨some 10, .bin .add (.t 9) (.c (.s [63])), none⟩,
    ⟨some 11, .fad 3 (.t 1), none⟩,
    ⟨some 12, .load1 (.t 11), none⟩,
    ⟨some 13, .bin .add (.t 10) (.t 12), none⟩,
    ⟨some 2, .mv (.t 13), none⟩])
  (.ret)))
theorem is_weburl_Target : FnIs Tryz.prog 14 14 [.tmp 2] c_weburl_Target := ⟨⟨_, _, Tryz.func14, rfl, rfl, by kernel_rfl, by kernel_rfl⟩⟩
def c_ref07_Target : SCode :=
  .seq (.reg [⟨some 1, .box 24 (.t 0), none⟩,
    ⟨some 2, .mv (.c (.s [])), none⟩])
  (.seq (.seq (.reg [⟨some 3, .fad 5 (.t 1), none⟩,
    ⟨some 4, .load1 (.t 3), none⟩])
  (.cond (.t 4)
   (.seq (.reg [⟨some 5, .fad 2 (.t 1), none⟩,
     ⟨some 6, .load1 (.t 5), none⟩,
     ⟨some 7, .bin .add (.t 6) (.c (.s [63])), none⟩,
     ⟨some 8, .fad 3 (.t 1), none⟩,
     ⟨some 9, .load1 (.t 8), none⟩,
     ⟨some 10, .bin .add (.t 7) (.t 9), none⟩,
     ⟨some 2, .mv (.t 10), none⟩])
   (.ret))
   (.skip)))
  (.seq (.reg [⟨some 11, .fad 2 (.t 1), none⟩,
    ⟨some 12, .load1 (.t 11), none⟩,
    ⟨some 2, .mv (.t 12), none⟩])
  (.ret)))
theorem is_ref07_Target : FnIs Tryz.prog 15 13 [.tmp 2] c_ref07_Target := ⟨⟨_, _, Tryz.func15, rfl, rfl, by kernel_rfl, by kernel_rfl⟩⟩
def c_weburl_Origin : SCode :=
  .seq (.reg [⟨some 1, .box 24 (.t 0), none⟩,
    ⟨some 2, .alloc 32 [.s [], .i .i64 0], none⟩])
  (.seq (.reg [⟨some 3, .fad 0 (.t 1), none⟩,
    ⟨some 4, .load1 (.t 3), none⟩,
    ⟨some 5, .fad 1 (.t 1), none⟩,
    ⟨some 6, .load1 (.t 5), none⟩,
    ⟨some 7, .build [.s [], .i .i64 0] [(0, (1, .t 4)), (1, (1, .t 6))], none⟩,
    ⟨none, .store 2 (.t 2) (.t 7), none⟩])
  (.ret))
theorem is_weburl_Origin : FnIs Tryz.prog 16 8 [.celln 2 2] c_weburl_Origin := ⟨⟨_, _, Tryz.func16, rfl, rfl, by kernel_rfl, by kernel_rfl⟩⟩
def c_ref07_Origin : SCode :=
  .seq (.reg [⟨some 1, .box 24 (.t 0), none⟩,
    ⟨some 2, .alloc 32 [.s [], .i .i64 0], none⟩])
  (.seq (.reg [⟨some 3, .fad 0 (.t 1), none⟩,
    ⟨some 4, .load1 (.t 3), none⟩,
    ⟨some 5, .fad 1 (.t 1), none⟩,
    ⟨some 6, .load1 (.t 5), none⟩,
    ⟨some 7, .build [.s [], .i .i64 0] [(0, (1, .t 4)), (1, (1, .t 6))], none⟩,
    ⟨none, .store 2 (.t 2) (.t 7), none⟩])
  (.ret))
theorem is_ref07_Origin : FnIs Tryz.prog 17 8 [.celln 2 2] c_ref07_Origin := ⟨⟨_, _, Tryz.func17, rfl, rfl, by kernel_rfl, by kernel_rfl⟩⟩
def c_weburl_Relative : SCode :=
  .seq (.reg [⟨some 2, .box 24 (.t 0), none⟩,
    ⟨some 4, .alloc 24 [.s [], .i .i64 0, .s [], .s [], .s [], .b false, .b false], none⟩,
    ⟨some 5, .mv (.c (.i .i64 0)), none⟩])
  (.seq (.seq (.reg [⟨some 10, .loadn 7 (.t 2), none⟩,
    ⟨some 11, .call 12 [.t 10], none⟩,
    ⟨some 12, .not (.t 11), none⟩])
  (.cond (.t 12)
   (.seq (.reg [⟨some 13, .build [.s [], .i .i64 0, .s [], .s [], .s [], .b false, .b false] [], none⟩,
     ⟨none, .store 7 (.t 4) (.t 13), none⟩,
     ⟨some 5, .mv (.c (.i .i64 8)), none⟩])
   (.ret))
   (.skip)))
  (.seq (.reg [⟨some 15, .loadn 7 (.t 2), none⟩,
    ⟨some 16, .call 10 [.t 15], none⟩,
    ⟨some 17, .call 20 [.t 16], none⟩,
    ⟨some 14, .mv (.t 17), none⟩,
    ⟨some 18, .ext (.t 14) 0, none⟩,
    ⟨some 19, .ext (.t 14) 1, none⟩,
    ⟨some 6, .alloc 38 [.s [], .s [], .s [], .s [], .s [], .b false, .b false, .b false, .b false], none⟩,
    ⟨none, .store 9 (.t 6) (.t 18), none⟩,
    ⟨some 7, .mv (.t 19), none⟩])
  (.seq (.seq (.reg [⟨some 20, .mv (.t 7), none⟩,
    ⟨some 21, .bin .neq (.t 20) (.c (.i .i64 0)), none⟩])
  (.cond (.t 21)
   (.seq (.reg [⟨some 22, .build [.s [], .i .i64 0, .s [], .s [], .s [], .b false, .b false] [], none⟩,
     ⟨some 23, .mv (.t 7), none⟩,
     ⟨none, .store 7 (.t 4) (.t 22), none⟩,
     ⟨some 5, .mv (.t 23), none⟩])
   (.ret))
   (.skip)))
  (.seq (.reg [⟨some 25, .mv (.t 1), none⟩,
    ⟨some 26, .call 20 [.t 25], none⟩,
    ⟨some 24, .mv (.t 26), none⟩,
    ⟨some 27, .ext (.t 24) 0, none⟩,
    ⟨some 28, .ext (.t 24) 1, none⟩,
    ⟨some 8, .alloc 38 [.s [], .s [], .s [], .s [], .s [], .b false, .b false, .b false, .b false], none⟩,
    ⟨none, .store 9 (.t 8) (.t 27), none⟩,
    ⟨some 7, .mv (.t 28), none⟩])
  (.seq (.seq (.reg [⟨some 29, .mv (.t 7), none⟩,
    ⟨some 30, .bin .neq (.t 29) (.c (.i .i64 0)), none⟩])
  (.cond (.t 30)
   (.seq (.reg [⟨some 31, .build [.s [], .i .i64 0, .s [], .s [], .s [], .b false, .b false] [], none⟩,
     ⟨some 32, .mv (.t 7), none⟩,
     ⟨none, .store 7 (.t 4) (.t 31), none⟩,
     ⟨some 5, .mv (.t 32), none⟩])
   (.ret))
   (.skip)))
  (.seq (.reg [⟨some 33, .loadn 9 (.t 6), none⟩,
    ⟨some 34, .loadn 9 (.t 8), none⟩,
    ⟨some 35, .call 31 [.t 33, .t 34], none⟩,
    ⟨some 9, .alloc 38 [.s [], .s [], .s [], .s [], .s [], .b false, .b false, .b false, .b false], none⟩,
    ⟨none, .store 9 (.t 9) (.t 35), none⟩])
  (.seq (.seq (.reg [⟨some 36, .fad 0 (.t 9), none⟩,
    ⟨some 37, .load1 (.t 36), none⟩,
    ⟨some 38, .call 32 [.t 37, .c (.s [104, 116, 116, 112, 115])], none⟩,
    ⟨some 39, .not (.t 38), none⟩])
  (.cond (.t 39)
   (.seq (.reg [⟨some 40, .build [.s [], .i .i64 0, .s [], .s [], .s [], .b false, .b false] [], none⟩,
     ⟨none, .store 7 (.t 4) (.t 40), none⟩,
     ⟨some 5, .mv (.c (.i .i64 253)), none⟩])
   (.ret))
   (.skip)))
  (.seq (.reg [⟨some 41, .loadn 9 (.t 9), none⟩,
    ⟨some 42, .call 33 [.t 41], none⟩,
    ⟨some 43, .call 7 [.t 42], none⟩,
    ⟨some 44, .ext (.t 43) 0, none⟩,
    ⟨some 45, .ext (.t 43) 1, none⟩,
    ⟨none, .store 7 (.t 4) (.t 44), none⟩,
    ⟨some 5, .mv (.t 45), none⟩])
  (.ret)))))))))
theorem is_weburl_Relative : FnIs Tryz.prog 18 46 [.celln 4 7, .tmp 5] c_weburl_Relative := ⟨⟨_, _, Tryz.func18, rfl, rfl, by kernel_rfl, by kernel_rfl⟩⟩
def c_ref07_Relative : SCode :=
  .seq (.reg [⟨some 2, .box 24 (.t 0), none⟩,
    ⟨some 4, .alloc 24 [.s [], .i .i64 0, .s [], .s [], .s [], .b false, .b false], none⟩,
    ⟨some 5, .mv (.c (.i .i64 0)), none⟩])
  (.seq (.seq (.reg [⟨some 11, .loadn 7 (.t 2), none⟩,
    ⟨some 12, .call 13 [.t 11], none⟩,
    ⟨some 13, .not (.t 12), none⟩])
  (.cond (.t 13)
   (.seq (.reg [⟨some 14, .build [.s [], .i .i64 0, .s [], .s [], .s [], .b false, .b false] [], none⟩,
     ⟨none, .store 7 (.t 4) (.t 14), none⟩,
     ⟨some 5, .mv (.c (.i .i64 8)), none⟩])
   (.ret))
   (.skip)))
  (.seq (.reg [⟨some 16, .loadn 7 (.t 2), none⟩,
    ⟨some 17, .call 11 [.t 16], none⟩,
    ⟨some 18, .call 23 [.t 17], none⟩,
    ⟨some 15, .mv (.t 18), none⟩,
    ⟨some 19, .ext (.t 15) 0, none⟩,
    ⟨some 20, .ext (.t 15) 1, none⟩,
    ⟨some 6, .alloc 38 [.s [], .s [], .s [], .s [], .s [], .b false, .b false, .b false, .b false], none⟩,
    ⟨none, .store 9 (.t 6) (.t 19), none⟩,
    ⟨some 7, .mv (.t 20), none⟩])
  (.seq (.reg [⟨some 22, .mv (.t 1), none⟩,
    ⟨some 23, .call 23 [.t 22], none⟩,
    ⟨some 21, .mv (.t 23), none⟩,
    ⟨some 24, .ext (.t 21) 0, none⟩,
    ⟨some 25, .ext (.t 21) 1, none⟩,
    ⟨some 8, .alloc 38 [.s [], .s [], .s [], .s [], .s [], .b false, .b false, .b false, .b false], none⟩,
    ⟨none, .store 9 (.t 8) (.t 24), none⟩,
    ⟨some 9, .mv (.t 25), none⟩])
  (.seq (.seq (.reg [⟨some 26, .mv (.t 9), none⟩,
    ⟨some 27, .bin .neq (.t 26) (.c (.i .i64 0)), none⟩])
  (.cond (.t 27)
   (.seq (.reg [⟨some 28, .build [.s [], .i .i64 0, .s [], .s [], .s [], .b false, .b false] [], none⟩,
     ⟨some 29, .mv (.t 9), none⟩,
     ⟨none, .store 7 (.t 4) (.t 28), none⟩,
     ⟨some 5, .mv (.t 29), none⟩])
   (.ret))
   (.skip)))
  (.seq (.reg [⟨some 30, .loadn 9 (.t 6), none⟩,
    ⟨some 31, .loadn 9 (.t 8), none⟩,
    ⟨some 32, .call 34 [.t 30, .t 31], none⟩,
    ⟨some 10, .alloc 38 [.s [], .s [], .s [], .s [], .s [], .b false, .b false, .b false, .b false], none⟩,
    ⟨none, .store 9 (.t 10) (.t 32), none⟩])
  (.seq (.seq (.reg [⟨some 33, .fad 0 (.t 10), none⟩,
    ⟨some 34, .load1 (.t 33), none⟩,
    ⟨some 35, .call 24 [.t 34, .c (.s [104, 116, 116, 112, 115])], none⟩,
    ⟨some 36, .not (.t 35), none⟩])
  (.cond (.t 36)
   (.seq (.reg [⟨some 37, .build [.s [], .i .i64 0, .s [], .s [], .s [], .b false, .b false] [], none⟩,
     ⟨none, .store 7 (.t 4) (.t 37), none⟩,
     ⟨some 5, .mv (.c (.i .i64 253)), none⟩])
   (.ret))
   (.skip)))
  (.seq (.reg [⟨some 38, .loadn 9 (.t 10), none⟩,
    ⟨some 39, .call 35 [.t 38], none⟩,
    ⟨some 40, .call 8 [.t 39], none⟩,
    ⟨some 41, .ext (.t 40) 0, none⟩,
    ⟨some 42, .ext (.t 40) 1, none⟩,
    ⟨none, .store 7 (.t 4) (.t 41), none⟩,
    ⟨some 5, .mv (.t 42), none⟩])
  (.ret))))))))
theorem is_ref07_Relative : FnIs Tryz.prog 19 43 [.celln 4 7, .tmp 5] c_ref07_Relative := ⟨⟨_, _, Tryz.func19, rfl, rfl, by kernel_rfl, by kernel_rfl⟩⟩
def c_uri_Split : SCode :=
  .seq (.reg [⟨some 2, .alloc 38 [.s [], .s [], .s [], .s [], .s [], .b false, .b false, .b false, .b false], none⟩,
    ⟨some 3, .mv (.c (.i .i64 0)), none⟩])
  (.seq (.seq (.reg [⟨some 10, .mv (.t 0), none⟩,
    ⟨some 11, .lens (.t 10), none⟩,
    ⟨some 12, .bin .gtr (.t 11) (.c (.i .i64 16384)), none⟩])
  (.cond (.t 12)
   (.seq (.reg [⟨some 13, .build [.s [], .s [], .s [], .s [], .s [], .b false, .b false, .b false, .b false] [], none⟩,
     ⟨none, .store 9 (.t 2) (.t 13), none⟩,
     ⟨some 3, .mv (.c (.i .i64 5)), none⟩])
   (.ret))
   (.skip)))
  (.seq (.reg [⟨some 14, .mv (.t 0), none⟩,
    ⟨some 4, .alloc 9 [.s []], none⟩,
    ⟨none, .store 1 (.t 4) (.t 14), none⟩])
  (.seq (.reg [⟨some 15, .mkf 36 [] [.t 4], none⟩,
    ⟨some 5, .mv (.t 15), none⟩])
  (.seq (.reg [⟨some 6, .alloc 38 [.s [], .s [], .s [], .s [], .s [], .b false, .b false, .b false, .b false], none⟩])
  (.seq (.reg [⟨some 17, .mv (.t 5), none⟩,
    ⟨some 18, .callv (.t 17) [.c (.i .u8 35)], none⟩,
    ⟨some 16, .mv (.t 18), none⟩,
    ⟨some 19, .ext (.t 16) 0, none⟩,
    ⟨some 20, .ext (.t 16) 1, none⟩,
    ⟨some 21, .fad 4 (.t 6), none⟩,
    ⟨none, .store 1 (.t 21) (.t 19), none⟩,
    ⟨some 22, .fad 8 (.t 6), none⟩,
    ⟨none, .store 1 (.t 22) (.t 20), none⟩])
  (.seq (.reg [⟨some 24, .mv (.t 5), none⟩,
    ⟨some 25, .callv (.t 24) [.c (.i .u8 63)], none⟩,
    ⟨some 23, .mv (.t 25), none⟩,
    ⟨some 26, .ext (.t 23) 0, none⟩,
    ⟨some 27, .ext (.t 23) 1, none⟩,
    ⟨some 28, .fad 3 (.t 6), none⟩,
    ⟨none, .store 1 (.t 28) (.t 26), none⟩,
    ⟨some 29, .fad 7 (.t 6), none⟩,
    ⟨none, .store 1 (.t 29) (.t 27), none⟩])
  (.seq (.seq (.reg [⟨some 30, .load1 (.t 4), none⟩,
    ⟨some 31, .call 38 [.t 30], none⟩,
    ⟨some 7, .mv (.t 31), none⟩])
  (.seq (.reg [⟨some 32, .mv (.t 7), none⟩,
    ⟨some 33, .bin .geq (.t 32) (.c (.i .i64 0)), none⟩])
  (.cond (.t 33)
   (.seq (.seq (.reg [⟨some 34, .load1 (.t 4), none⟩,
     ⟨some 35, .mv (.t 7), none⟩,
     ⟨some 36, .slcs (.t 34) none (some (.t 35)), none⟩,
     ⟨some 37, .call 39 [.t 36], none⟩,
     ⟨some 38, .not (.t 37), none⟩])
   (.cond (.t 38)
    (.seq (.reg [⟨some 39, .build [.s [], .s [], .s [], .s [], .s [], .b false, .b false, .b false, .b false] [], none⟩,
      ⟨none, .store 9 (.t 2) (.t 39), none⟩,
      ⟨some 3, .mv (.c (.i .i64 6)), none⟩])
    (.ret))
    (.skip)))
   (.drw [⟨some 40, .load1 (.t 4), none⟩,
     ⟨some 41, .mv (.t 7), none⟩,
     ⟨some 42, .slcs (.t 40) none (some (.t 41)), none⟩,
     ⟨some 43, .load1 (.t 4), none⟩,
     ⟨some 44, .mv (.t 7), none⟩,
     ⟨some 45, .bin .add (.t 44) (.c (.i .i64 1)), none⟩,
     ⟨some 46, .slcs (.t 43) (some (.t 45)) none, none⟩,
     ⟨some 47, .fad 0 (.t 6), none⟩,
     ⟨none, .store 1 (.t 47) (.t 42), none⟩,
     ⟨some 48, .fad 5 (.t 6), none⟩,
     ⟨none, .store 1 (.t 48) (.c (.b true)), none⟩,
     ⟨none, .store 1 (.t 4) (.t 46), none⟩] 12 [(4, 47), (4, 48)]))
   (.skip))))
  (.seq (.seq (.reg [⟨some 50, .load1 (.t 4), none⟩,
    ⟨some 51, .call 40 [.t 50, .c (.s [47, 47])], none⟩,
    ⟨some 49, .mv (.t 51), none⟩,
    ⟨some 52, .ext (.t 49) 0, none⟩,
    ⟨some 53, .ext (.t 49) 1, none⟩,
    ⟨some 8, .mv (.t 52), none⟩,
    ⟨some 9, .mv (.t 53), none⟩])
  (.seq (.reg [⟨some 54, .mv (.t 9), none⟩])
  (.cond (.t 54)
   (.seq (.reg [⟨some 55, .mv (.t 8), none⟩,
     ⟨some 56, .call 41 [.t 55], none⟩,
     ⟨some 57, .fad 1 (.t 6), none⟩,
     ⟨none, .store 1 (.t 57) (.t 56), none⟩,
     ⟨some 58, .fad 6 (.t 6), none⟩,
     ⟨none, .store 1 (.t 58) (.c (.b true)), none⟩])
   (.reg [⟨some 59, .mv (.t 8), none⟩,
     ⟨some 60, .fad 1 (.t 6), none⟩,
     ⟨some 61, .load1 (.t 60), none⟩,
     ⟨some 62, .lens (.t 61), none⟩,
     ⟨some 63, .slcs (.t 59) (some (.t 62)) none, none⟩,
     ⟨none, .store 1 (.t 4) (.t 63), none⟩]))
   (.skip))))
  (.seq (.reg [⟨some 64, .load1 (.t 4), none⟩,
    ⟨some 65, .fad 2 (.t 6), none⟩,
    ⟨none, .store 1 (.t 65) (.t 64), none⟩])
  (.seq (.reg [⟨some 66, .loadn 9 (.t 6), none⟩,
    ⟨none, .store 9 (.t 2) (.t 66), none⟩,
    ⟨some 3, .mv (.c (.i .i64 0)), none⟩])
  (.ret)))))))))))
theorem is_uri_Split : FnIs Tryz.prog 20 67 [.celln 2 9, .tmp 3] c_uri_Split := ⟨⟨_, _, Tryz.func20, rfl, rfl, by kernel_rfl, by kernel_rfl⟩⟩
def c_weburl_parseOrigin : SCode :=
  .seq (.reg [⟨some 1, .box 38 (.t 0), none⟩,
    ⟨some 2, .alloc 32 [.s [], .i .i64 0], none⟩,
    ⟨some 3, .mv (.c (.i .i64 0)), none⟩])
  (.seq (.blk 0
   (.seq (.reg [⟨some 5, .fad 5 (.t 1), none⟩,
     ⟨some 6, .load1 (.t 5), none⟩,
     ⟨some 7, .not (.t 6), none⟩,
     ⟨some 8, .mv (.t 7), none⟩,
     ⟨some 9, .fad 0 (.t 1), some (8, false)⟩,
     ⟨some 10, .load1 (.t 9), some (8, false)⟩,
     ⟨some 11, .call 32 [.t 10, .c (.s [104, 116, 116, 112, 115])], some (8, false)⟩,
     ⟨some 12, .not (.t 11), some (8, false)⟩,
     ⟨some 13, .pick (.t 8) (.c (.b true)) (.t 12), none⟩,
     ⟨some 4, .mv (.t 13), none⟩])
   (.cond (.t 4)
    (.seq (.reg [⟨some 14, .build [.s [], .i .i64 0] [], none⟩,
      ⟨none, .store 2 (.t 2) (.t 14), none⟩,
      ⟨some 3, .mv (.c (.i .i64 60)), none⟩])
    (.ret))
    (.seq (.reg [⟨some 16, .fad 6 (.t 1), none⟩,
      ⟨some 17, .load1 (.t 16), none⟩,
      ⟨some 18, .not (.t 17), none⟩,
      ⟨some 15, .mv (.t 18), none⟩])
    (.cond (.t 15)
     (.seq (.reg [⟨some 19, .build [.s [], .i .i64 0] [], none⟩,
       ⟨none, .store 2 (.t 2) (.t 19), none⟩,
       ⟨some 3, .mv (.c (.i .i64 71)), none⟩])
     (.ret))
     (.seq (.reg [⟨some 21, .fad 1 (.t 1), none⟩,
       ⟨some 22, .load1 (.t 21), none⟩,
       ⟨some 23, .call 42 [.t 22, .c (.s [64])], none⟩,
       ⟨some 20, .mv (.t 23), none⟩])
     (.cond (.t 20)
      (.seq (.reg [⟨some 24, .build [.s [], .i .i64 0] [], none⟩,
        ⟨none, .store 2 (.t 2) (.t 24), none⟩,
        ⟨some 3, .mv (.c (.i .i64 70)), none⟩])
      (.ret))
      (.skip))))))))
  (.seq (.reg [⟨some 25, .fad 1 (.t 1), none⟩,
    ⟨some 26, .load1 (.t 25), none⟩,
    ⟨some 27, .call 43 [.t 26], none⟩,
    ⟨some 28, .ext (.t 27) 0, none⟩,
    ⟨some 29, .ext (.t 27) 1, none⟩,
    ⟨none, .store 2 (.t 2) (.t 28), none⟩,
    ⟨some 3, .mv (.t 29), none⟩])
  (.ret)))
theorem is_weburl_parseOrigin : FnIs Tryz.prog 21 30 [.celln 2 2, .tmp 3] c_weburl_parseOrigin := ⟨⟨_, _, Tryz.func21, rfl, rfl, by kernel_rfl, by kernel_rfl⟩⟩
def c_weburl_parseRest : SCode :=
  .seq (.reg [⟨some 1, .box 38 (.t 0), none⟩,
    ⟨some 2, .alloc 24 [.s [], .i .i64 0, .s [], .s [], .s [], .b false, .b false], none⟩,
    ⟨some 3, .mv (.c (.i .i64 0)), none⟩])
  (.seq (.reg [⟨some 9, .fad 2 (.t 1), none⟩,
    ⟨some 10, .load1 (.t 9), none⟩,
    ⟨some 11, .call 44 [.t 10, .c (.s [33, 36, 38, 39, 40, 41, 42, 43, 44, 59, 61, 58, 64, 47])], none⟩,
    ⟨some 8, .mv (.t 11), none⟩,
    ⟨some 12, .ext (.t 8) 0, none⟩,
    ⟨some 13, .ext (.t 8) 1, none⟩,
    ⟨some 4, .mv (.t 12), none⟩,
    ⟨some 5, .mv (.t 13), none⟩])
  (.seq (.seq (.reg [⟨some 14, .mv (.t 5), none⟩,
    ⟨some 15, .bin .neq (.t 14) (.c (.i .i64 0)), none⟩])
  (.cond (.t 15)
   (.seq (.reg [⟨some 16, .build [.s [], .i .i64 0, .s [], .s [], .s [], .b false, .b false] [], none⟩,
     ⟨some 17, .mv (.t 5), none⟩,
     ⟨none, .store 7 (.t 2) (.t 16), none⟩,
     ⟨some 3, .mv (.t 17), none⟩])
   (.ret))
   (.skip)))
  (.seq (.seq (.reg [⟨some 18, .mv (.t 4), none⟩,
    ⟨some 19, .call 45 [.t 18], none⟩,
    ⟨some 4, .mv (.t 19), none⟩])
  (.seq (.reg [⟨some 20, .mv (.t 4), none⟩,
    ⟨some 21, .bin .eql (.t 20) (.c (.s [])), none⟩])
  (.cond (.t 21)
   (.reg [⟨some 4, .mv (.c (.s [47])), none⟩])
   (.skip))))
  (.seq (.reg [⟨some 23, .fad 3 (.t 1), none⟩,
    ⟨some 24, .load1 (.t 23), none⟩,
    ⟨some 25, .call 44 [.t 24, .c (.s [33, 36, 38, 39, 40, 41, 42, 43, 44, 59, 61, 58, 64, 47, 63])], none⟩,
    ⟨some 22, .mv (.t 25), none⟩,
    ⟨some 26, .ext (.t 22) 0, none⟩,
    ⟨some 27, .ext (.t 22) 1, none⟩,
    ⟨some 6, .mv (.t 26), none⟩,
    ⟨some 5, .mv (.t 27), none⟩])
  (.seq (.seq (.reg [⟨some 28, .mv (.t 5), none⟩,
    ⟨some 29, .bin .neq (.t 28) (.c (.i .i64 0)), none⟩])
  (.cond (.t 29)
   (.seq (.reg [⟨some 30, .build [.s [], .i .i64 0, .s [], .s [], .s [], .b false, .b false] [], none⟩,
     ⟨some 31, .mv (.t 5), none⟩,
     ⟨none, .store 7 (.t 2) (.t 30), none⟩,
     ⟨some 3, .mv (.t 31), none⟩])
   (.ret))
   (.skip)))
  (.seq (.reg [⟨some 33, .fad 4 (.t 1), none⟩,
    ⟨some 34, .load1 (.t 33), none⟩,
    ⟨some 35, .call 44 [.t 34, .c (.s [33, 36, 38, 39, 40, 41, 42, 43, 44, 59, 61, 58, 64, 47, 63])], none⟩,
    ⟨some 32, .mv (.t 35), none⟩,
    ⟨some 36, .ext (.t 32) 0, none⟩,
    ⟨some 37, .ext (.t 32) 1, none⟩,
    ⟨some 7, .mv (.t 36), none⟩,
    ⟨some 5, .mv (.t 37), none⟩])
  (.seq (.seq (.reg [⟨some 38, .mv (.t 5), none⟩,
    ⟨some 39, .bin .neq (.t 38) (.c (.i .i64 0)), none⟩])
  (.cond (.t 39)
   (.seq (.reg [⟨some 40, .build [.s [], .i .i64 0, .s [], .s [], .s [], .b false, .b false] [], none⟩,
     ⟨some 41, .mv (.t 5), none⟩,
     ⟨none, .store 7 (.t 2) (.t 40), none⟩,
     ⟨some 3, .mv (.t 41), none⟩])
   (.ret))
   (.skip)))
  (.seq (.reg [⟨some 42, .mv (.t 4), none⟩,
    ⟨some 43, .mv (.t 6), none⟩,
    ⟨some 44, .fad 7 (.t 1), none⟩,
    ⟨some 45, .load1 (.t 44), none⟩,
    ⟨some 46, .mv (.t 7), none⟩,
    ⟨some 47, .fad 8 (.t 1), none⟩,
    ⟨some 48, .load1 (.t 47), none⟩,
    ⟨some 49, .build [.s [], .i .i64 0, .s [], .s [], .s [], .b false, .b false] [(2, (1, .t 42)), (3, (1, .t 43)), (5, (1, .t 45)), (4, (1, .t 46)), (6, (1, .t 48))], none⟩,
    ⟨none, .store 7 (.t 2) (.t 49), none⟩,
    ⟨some 3, .mv (.c (.i .i64 0)), none⟩])
  (.ret)))))))))
theorem is_weburl_parseRest : FnIs Tryz.prog 22 50 [.celln 2 7, .tmp 3] c_weburl_parseRest := ⟨⟨_, _, Tryz.func22, rfl, rfl, by kernel_rfl, by kernel_rfl⟩⟩
def c_ref06_Split : SCode :=
  .seq (.reg [⟨some 2, .alloc 38 [.s [], .s [], .s [], .s [], .s [], .b false, .b false, .b false, .b false], none⟩,
    ⟨some 3, .mv (.c (.i .i64 0)), none⟩])
  (.seq (.seq (.reg [⟨some 9, .mv (.t 0), none⟩,
    ⟨some 10, .lens (.t 9), none⟩,
    ⟨some 11, .bin .gtr (.t 10) (.c (.i .i64 16384)), none⟩])
  (.cond (.t 11)
   (.seq (.reg [⟨some 12, .build [.s [], .s [], .s [], .s [], .s [], .b false, .b false, .b false, .b false] [], none⟩,
     ⟨none, .store 9 (.t 2) (.t 12), none⟩,
     ⟨some 3, .mv (.c (.i .i64 5)), none⟩])
   (.ret))
   (.skip)))
  (.seq (.reg [⟨some 4, .alloc 38 [.s [], .s [], .s [], .s [], .s [], .b false, .b false, .b false, .b false], none⟩])
  (.seq (.seq (.reg [⟨some 13, .mv (.t 0), none⟩,
    ⟨some 14, .call 25 [.t 13, .c (.s [35])], none⟩,
    ⟨some 5, .mv (.t 14), none⟩])
  (.seq (.reg [⟨some 15, .mv (.t 5), none⟩,
    ⟨some 16, .mv (.t 0), none⟩,
    ⟨some 17, .lens (.t 16), none⟩,
    ⟨some 18, .bin .lss (.t 15) (.t 17), none⟩])
  (.cond (.t 18)
   (.drw [⟨some 19, .mv (.t 0), none⟩,
     ⟨some 20, .mv (.t 5), none⟩,
     ⟨some 21, .bin .add (.t 20) (.c (.i .i64 1)), none⟩,
     ⟨some 22, .slcs (.t 19) (some (.t 21)) none, none⟩,
     ⟨some 23, .mv (.t 0), none⟩,
     ⟨some 24, .mv (.t 5), none⟩,
     ⟨some 25, .slcs (.t 23) none (some (.t 24)), none⟩,
     ⟨some 26, .fad 4 (.t 4), none⟩,
     ⟨none, .store 1 (.t 26) (.t 22), none⟩,
     ⟨some 27, .fad 8 (.t 4), none⟩,
     ⟨none, .store 1 (.t 27) (.c (.b true)), none⟩,
     ⟨some 0, .mv (.t 25), none⟩] 12 [])
   (.skip))))
  (.seq (.seq (.reg [⟨some 28, .mv (.t 0), none⟩,
    ⟨some 29, .call 25 [.t 28, .c (.s [63])], none⟩,
    ⟨some 6, .mv (.t 29), none⟩])
  (.seq (.reg [⟨some 30, .mv (.t 6), none⟩,
    ⟨some 31, .mv (.t 0), none⟩,
    ⟨some 32, .lens (.t 31), none⟩,
    ⟨some 33, .bin .lss (.t 30) (.t 32), none⟩])
  (.cond (.t 33)
   (.drw [⟨some 34, .mv (.t 0), none⟩,
     ⟨some 35, .mv (.t 6), none⟩,
     ⟨some 36, .bin .add (.t 35) (.c (.i .i64 1)), none⟩,
     ⟨some 37, .slcs (.t 34) (some (.t 36)) none, none⟩,
     ⟨some 38, .mv (.t 0), none⟩,
     ⟨some 39, .mv (.t 6), none⟩,
     ⟨some 40, .slcs (.t 38) none (some (.t 39)), none⟩,
     ⟨some 41, .fad 3 (.t 4), none⟩,
     ⟨none, .store 1 (.t 41) (.t 37), none⟩,
     ⟨some 42, .fad 7 (.t 4), none⟩,
     ⟨none, .store 1 (.t 42) (.c (.b true)), none⟩,
     ⟨some 0, .mv (.t 40), none⟩] 12 [])
   (.skip))))
  (.seq (.seq (.reg [⟨some 43, .mv (.t 0), none⟩,
    ⟨some 44, .call 25 [.t 43, .c (.s [58, 47])], none⟩,
    ⟨some 7, .mv (.t 44), none⟩])
  (.seq (.reg [⟨some 45, .mv (.t 7), none⟩,
    ⟨some 46, .mv (.t 0), none⟩,
    ⟨some 47, .lens (.t 46), none⟩,
    ⟨some 48, .bin .lss (.t 45) (.t 47), none⟩,
    ⟨some 49, .mv (.t 48), none⟩,
    ⟨some 50, .mv (.t 0), some (49, true)⟩,
    ⟨some 51, .mv (.t 7), some (49, true)⟩,
    ⟨some 52, .idx (.t 50) (.t 51), some (49, true)⟩,
    ⟨some 53, .bin .eql (.t 52) (.c (.i .u8 58)), some (49, true)⟩,
    ⟨some 54, .pick (.t 49) (.t 53) (.c (.b false)), none⟩])
  (.cond (.t 54)
   (.seq (.seq (.reg [⟨some 55, .mv (.t 0), none⟩,
     ⟨some 56, .mv (.t 7), none⟩,
     ⟨some 57, .slcs (.t 55) none (some (.t 56)), none⟩,
     ⟨some 58, .call 46 [.t 57], none⟩,
     ⟨some 59, .not (.t 58), none⟩])
   (.cond (.t 59)
    (.seq (.reg [⟨some 60, .build [.s [], .s [], .s [], .s [], .s [], .b false, .b false, .b false, .b false] [], none⟩,
      ⟨none, .store 9 (.t 2) (.t 60), none⟩,
      ⟨some 3, .mv (.c (.i .i64 6)), none⟩])
    (.ret))
    (.skip)))
   (.drw [⟨some 61, .mv (.t 0), none⟩,
     ⟨some 62, .mv (.t 7), none⟩,
     ⟨some 63, .slcs (.t 61) none (some (.t 62)), none⟩,
     ⟨some 64, .mv (.t 0), none⟩,
     ⟨some 65, .mv (.t 7), none⟩,
     ⟨some 66, .bin .add (.t 65) (.c (.i .i64 1)), none⟩,
     ⟨some 67, .slcs (.t 64) (some (.t 66)) none, none⟩,
     ⟨some 68, .fad 0 (.t 4), none⟩,
     ⟨none, .store 1 (.t 68) (.t 63), none⟩,
     ⟨some 69, .fad 5 (.t 4), none⟩,
     ⟨none, .store 1 (.t 69) (.c (.b true)), none⟩,
     ⟨some 0, .mv (.t 67), none⟩] 12 []))
   (.skip))))
  (.seq (.seq (.reg [⟨some 70, .mv (.t 0), none⟩,
    ⟨some 71, .call 47 [.t 70, .c (.s [47, 47])], none⟩])
  (.cond (.t 71)
   (.seq (.reg [⟨some 72, .mv (.t 0), none⟩,
     ⟨some 73, .slcs (.t 72) (some (.c (.i .i64 2))) none, none⟩,
     ⟨some 74, .call 25 [.t 73, .c (.s [47])], none⟩,
     ⟨some 75, .bin .add (.c (.i .i64 2)) (.t 74), none⟩,
     ⟨some 8, .mv (.t 75), none⟩])
   (.drw [⟨some 76, .mv (.t 0), none⟩,
     ⟨some 77, .mv (.t 8), none⟩,
     ⟨some 78, .slcs (.t 76) (some (.c (.i .i64 2))) (some (.t 77)), none⟩,
     ⟨some 79, .mv (.t 0), none⟩,
     ⟨some 80, .mv (.t 8), none⟩,
     ⟨some 81, .slcs (.t 79) (some (.t 80)) none, none⟩,
     ⟨some 82, .fad 1 (.t 4), none⟩,
     ⟨none, .store 1 (.t 82) (.t 78), none⟩,
     ⟨some 83, .fad 6 (.t 4), none⟩,
     ⟨none, .store 1 (.t 83) (.c (.b true)), none⟩,
     ⟨some 0, .mv (.t 81), none⟩] 11 []))
   (.skip)))
  (.seq (.reg [⟨some 84, .mv (.t 0), none⟩,
    ⟨some 85, .fad 2 (.t 4), none⟩,
    ⟨none, .store 1 (.t 85) (.t 84), none⟩])
  (.seq (.reg [⟨some 86, .loadn 9 (.t 4), none⟩,
    ⟨none, .store 9 (.t 2) (.t 86), none⟩,
    ⟨some 3, .mv (.c (.i .i64 0)), none⟩])
  (.ret)))))))))
theorem is_ref06_Split : FnIs Tryz.prog 23 87 [.celln 2 9, .tmp 3] c_ref06_Split := ⟨⟨_, _, Tryz.func23, rfl, rfl, by kernel_rfl, by kernel_rfl⟩⟩
def c_ref01_Equal : SCode :=
  .seq (.reg [⟨some 4, .mv (.c (.b false)), none⟩])
  (.seq (.reg [⟨some 5, .mv (.t 0), none⟩,
    ⟨some 6, .call 48 [.t 5], none⟩,
    ⟨some 7, .mv (.t 1), none⟩,
    ⟨some 8, .call 48 [.t 7], none⟩,
    ⟨some 9, .bin .eql (.t 6) (.t 8), none⟩,
    ⟨some 4, .mv (.t 9), none⟩])
  (.ret))
theorem is_ref01_Equal : FnIs Tryz.prog 24 10 [.tmp 4] c_ref01_Equal := ⟨⟨_, _, Tryz.func24, rfl, rfl, by kernel_rfl, by kernel_rfl⟩⟩
def c_ref01_Index : SCode :=
  .seq (.reg [⟨some 4, .mv (.c (.i .i64 0)), none⟩])
  (.seq (.seq (.reg [⟨some 5, .mv (.c (.i .i64 0)), none⟩])
  (.blk 0
   (.loop
    (.seq (.seq (.reg [⟨some 6, .mv (.t 5), none⟩,
      ⟨some 7, .mv (.t 0), none⟩,
      ⟨some 8, .lens (.t 7), none⟩,
      ⟨some 9, .bin .lss (.t 6) (.t 8), none⟩])
    (.cond (.t 9)
     (.skip)
     (.exit 0)))
    (.seq (.blk 1
     (.seq (.reg [⟨some 12, .mv (.t 0), none⟩,
       ⟨some 13, .mv (.t 5), none⟩,
       ⟨some 14, .idx (.t 12) (.t 13), none⟩,
       ⟨some 15, .mv (.t 1), none⟩,
       ⟨some 16, .call 49 [.t 14, .t 15], none⟩])
     (.cond (.t 16)
      (.seq (.reg [⟨some 17, .mv (.t 5), none⟩,
        ⟨some 4, .mv (.t 17), none⟩])
      (.ret))
      (.skip))))
    (.reg [⟨some 10, .mv (.t 5), none⟩,
      ⟨some 11, .bin .add (.t 10) (.c (.i .i64 1)), none⟩,
      ⟨some 5, .mv (.t 11), none⟩]))))))
  (.seq (.reg [⟨some 18, .mv (.t 0), none⟩,
    ⟨some 19, .lens (.t 18), none⟩,
    ⟨some 4, .mv (.t 19), none⟩])
  (.ret)))
theorem is_ref01_Index : FnIs Tryz.prog 25 20 [.tmp 4] c_ref01_Index := ⟨⟨_, _, Tryz.func25, rfl, rfl, by kernel_rfl, by kernel_rfl⟩⟩
def c_ref05_Parse : SCode :=
  .seq (.reg [⟨some 2, .alloc 32 [.s [], .i .i64 0], none⟩,
    ⟨some 3, .mv (.c (.i .i64 0)), none⟩])
  (.seq (.reg [⟨some 8, .mv (.t 0), none⟩,
    ⟨some 9, .call 25 [.t 8, .c (.s [58])], none⟩,
    ⟨some 4, .mv (.t 9), none⟩])
  (.seq (.reg [⟨some 11, .mv (.t 0), none⟩,
    ⟨some 12, .mv (.t 4), none⟩,
    ⟨some 13, .slcs (.t 11) none (some (.t 12)), none⟩,
    ⟨some 14, .call 50 [.t 13], none⟩,
    ⟨some 10, .mv (.t 14), none⟩,
    ⟨some 15, .ext (.t 10) 0, none⟩,
    ⟨some 16, .ext (.t 10) 1, none⟩,
    ⟨some 5, .mv (.t 15), none⟩,
    ⟨some 6, .mv (.t 16), none⟩])
  (.seq (.seq (.reg [⟨some 17, .mv (.t 6), none⟩,
    ⟨some 18, .bin .neq (.t 17) (.c (.i .i64 0)), none⟩])
  (.cond (.t 18)
   (.seq (.reg [⟨some 19, .build [.s [], .i .i64 0] [], none⟩,
     ⟨some 20, .mv (.t 6), none⟩,
     ⟨none, .store 2 (.t 2) (.t 19), none⟩,
     ⟨some 3, .mv (.t 20), none⟩])
   (.ret))
   (.skip)))
  (.seq (.seq (.reg [⟨some 21, .mv (.t 4), none⟩,
    ⟨some 22, .mv (.t 0), none⟩,
    ⟨some 23, .lens (.t 22), none⟩,
    ⟨some 24, .bin .eql (.t 21) (.t 23), none⟩])
  (.cond (.t 24)
   (.seq (.reg [⟨some 25, .mv (.t 5), none⟩,
     ⟨some 26, .build [.s [], .i .i64 0] [(0, (1, .t 25))], none⟩,
     ⟨none, .store 2 (.t 2) (.t 26), none⟩,
     ⟨some 3, .mv (.c (.i .i64 0)), none⟩])
   (.ret))
   (.skip)))
  (.seq (.reg [⟨some 28, .mv (.t 0), none⟩,
    ⟨some 29, .mv (.t 4), none⟩,
    ⟨some 30, .bin .add (.t 29) (.c (.i .i64 1)), none⟩,
    ⟨some 31, .slcs (.t 28) (some (.t 30)) none, none⟩,
    ⟨some 32, .call 51 [.t 31], none⟩,
    ⟨some 27, .mv (.t 32), none⟩,
    ⟨some 33, .ext (.t 27) 0, none⟩,
    ⟨some 34, .ext (.t 27) 1, none⟩,
    ⟨some 7, .mv (.t 33), none⟩,
    ⟨some 6, .mv (.t 34), none⟩])
  (.seq (.seq (.reg [⟨some 35, .mv (.t 6), none⟩,
    ⟨some 36, .bin .neq (.t 35) (.c (.i .i64 0)), none⟩])
  (.cond (.t 36)
   (.seq (.reg [⟨some 37, .build [.s [], .i .i64 0] [], none⟩,
     ⟨some 38, .mv (.t 6), none⟩,
     ⟨none, .store 2 (.t 2) (.t 37), none⟩,
     ⟨some 3, .mv (.t 38), none⟩])
   (.ret))
   (.skip)))
  (.seq (.seq (.reg [⟨some 39, .mv (.t 7), none⟩,
    ⟨some 40, .bin .eql (.t 39) (.c (.i .i64 443)), none⟩])
  (.cond (.t 40)
   (.reg [⟨some 7, .mv (.c (.i .i64 0)), none⟩])
   (.skip)))
  (.seq (.reg [⟨some 41, .mv (.t 5), none⟩,
    ⟨some 42, .mv (.t 7), none⟩,
    ⟨some 43, .build [.s [], .i .i64 0] [(0, (1, .t 41)), (1, (1, .t 42))], none⟩,
    ⟨none, .store 2 (.t 2) (.t 43), none⟩,
    ⟨some 3, .mv (.c (.i .i64 0)), none⟩])
  (.ret)))))))))
theorem is_ref05_Parse : FnIs Tryz.prog 26 44 [.celln 2 2, .tmp 3] c_ref05_Parse := ⟨⟨_, _, Tryz.func26, rfl, rfl, by kernel_rfl, by kernel_rfl⟩⟩
def c_ref03_Normalize : SCode :=
  .seq (.reg [⟨some 4, .mv (.c (.s [])), none⟩,
    ⟨some 5, .mv (.c (.i .i64 0)), none⟩])
  (.seq (.seq (.reg [⟨some 10, .mv (.t 0), none⟩,
    ⟨some 11, .lens (.t 10), none⟩,
    ⟨some 12, .bin .gtr (.t 11) (.c (.i .i64 16384)), none⟩])
  (.cond (.t 12)
   (.seq (.reg [⟨some 4, .mv (.c (.s [])), none⟩,
     ⟨some 5, .mv (.c (.i .i64 5)), none⟩])
   (.ret))
   (.skip)))
  (.seq (.reg [⟨some 6, .mv (.c .nil), none⟩])
  (.seq (.seq (.reg [⟨some 7, .mv (.c (.i .i64 0)), none⟩])
  (.blk 0
   (.loop
    (.seq (.seq (.reg [⟨some 13, .mv (.t 7), none⟩,
      ⟨some 14, .mv (.t 0), none⟩,
      ⟨some 15, .lens (.t 14), none⟩,
      ⟨some 16, .bin .lss (.t 13) (.t 15), none⟩])
    (.cond (.t 16)
     (.skip)
     (.exit 0)))
    (.seq (.blk 1
     (.seq (.seq (.reg [⟨some 19, .mv (.t 0), none⟩,
       ⟨some 20, .mv (.t 7), none⟩,
       ⟨some 21, .idx (.t 19) (.t 20), none⟩,
       ⟨some 22, .bin .neq (.t 21) (.c (.i .u8 37)), none⟩])
     (.cond (.t 22)
      (.seq (.seq (.reg [⟨some 23, .mv (.t 0), none⟩,
        ⟨some 24, .mv (.t 7), none⟩,
        ⟨some 25, .idx (.t 23) (.t 24), none⟩,
        ⟨some 26, .call 52 [.t 25], none⟩,
        ⟨some 27, .not (.t 26), none⟩,
        ⟨some 28, .mv (.t 27), none⟩,
        ⟨some 29, .mv (.t 0), some (28, true)⟩,
        ⟨some 30, .mv (.t 7), some (28, true)⟩,
        ⟨some 31, .idx (.t 29) (.t 30), some (28, true)⟩,
        ⟨some 32, .mv (.t 1), some (28, true)⟩,
        ⟨some 33, .call 49 [.t 31, .t 32], some (28, true)⟩,
        ⟨some 34, .not (.t 33), some (28, true)⟩,
        ⟨some 35, .pick (.t 28) (.t 34) (.c (.b false)), none⟩])
      (.cond (.t 35)
       (.seq (.reg [⟨some 4, .mv (.c (.s [])), none⟩,
         ⟨some 5, .mv (.c (.i .i64 1)), none⟩])
       (.ret))
       (.skip)))
      (.seq (.reg [⟨some 36, .mv (.t 6), none⟩,
        ⟨some 37, .mv (.t 0), none⟩,
        ⟨some 38, .mv (.t 7), none⟩,
        ⟨some 39, .idx (.t 37) (.t 38), none⟩,
        ⟨some 40, .bslice 1 [.i .u8 0] [(0, (1, .t 39))], none⟩,
        ⟨some 41, .app 5 1 1 (.t 36) (.t 40), none⟩,
        ⟨some 6, .mv (.t 41), none⟩])
      (.exit 1)))
      (.skip)))
     (.seq (.reg [⟨some 43, .mv (.t 0), none⟩,
       ⟨some 44, .mv (.t 7), none⟩,
       ⟨some 45, .call 53 [.t 43, .t 44], none⟩,
       ⟨some 42, .mv (.t 45), none⟩,
       ⟨some 46, .ext (.t 42) 0, none⟩,
       ⟨some 47, .ext (.t 42) 1, none⟩,
       ⟨some 8, .mv (.t 46), none⟩,
       ⟨some 9, .mv (.t 47), none⟩])
     (.seq (.seq (.reg [⟨some 48, .mv (.t 9), none⟩,
       ⟨some 49, .not (.t 48), none⟩])
     (.cond (.t 49)
      (.seq (.reg [⟨some 4, .mv (.c (.s [])), none⟩,
        ⟨some 5, .mv (.c (.i .i64 2)), none⟩])
      (.ret))
      (.skip)))
     (.seq (.seq (.reg [⟨some 50, .mv (.t 8), none⟩,
       ⟨some 51, .call 52 [.t 50], none⟩])
     (.cond (.t 51)
      (.reg [⟨some 52, .mv (.t 6), none⟩,
        ⟨some 53, .mv (.t 8), none⟩,
        ⟨some 54, .bslice 1 [.i .u8 0] [(0, (1, .t 53))], none⟩,
        ⟨some 55, .app 5 1 1 (.t 52) (.t 54), none⟩,
        ⟨some 6, .mv (.t 55), none⟩])
      (.reg [⟨some 56, .mv (.t 6), none⟩,
        ⟨some 57, .mv (.t 8), none⟩,
        ⟨some 58, .call 54 [.t 57], none⟩,
        ⟨some 59, .apps 5 (.t 56) (.t 58), none⟩,
        ⟨some 6, .mv (.t 59), none⟩])))
     (.reg [⟨some 60, .mv (.t 7), none⟩,
       ⟨some 61, .bin .add (.t 60) (.c (.i .i64 2)), none⟩,
       ⟨some 7, .mv (.t 61), none⟩]))))))
    (.reg [⟨some 17, .mv (.t 7), none⟩,
      ⟨some 18, .bin .add (.t 17) (.c (.i .i64 1)), none⟩,
      ⟨some 7, .mv (.t 18), none⟩]))))))
  (.seq (.reg [⟨some 62, .mv (.t 6), none⟩,
    ⟨some 63, .cvbs (.t 62), none⟩,
    ⟨some 4, .mv (.t 63), none⟩,
    ⟨some 5, .mv (.c (.i .i64 0)), none⟩])
  (.ret)))))
theorem is_ref03_Normalize : FnIs Tryz.prog 27 64 [.tmp 4, .tmp 5] c_ref03_Normalize := ⟨⟨_, _, Tryz.func27, rfl, rfl, by kernel_rfl, by kernel_rfl⟩⟩
def c_ref06_RemoveDots : SCode :=
  .seq (.reg [⟨some 2, .mv (.c (.s [])), none⟩])
  (.seq (.reg [⟨some 6, .mv (.t 0), none⟩,
    ⟨some 3, .mv (.t 6), none⟩,
    ⟨some 4, .mv (.c (.s [])), none⟩])
  (.seq (.blk 0
   (.loop
    (.seq (.seq (.reg [⟨some 7, .mv (.t 3), none⟩,
      ⟨some 8, .bin .neq (.t 7) (.c (.s [])), none⟩])
    (.cond (.t 8)
     (.skip)
     (.exit 0)))
    (.blk 1
     (.blk 2
      (.seq (.reg [⟨some 22, .mv (.t 3), none⟩,
        ⟨some 23, .call 47 [.t 22, .c (.s [46, 46, 47])], none⟩,
        ⟨some 21, .mv (.t 23), none⟩])
      (.cond (.t 21)
       (.reg [⟨some 24, .mv (.t 3), none⟩,
         ⟨some 25, .slcs (.t 24) (some (.c (.i .i64 3))) none, none⟩,
         ⟨some 3, .mv (.t 25), none⟩])
       (.seq (.reg [⟨some 27, .mv (.t 3), none⟩,
         ⟨some 28, .call 47 [.t 27, .c (.s [46, 47])], none⟩,
         ⟨some 26, .mv (.t 28), none⟩])
       (.cond (.t 26)
        (.reg [⟨some 29, .mv (.t 3), none⟩,
          ⟨some 30, .slcs (.t 29) (some (.c (.i .i64 2))) none, none⟩,
          ⟨some 3, .mv (.t 30), none⟩])
        (.seq (.reg [⟨some 32, .mv (.t 3), none⟩,
          ⟨some 33, .call 47 [.t 32, .c (.s [47, 46, 47])], none⟩,
          ⟨some 31, .mv (.t 33), none⟩])
        (.cond (.t 31)
         (.reg [⟨some 34, .mv (.t 3), none⟩,
           ⟨some 35, .slcs (.t 34) (some (.c (.i .i64 2))) none, none⟩,
           ⟨some 3, .mv (.t 35), none⟩])
         (.seq (.reg [⟨some 37, .mv (.t 3), none⟩,
           ⟨some 38, .bin .eql (.t 37) (.c (.s [47, 46])), none⟩,
           ⟨some 36, .mv (.t 38), none⟩])
         (.cond (.t 36)
          (.reg [⟨some 3, .mv (.c (.s [47])), none⟩])
          (.seq (.reg [⟨some 40, .mv (.t 3), none⟩,
            ⟨some 41, .call 47 [.t 40, .c (.s [47, 46, 46, 47])], none⟩,
            ⟨some 39, .mv (.t 41), none⟩])
          (.cond (.t 39)
           (.drw [⟨some 42, .mv (.t 3), none⟩,
             ⟨some 43, .slcs (.t 42) (some (.c (.i .i64 3))) none, none⟩,
             ⟨some 44, .mv (.t 4), none⟩,
             ⟨some 45, .call 55 [.t 44], none⟩,
             ⟨some 3, .mv (.t 43), none⟩,
             ⟨some 4, .mv (.t 45), none⟩] 6 [])
           (.seq (.reg [⟨some 47, .mv (.t 3), none⟩,
             ⟨some 48, .bin .eql (.t 47) (.c (.s [47, 46, 46])), none⟩,
             ⟨some 46, .mv (.t 48), none⟩])
           (.cond (.t 46)
            (.reg [⟨some 49, .mv (.t 4), none⟩,
              ⟨some 50, .call 55 [.t 49], none⟩,
              ⟨some 3, .mv (.c (.s [47])), none⟩,
              ⟨some 4, .mv (.t 50), none⟩])
            (.seq (.reg [⟨some 52, .mv (.t 3), none⟩,
              ⟨some 53, .bin .eql (.t 52) (.c (.s [46])), none⟩,
              ⟨some 54, .mv (.t 53), none⟩,
              ⟨some 55, .mv (.t 3), some (54, false)⟩,
              ⟨some 56, .bin .eql (.t 55) (.c (.s [46, 46])), some (54, false)⟩,
              ⟨some 57, .pick (.t 54) (.c (.b true)) (.t 56), none⟩,
              ⟨some 51, .mv (.t 57), none⟩])
            (.cond (.t 51)
             (.reg [⟨some 3, .mv (.c (.s [])), none⟩])
             (.seq (.reg [⟨some 9, .mv (.t 3), none⟩,
               ⟨some 10, .slcs (.t 9) (some (.c (.i .i64 1))) none, none⟩,
               ⟨some 11, .call 25 [.t 10, .c (.s [47])], none⟩,
               ⟨some 12, .bin .add (.c (.i .i64 1)) (.t 11), none⟩,
               ⟨some 5, .mv (.t 12), none⟩])
             (.drw [⟨some 13, .mv (.t 3), none⟩,
               ⟨some 14, .mv (.t 5), none⟩,
               ⟨some 15, .slcs (.t 13) (some (.t 14)) none, none⟩,
               ⟨some 16, .mv (.t 4), none⟩,
               ⟨some 17, .mv (.t 3), none⟩,
               ⟨some 18, .mv (.t 5), none⟩,
               ⟨some 19, .slcs (.t 17) none (some (.t 18)), none⟩,
               ⟨some 20, .bin .add (.t 16) (.t 19), none⟩,
               ⟨some 3, .mv (.t 15), none⟩,
               ⟨some 4, .mv (.t 20), none⟩] 10 [])))))))))))))))))))))
  (.seq (.reg [⟨some 58, .mv (.t 4), none⟩,
    ⟨some 2, .mv (.t 58), none⟩])
  (.ret))))
theorem is_ref06_RemoveDots : FnIs Tryz.prog 28 59 [.tmp 2] c_ref06_RemoveDots := ⟨⟨_, _, Tryz.func28, rfl, rfl, by kernel_rfl, by kernel_rfl⟩⟩
def c_host_Format : SCode :=
  .seq (.reg [⟨some 1, .box 32 (.t 0), none⟩,
    ⟨some 2, .mv (.c (.s [])), none⟩])
  (.seq (.seq (.reg [⟨some 3, .fad 1 (.t 1), none⟩,
    ⟨some 4, .load1 (.t 3), none⟩,
    ⟨some 5, .bin .eql (.t 4) (.c (.i .i64 0)), none⟩])
  (.cond (.t 5)
   (.seq (.reg [⟨some 6, .fad 0 (.t 1), none⟩,
     ⟨some 7, .load1 (.t 6), none⟩,
     ⟨some 2, .mv (.t 7), none⟩])
   (.ret))
   (.skip)))
  (.seq (.drw [⟨some 8, .fad 0 (.t 1), none⟩,
    ⟨some 9, .load1 (.t 8), none⟩,
    ⟨some 10, .bin .add (.t 9) (.c (.s [58])), none⟩,
    ⟨some 11, .fad 1 (.t 1), none⟩,
    ⟨some 12, .load1 (.t 11), none⟩,
    ⟨some 13, .call 56 [.t 12], none⟩,
    ⟨some 14, .bin .add (.t 10) (.t 13), none⟩,
    ⟨some 2, .mv (.t 14), none⟩] 8 [])
  (.ret)))
theorem is_host_Format : FnIs Tryz.prog 29 15 [.tmp 2] c_host_Format := ⟨⟨_, _, Tryz.func29, rfl, rfl, by kernel_rfl, by kernel_rfl⟩⟩
def c_ref05_Format : SCode :=
  .seq (.reg [⟨some 1, .box 32 (.t 0), none⟩,
    ⟨some 2, .mv (.c (.s [])), none⟩])
  (.seq (.seq (.reg [⟨some 3, .fad 1 (.t 1), none⟩,
    ⟨some 4, .load1 (.t 3), none⟩,
    ⟨some 5, .bin .eql (.t 4) (.c (.i .i64 0)), none⟩])
  (.cond (.t 5)
   (.seq (.reg [⟨some 6, .fad 0 (.t 1), none⟩,
     ⟨some 7, .load1 (.t 6), none⟩,
     ⟨some 2, .mv (.t 7), none⟩])
   (.ret))
   (.skip)))
  (.seq (.drw [⟨some 8, .fad 0 (.t 1), none⟩,
    ⟨some 9, .load1 (.t 8), none⟩,
    ⟨some 10, .bin .add (.t 9) (.c (.s [58])), none⟩,
    ⟨some 11, .fad 1 (.t 1), none⟩,
    ⟨some 12, .load1 (.t 11), none⟩,
    ⟨some 13, .call 57 [.t 12], none⟩,
    ⟨some 14, .bin .add (.t 10) (.t 13), none⟩,
    ⟨some 2, .mv (.t 14), none⟩] 8 [])
  (.ret)))
theorem is_ref05_Format : FnIs Tryz.prog 30 15 [.tmp 2] c_ref05_Format := ⟨⟨_, _, Tryz.func30, rfl, rfl, by kernel_rfl, by kernel_rfl⟩⟩
def c_uri_Resolve : SCode :=
  .seq (.reg [⟨some 2, .box 38 (.t 0), none⟩,
    ⟨some 3, .box 38 (.t 1), none⟩,
    ⟨some 4, .alloc 38 [.s [], .s [], .s [], .s [], .s [], .b false, .b false, .b false, .b false], none⟩])
  (.seq (.reg [⟨some 6, .loadn 9 (.t 3), none⟩,
    ⟨some 5, .alloc 38 [.s [], .s [], .s [], .s [], .s [], .b false, .b false, .b false, .b false], none⟩,
    ⟨none, .store 9 (.t 5) (.t 6), none⟩])
  (.seq (.seq (.reg [⟨some 7, .fad 5 (.t 3), none⟩,
    ⟨some 8, .load1 (.t 7), none⟩])
  (.cond (.t 8)
   (.seq (.reg [⟨some 9, .fad 2 (.t 3), none⟩,
     ⟨some 10, .load1 (.t 9), none⟩,
     ⟨some 11, .call 45 [.t 10], none⟩,
     ⟨some 12, .fad 2 (.t 5), none⟩,
     ⟨none, .store 1 (.t 12) (.t 11), none⟩])
   (.seq (.reg [⟨some 13, .loadn 9 (.t 5), none⟩,
     ⟨none, .store 9 (.t 4) (.t 13), none⟩])
   (.ret)))
   (.skip)))
  (.seq (.drw [⟨some 14, .fad 0 (.t 2), none⟩,
    ⟨some 15, .load1 (.t 14), none⟩,
    ⟨some 16, .fad 5 (.t 2), none⟩,
    ⟨some 17, .load1 (.t 16), none⟩,
    ⟨some 18, .fad 0 (.t 5), none⟩,
    ⟨none, .store 1 (.t 18) (.t 15), none⟩,
    ⟨some 19, .fad 5 (.t 5), none⟩,
    ⟨none, .store 1 (.t 19) (.t 17), none⟩] 8 [(16, 18)])
  (.seq (.seq (.reg [⟨some 20, .fad 6 (.t 3), none⟩,
    ⟨some 21, .load1 (.t 20), none⟩])
  (.cond (.t 21)
   (.seq (.reg [⟨some 22, .fad 2 (.t 3), none⟩,
     ⟨some 23, .load1 (.t 22), none⟩,
     ⟨some 24, .call 45 [.t 23], none⟩,
     ⟨some 25, .fad 2 (.t 5), none⟩,
     ⟨none, .store 1 (.t 25) (.t 24), none⟩])
   (.seq (.reg [⟨some 26, .loadn 9 (.t 5), none⟩,
     ⟨none, .store 9 (.t 4) (.t 26), none⟩])
   (.ret)))
   (.skip)))
  (.seq (.drw [⟨some 27, .fad 1 (.t 2), none⟩,
    ⟨some 28, .load1 (.t 27), none⟩,
    ⟨some 29, .fad 6 (.t 2), none⟩,
    ⟨some 30, .load1 (.t 29), none⟩,
    ⟨some 31, .fad 1 (.t 5), none⟩,
    ⟨none, .store 1 (.t 31) (.t 28), none⟩,
    ⟨some 32, .fad 6 (.t 5), none⟩,
    ⟨none, .store 1 (.t 32) (.t 30), none⟩] 8 [(29, 31)])
  (.seq (.blk 0
   (.seq (.reg [⟨some 40, .fad 2 (.t 3), none⟩,
     ⟨some 41, .load1 (.t 40), none⟩,
     ⟨some 42, .bin .eql (.t 41) (.c (.s [])), none⟩,
     ⟨some 39, .mv (.t 42), none⟩])
   (.cond (.t 39)
    (.seq (.reg [⟨some 43, .fad 2 (.t 2), none⟩,
      ⟨some 44, .load1 (.t 43), none⟩,
      ⟨some 45, .fad 2 (.t 5), none⟩,
      ⟨none, .store 1 (.t 45) (.t 44), none⟩])
    (.seq (.reg [⟨some 46, .fad 7 (.t 3), none⟩,
      ⟨some 47, .load1 (.t 46), none⟩,
      ⟨some 48, .not (.t 47), none⟩])
    (.cond (.t 48)
     (.drw [⟨some 49, .fad 3 (.t 2), none⟩,
       ⟨some 50, .load1 (.t 49), none⟩,
       ⟨some 51, .fad 7 (.t 2), none⟩,
       ⟨some 52, .load1 (.t 51), none⟩,
       ⟨some 53, .fad 3 (.t 5), none⟩,
       ⟨none, .store 1 (.t 53) (.t 50), none⟩,
       ⟨some 54, .fad 7 (.t 5), none⟩,
       ⟨none, .store 1 (.t 54) (.t 52), none⟩] 8 [(51, 53)])
     (.skip))))
    (.seq (.reg [⟨some 56, .fad 2 (.t 3), none⟩,
      ⟨some 57, .load1 (.t 56), none⟩,
      ⟨some 58, .idx (.t 57) (.c (.i .i64 0)), none⟩,
      ⟨some 59, .bin .eql (.t 58) (.c (.i .u8 47)), none⟩,
      ⟨some 55, .mv (.t 59), none⟩])
    (.cond (.t 55)
     (.reg [⟨some 60, .fad 2 (.t 3), none⟩,
       ⟨some 61, .load1 (.t 60), none⟩,
       ⟨some 62, .call 45 [.t 61], none⟩,
       ⟨some 63, .fad 2 (.t 5), none⟩,
       ⟨none, .store 1 (.t 63) (.t 62), none⟩])
     (.reg [⟨some 33, .loadn 9 (.t 2), none⟩,
       ⟨some 34, .fad 2 (.t 3), none⟩,
       ⟨some 35, .load1 (.t 34), none⟩,
       ⟨some 36, .call 58 [.t 33, .t 35], none⟩,
       ⟨some 37, .call 45 [.t 36], none⟩,
       ⟨some 38, .fad 2 (.t 5), none⟩,
       ⟨none, .store 1 (.t 38) (.t 37), none⟩]))))))
  (.seq (.reg [⟨some 64, .loadn 9 (.t 5), none⟩,
    ⟨none, .store 9 (.t 4) (.t 64), none⟩])
  (.ret))))))))
theorem is_uri_Resolve : FnIs Tryz.prog 31 65 [.celln 4 9] c_uri_Resolve := ⟨⟨_, _, Tryz.func31, rfl, rfl, by kernel_rfl, by kernel_rfl⟩⟩
def c_ascii_Equal : SCode :=
  .seq (.reg [⟨some 4, .mv (.c (.b false)), none⟩])
  (.seq (.seq (.reg [⟨some 6, .mv (.t 0), none⟩,
    ⟨some 7, .lens (.t 6), none⟩,
    ⟨some 8, .mv (.t 1), none⟩,
    ⟨some 9, .lens (.t 8), none⟩,
    ⟨some 10, .bin .neq (.t 7) (.t 9), none⟩])
  (.cond (.t 10)
   (.seq (.reg [⟨some 4, .mv (.c (.b false)), none⟩])
   (.ret))
   (.skip)))
  (.seq (.seq (.reg [⟨some 11, .mv (.t 0), none⟩,
    ⟨some 12, .lens (.t 11), none⟩,
    ⟨some 13, .mv (.c (.i .i64 0)), none⟩])
  (.blk 0
   (.loop
    (.seq (.reg [⟨some 14, .bin .lss (.t 13) (.t 12), none⟩])
    (.seq (.cond (.t 14)
     (.skip)
     (.exit 0))
    (.seq (.blk 1
     (.seq (.reg [⟨some 15, .mv (.t 13), none⟩,
       ⟨some 5, .mv (.t 15), none⟩])
     (.seq (.drw [⟨some 16, .mv (.t 0), none⟩,
       ⟨some 17, .mv (.t 5), none⟩,
       ⟨some 18, .idx (.t 16) (.t 17), none⟩,
       ⟨some 19, .call 59 [.t 18], none⟩,
       ⟨some 20, .mv (.t 1), none⟩,
       ⟨some 21, .mv (.t 5), none⟩,
       ⟨some 22, .idx (.t 20) (.t 21), none⟩,
       ⟨some 23, .call 59 [.t 22], none⟩,
       ⟨some 24, .bin .neq (.t 19) (.t 23), none⟩] 9 [])
     (.cond (.t 24)
      (.seq (.reg [⟨some 4, .mv (.c (.b false)), none⟩])
      (.ret))
      (.skip)))))
    (.reg [⟨some 25, .bin .add (.t 13) (.c (.i .i64 1)), none⟩,
      ⟨some 13, .mv (.t 25), none⟩])))))))
  (.seq (.reg [⟨some 4, .mv (.c (.b true)), none⟩])
  (.ret))))
theorem is_ascii_Equal : FnIs Tryz.prog 32 26 [.tmp 4] c_ascii_Equal := ⟨⟨_, _, Tryz.func32, rfl, rfl, by kernel_rfl, by kernel_rfl⟩⟩
def c_uri_Join : SCode :=
  .seq (.reg [⟨some 1, .box 38 (.t 0), none⟩,
    ⟨some 2, .mv (.c (.s [])), none⟩])
  (.seq (.drw [⟨some 3, .fad 5 (.t 1), none⟩,
    ⟨some 4, .load1 (.t 3), none⟩,
    ⟨some 5, .fad 0 (.t 1), none⟩,
    ⟨some 6, .load1 (.t 5), none⟩,
    ⟨some 7, .bslice 2 [.s [], .s []] [(0, (1, .t 6)), (1, (1, .c (.s [58])))], none⟩,
    ⟨some 8, .call 61 [.t 4, .t 7], none⟩,
    ⟨some 9, .fad 6 (.t 1), none⟩,
    ⟨some 10, .load1 (.t 9), none⟩,
    ⟨some 11, .fad 1 (.t 1), none⟩,
    ⟨some 12, .load1 (.t 11), none⟩,
    ⟨some 13, .bslice 2 [.s [], .s []] [(0, (1, .c (.s [47, 47]))), (1, (1, .t 12))], none⟩,
    ⟨some 14, .call 61 [.t 10, .t 13], none⟩,
    ⟨some 15, .fad 2 (.t 1), none⟩,
    ⟨some 16, .load1 (.t 15), none⟩,
    ⟨some 17, .fad 7 (.t 1), none⟩,
    ⟨some 18, .load1 (.t 17), none⟩,
    ⟨some 19, .fad 3 (.t 1), none⟩,
    ⟨some 20, .load1 (.t 19), none⟩,
    ⟨some 21, .bslice 2 [.s [], .s []] [(0, (1, .c (.s [63]))), (1, (1, .t 20))], none⟩,
    ⟨some 22, .call 61 [.t 18, .t 21], none⟩,
    ⟨some 23, .fad 8 (.t 1), none⟩,
    ⟨some 24, .load1 (.t 23), none⟩,
    ⟨some 25, .fad 4 (.t 1), none⟩,
    ⟨some 26, .load1 (.t 25), none⟩,
    ⟨some 27, .bslice 2 [.s [], .s []] [(0, (1, .c (.s [35]))), (1, (1, .t 26))], none⟩,
    ⟨some 28, .call 61 [.t 24, .t 27], none⟩,
    ⟨some 29, .bslice 5 [.s [], .s [], .s [], .s [], .s []] [(0, (1, .t 8)), (1, (1, .t 14)), (2, (1, .t 16)), (3, (1, .t 22)), (4, (1, .t 28))], none⟩,
    ⟨some 30, .call 60 [.t 29], none⟩,
    ⟨some 2, .mv (.t 30), none⟩] 29 [])
  (.ret))
theorem is_uri_Join : FnIs Tryz.prog 33 31 [.tmp 2] c_uri_Join := ⟨⟨_, _, Tryz.func33, rfl, rfl, by kernel_rfl, by kernel_rfl⟩⟩
def c_ref06_Resolve : SCode :=
  .seq (.reg [⟨some 2, .box 38 (.t 0), none⟩,
    ⟨some 3, .box 38 (.t 1), none⟩,
    ⟨some 4, .alloc 38 [.s [], .s [], .s [], .s [], .s [], .b false, .b false, .b false, .b false], none⟩])
  (.seq (.reg [⟨some 6, .loadn 9 (.t 3), none⟩,
    ⟨some 5, .alloc 38 [.s [], .s [], .s [], .s [], .s [], .b false, .b false, .b false, .b false], none⟩,
    ⟨none, .store 9 (.t 5) (.t 6), none⟩])
  (.seq (.blk 0
   (.seq (.reg [⟨some 27, .fad 5 (.t 3), none⟩,
     ⟨some 28, .load1 (.t 27), none⟩,
     ⟨some 26, .mv (.t 28), none⟩])
   (.cond (.t 26)
    (.seq (.reg [⟨some 29, .fad 2 (.t 3), none⟩,
      ⟨some 30, .load1 (.t 29), none⟩,
      ⟨some 31, .call 28 [.t 30], none⟩,
      ⟨some 32, .fad 2 (.t 5), none⟩,
      ⟨none, .store 1 (.t 32) (.t 31), none⟩])
    (.seq (.reg [⟨some 33, .loadn 9 (.t 5), none⟩,
      ⟨none, .store 9 (.t 4) (.t 33), none⟩])
    (.ret)))
    (.seq (.reg [⟨some 35, .fad 6 (.t 3), none⟩,
      ⟨some 36, .load1 (.t 35), none⟩,
      ⟨some 34, .mv (.t 36), none⟩])
    (.cond (.t 34)
     (.reg [⟨some 37, .fad 2 (.t 3), none⟩,
       ⟨some 38, .load1 (.t 37), none⟩,
       ⟨some 39, .call 28 [.t 38], none⟩,
       ⟨some 40, .fad 2 (.t 5), none⟩,
       ⟨none, .store 1 (.t 40) (.t 39), none⟩])
     (.seq (.reg [⟨some 42, .fad 2 (.t 3), none⟩,
       ⟨some 43, .load1 (.t 42), none⟩,
       ⟨some 44, .bin .eql (.t 43) (.c (.s [])), none⟩,
       ⟨some 41, .mv (.t 44), none⟩])
     (.cond (.t 41)
      (.seq (.reg [⟨some 45, .fad 2 (.t 2), none⟩,
        ⟨some 46, .load1 (.t 45), none⟩,
        ⟨some 47, .fad 2 (.t 5), none⟩,
        ⟨none, .store 1 (.t 47) (.t 46), none⟩])
      (.seq (.seq (.reg [⟨some 48, .fad 7 (.t 3), none⟩,
        ⟨some 49, .load1 (.t 48), none⟩,
        ⟨some 50, .not (.t 49), none⟩])
      (.cond (.t 50)
       (.drw [⟨some 51, .fad 3 (.t 2), none⟩,
         ⟨some 52, .load1 (.t 51), none⟩,
         ⟨some 53, .fad 7 (.t 2), none⟩,
         ⟨some 54, .load1 (.t 53), none⟩,
         ⟨some 55, .fad 3 (.t 5), none⟩,
         ⟨none, .store 1 (.t 55) (.t 52), none⟩,
         ⟨some 56, .fad 7 (.t 5), none⟩,
         ⟨none, .store 1 (.t 56) (.t 54), none⟩] 8 [(53, 55)])
       (.skip)))
      (.drw [⟨some 57, .fad 1 (.t 2), none⟩,
        ⟨some 58, .load1 (.t 57), none⟩,
        ⟨some 59, .fad 6 (.t 2), none⟩,
        ⟨some 60, .load1 (.t 59), none⟩,
        ⟨some 61, .fad 1 (.t 5), none⟩,
        ⟨none, .store 1 (.t 61) (.t 58), none⟩,
        ⟨some 62, .fad 6 (.t 5), none⟩,
        ⟨none, .store 1 (.t 62) (.t 60), none⟩] 8 [(59, 61)])))
      (.seq (.reg [⟨some 7, .loadn 9 (.t 2), none⟩,
        ⟨some 8, .loadn 9 (.t 3), none⟩,
        ⟨some 9, .call 62 [.t 7, .t 8], none⟩,
        ⟨some 10, .call 28 [.t 9], none⟩,
        ⟨some 11, .fad 2 (.t 5), none⟩,
        ⟨none, .store 1 (.t 11) (.t 10), none⟩])
      (.seq (.seq (.reg [⟨some 12, .fad 2 (.t 3), none⟩,
        ⟨some 13, .load1 (.t 12), none⟩,
        ⟨some 14, .idx (.t 13) (.c (.i .i64 0)), none⟩,
        ⟨some 15, .bin .eql (.t 14) (.c (.i .u8 47)), none⟩])
      (.cond (.t 15)
       (.reg [⟨some 16, .fad 2 (.t 3), none⟩,
         ⟨some 17, .load1 (.t 16), none⟩,
         ⟨some 18, .call 28 [.t 17], none⟩,
         ⟨some 19, .fad 2 (.t 5), none⟩,
         ⟨none, .store 1 (.t 19) (.t 18), none⟩])
       (.skip)))
      (.drw [⟨some 20, .fad 1 (.t 2), none⟩,
        ⟨some 21, .load1 (.t 20), none⟩,
        ⟨some 22, .fad 6 (.t 2), none⟩,
        ⟨some 23, .load1 (.t 22), none⟩,
        ⟨some 24, .fad 1 (.t 5), none⟩,
        ⟨none, .store 1 (.t 24) (.t 21), none⟩,
        ⟨some 25, .fad 6 (.t 5), none⟩,
        ⟨none, .store 1 (.t 25) (.t 23), none⟩] 8 [(22, 24)]))))))))))
  (.seq (.drw [⟨some 63, .fad 0 (.t 2), none⟩,
    ⟨some 64, .load1 (.t 63), none⟩,
    ⟨some 65, .fad 5 (.t 2), none⟩,
    ⟨some 66, .load1 (.t 65), none⟩,
    ⟨some 67, .fad 0 (.t 5), none⟩,
    ⟨none, .store 1 (.t 67) (.t 64), none⟩,
    ⟨some 68, .fad 5 (.t 5), none⟩,
    ⟨none, .store 1 (.t 68) (.t 66), none⟩] 8 [(65, 67)])
  (.seq (.reg [⟨some 69, .loadn 9 (.t 5), none⟩,
    ⟨none, .store 9 (.t 4) (.t 69), none⟩])
  (.ret)))))
theorem is_ref06_Resolve : FnIs Tryz.prog 34 70 [.celln 4 9] c_ref06_Resolve := ⟨⟨_, _, Tryz.func34, rfl, rfl, by kernel_rfl, by kernel_rfl⟩⟩
def c_ref06_Join : SCode :=
  .seq (.reg [⟨some 1, .box 38 (.t 0), none⟩,
    ⟨some 2, .mv (.c (.s [])), none⟩])
  (.seq (.reg [⟨some 3, .mv (.c (.s [])), none⟩])
  (.seq (.seq (.reg [⟨some 4, .fad 5 (.t 1), none⟩,
    ⟨some 5, .load1 (.t 4), none⟩])
  (.cond (.t 5)
   (.reg [⟨some 6, .mv (.t 3), none⟩,
     ⟨some 7, .fad 0 (.t 1), none⟩,
     ⟨some 8, .load1 (.t 7), none⟩,
     ⟨some 9, .bin .add (.t 8) (.c (.s [58])), none⟩,
     ⟨some 10, .bin .add (.t 6) (.t 9), none⟩,
     ⟨some 3, .mv (.t 10), none⟩])
   (.skip)))
  (.seq (.seq (.reg [⟨some 11, .fad 6 (.t 1), none⟩,
    ⟨some 12, .load1 (.t 11), none⟩])
  (.cond (.t 12)
   (.reg [⟨some 13, .mv (.t 3), none⟩,
     ⟨some 14, .fad 1 (.t 1), none⟩,
     ⟨some 15, .load1 (.t 14), none⟩,
     ⟨some 16, .bin .add (.c (.s [47, 47])) (.t 15), none⟩,
     ⟨some 17, .bin .add (.t 13) (.t 16), none⟩,
     ⟨some 3, .mv (.t 17), none⟩])
   (.skip)))
  (.seq (.reg [⟨some 18, .mv (.t 3), none⟩,
    ⟨some 19, .fad 2 (.t 1), none⟩,
    ⟨some 20, .load1 (.t 19), none⟩,
    ⟨some 21, .bin .add (.t 18) (.t 20), none⟩,
    ⟨some 3, .mv (.t 21), none⟩])
  (.seq (.seq (.reg [⟨some 22, .fad 7 (.t 1), none⟩,
    ⟨some 23, .load1 (.t 22), none⟩])
  (.cond (.t 23)
   (.reg [⟨some 24, .mv (.t 3), none⟩,
     ⟨some 25, .fad 3 (.t 1), none⟩,
     ⟨some 26, .load1 (.t 25), none⟩,
     ⟨some 27, .bin .add (.c (.s [63])) (.t 26), none⟩,
     ⟨some 28, .bin .add (.t 24) (.t 27), none⟩,
     ⟨some 3, .mv (.t 28), none⟩])
   (.skip)))
  (.seq (.seq (.reg [⟨some 29, .fad 8 (.t 1), none⟩,
    ⟨some 30, .load1 (.t 29), none⟩])
  (.cond (.t 30)
   (.reg [⟨some 31, .mv (.t 3), none⟩,
     ⟨some 32, .fad 4 (.t 1), none⟩,
     ⟨some 33, .load1 (.t 32), none⟩,
     ⟨some 34, .bin .add (.c (.s [35])) (.t 33), none⟩,
     ⟨some 35, .bin .add (.t 31) (.t 34), none⟩,
     ⟨some 3, .mv (.t 35), none⟩])
   (.skip)))
  (.seq (.reg [⟨some 36, .mv (.t 3), none⟩,
    ⟨some 2, .mv (.t 36), none⟩])
  (.ret))))))))
theorem is_ref06_Join : FnIs Tryz.prog 35 37 [.tmp 2] c_ref06_Join := ⟨⟨_, _, Tryz.func35, rfl, rfl, by kernel_rfl, by kernel_rfl⟩⟩
def c_uri_Split_1 : SCode :=
  .seq (.reg [⟨some 3, .mv (.c (.s [])), none⟩,
    ⟨some 4, .mv (.c (.b false)), none⟩])
  (.seq (.reg [⟨some 7, .load1 (.t 1), none⟩,
    ⟨some 8, .mv (.t 0), none⟩,
    ⟨some 9, .call 37 [.t 7, .t 8], none⟩,
    ⟨some 5, .mv (.t 9), none⟩])
  (.seq (.seq (.reg [⟨some 10, .mv (.t 5), none⟩,
    ⟨some 11, .bin .lss (.t 10) (.c (.i .i64 0)), none⟩])
  (.cond (.t 11)
   (.seq (.reg [⟨some 3, .mv (.c (.s [])), none⟩,
     ⟨some 4, .mv (.c (.b false)), none⟩])
   (.ret))
   (.skip)))
  (.seq (.reg [⟨some 12, .load1 (.t 1), none⟩,
    ⟨some 13, .mv (.t 5), none⟩,
    ⟨some 14, .bin .add (.t 13) (.c (.i .i64 1)), none⟩,
    ⟨some 15, .slcs (.t 12) (some (.t 14)) none, none⟩,
    ⟨some 6, .mv (.t 15), none⟩])
  (.seq (.reg [⟨some 16, .load1 (.t 1), none⟩,
    ⟨some 17, .mv (.t 5), none⟩,
    ⟨some 18, .slcs (.t 16) none (some (.t 17)), none⟩,
    ⟨none, .store 1 (.t 1) (.t 18), none⟩])
  (.seq (.reg [⟨some 19, .mv (.t 6), none⟩,
    ⟨some 3, .mv (.t 19), none⟩,
    ⟨some 4, .mv (.c (.b true)), none⟩])
  (.ret))))))
theorem is_uri_Split_1 : FnIs Tryz.prog 36 20 [.tmp 3, .tmp 4] c_uri_Split_1 := ⟨⟨_, _, Tryz.func36, rfl, rfl, by kernel_rfl, by kernel_rfl⟩⟩
def c_uri_schemeEnd : SCode :=
  .seq (.reg [⟨some 2, .mv (.c (.i .i64 0)), none⟩])
  (.seq (.reg [⟨some 3, .mv (.t 0), none⟩,
    ⟨some 4, .call 41 [.t 3], none⟩,
    ⟨some 5, .call 37 [.t 4, .c (.i .u8 58)], none⟩,
    ⟨some 2, .mv (.t 5), none⟩])
  (.ret))
theorem is_uri_schemeEnd : FnIs Tryz.prog 38 6 [.tmp 2] c_uri_schemeEnd := ⟨⟨_, _, Tryz.func38, rfl, rfl, by kernel_rfl, by kernel_rfl⟩⟩
def c_uri_isScheme : SCode :=
  .seq (.reg [⟨some 2, .mv (.c (.b false)), none⟩])
  (.seq (.seq (.reg [⟨some 4, .mv (.t 0), none⟩,
    ⟨some 5, .lens (.t 4), none⟩,
    ⟨some 6, .mv (.c (.i .i64 0)), none⟩])
  (.blk 0
   (.loop
    (.seq (.reg [⟨some 7, .bin .lss (.t 6) (.t 5), none⟩])
    (.seq (.cond (.t 7)
     (.skip)
     (.exit 0))
    (.seq (.blk 1
     (.seq (.reg [⟨some 8, .mv (.t 6), none⟩,
       ⟨some 3, .mv (.t 8), none⟩])
     (.seq (.reg [⟨some 9, .mv (.t 0), none⟩,
       ⟨some 10, .mv (.t 3), none⟩,
       ⟨some 11, .idx (.t 9) (.t 10), none⟩,
       ⟨some 12, .call 64 [.t 11], none⟩,
       ⟨some 13, .not (.t 12), none⟩,
       ⟨some 14, .mv (.t 13), none⟩,
       ⟨some 15, .mv (.t 3), some (14, true)⟩,
       ⟨some 16, .bin .eql (.t 15) (.c (.i .i64 0)), some (14, true)⟩,
       ⟨some 17, .mv (.t 16), some (14, true)⟩,
       ⟨some 18, .mv (.t 0), some (17, false)⟩,
       ⟨some 19, .mv (.t 3), some (17, false)⟩,
       ⟨some 20, .idx (.t 18) (.t 19), some (17, false)⟩,
       ⟨some 21, .call 65 [.t 20], some (17, false)⟩,
       ⟨some 22, .not (.t 21), some (17, false)⟩,
       ⟨some 23, .mv (.t 22), some (17, false)⟩,
       ⟨some 24, .mv (.t 0), some (23, true)⟩,
       ⟨some 25, .mv (.t 3), some (23, true)⟩,
       ⟨some 26, .idx (.t 24) (.t 25), some (23, true)⟩,
       ⟨some 27, .call 37 [.c (.s [43, 45, 46]), .t 26], some (23, true)⟩,
       ⟨some 28, .bin .lss (.t 27) (.c (.i .i64 0)), some (23, true)⟩,
       ⟨some 29, .pick (.t 23) (.t 28) (.c (.b false)), some (17, false)⟩,
       ⟨some 30, .pick (.t 17) (.c (.b true)) (.t 29), some (14, true)⟩,
       ⟨some 31, .pick (.t 14) (.t 30) (.c (.b false)), none⟩])
     (.cond (.t 31)
      (.seq (.reg [⟨some 2, .mv (.c (.b false)), none⟩])
      (.ret))
      (.skip)))))
    (.reg [⟨some 32, .bin .add (.t 6) (.c (.i .i64 1)), none⟩,
      ⟨some 6, .mv (.t 32), none⟩])))))))
  (.seq (.reg [⟨some 33, .mv (.t 0), none⟩,
    ⟨some 34, .bin .neq (.t 33) (.c (.s [])), none⟩,
    ⟨some 2, .mv (.t 34), none⟩])
  (.ret)))
theorem is_uri_isScheme : FnIs Tryz.prog 39 35 [.tmp 2] c_uri_isScheme := ⟨⟨_, _, Tryz.func39, rfl, rfl, by kernel_rfl, by kernel_rfl⟩⟩
def c_uri_firstPart : SCode :=
  .seq (.reg [⟨some 2, .mv (.c (.s [])), none⟩])
  (.seq (.reg [⟨some 7, .mv (.t 0), none⟩,
    ⟨some 8, .call 67 [.t 7, .c (.s [47])], none⟩,
    ⟨some 6, .mv (.t 8), none⟩,
    ⟨some 9, .ext (.t 6) 0, none⟩,
    ⟨some 10, .ext (.t 6) 1, none⟩,
    ⟨some 11, .ext (.t 6) 2, none⟩,
    ⟨some 3, .mv (.t 9), none⟩,
    ⟨some 4, .mv (.t 10), none⟩,
    ⟨some 5, .mv (.t 11), none⟩])
  (.seq (.reg [⟨some 12, .mv (.t 3), none⟩,
    ⟨some 2, .mv (.t 12), none⟩])
  (.ret)))
theorem is_uri_firstPart : FnIs Tryz.prog 41 13 [.tmp 2] c_uri_firstPart := ⟨⟨_, _, Tryz.func41, rfl, rfl, by kernel_rfl, by kernel_rfl⟩⟩
def c_host_Parse : SCode :=
  .seq (.reg [⟨some 2, .alloc 32 [.s [], .i .i64 0], none⟩,
    ⟨some 3, .mv (.c (.i .i64 0)), none⟩])
  (.seq (.reg [⟨some 10, .mv (.t 0), none⟩,
    ⟨some 11, .call 67 [.t 10, .c (.s [58])], none⟩,
    ⟨some 9, .mv (.t 11), none⟩,
    ⟨some 12, .ext (.t 9) 0, none⟩,
    ⟨some 13, .ext (.t 9) 1, none⟩,
    ⟨some 14, .ext (.t 9) 2, none⟩,
    ⟨some 4, .mv (.t 12), none⟩,
    ⟨some 5, .mv (.t 13), none⟩,
    ⟨some 6, .mv (.t 14), none⟩])
  (.seq (.reg [⟨some 16, .mv (.t 4), none⟩,
    ⟨some 17, .call 69 [.t 16], none⟩,
    ⟨some 15, .mv (.t 17), none⟩,
    ⟨some 18, .ext (.t 15) 0, none⟩,
    ⟨some 19, .ext (.t 15) 1, none⟩,
    ⟨some 4, .mv (.t 18), none⟩,
    ⟨some 7, .mv (.t 19), none⟩])
  (.seq (.seq (.reg [⟨some 20, .mv (.t 7), none⟩,
    ⟨some 21, .bin .neq (.t 20) (.c (.i .i64 0)), none⟩])
  (.cond (.t 21)
   (.seq (.reg [⟨some 22, .build [.s [], .i .i64 0] [], none⟩,
     ⟨some 23, .mv (.t 7), none⟩,
     ⟨none, .store 2 (.t 2) (.t 22), none⟩,
     ⟨some 3, .mv (.t 23), none⟩])
   (.ret))
   (.skip)))
  (.seq (.seq (.reg [⟨some 24, .mv (.t 6), none⟩,
    ⟨some 25, .not (.t 24), none⟩])
  (.cond (.t 25)
   (.seq (.reg [⟨some 26, .mv (.t 4), none⟩,
     ⟨some 27, .build [.s [], .i .i64 0] [(0, (1, .t 26))], none⟩,
     ⟨none, .store 2 (.t 2) (.t 27), none⟩,
     ⟨some 3, .mv (.c (.i .i64 0)), none⟩])
   (.ret))
   (.skip)))
  (.seq (.reg [⟨some 29, .mv (.t 5), none⟩,
    ⟨some 30, .call 70 [.t 29], none⟩,
    ⟨some 28, .mv (.t 30), none⟩,
    ⟨some 31, .ext (.t 28) 0, none⟩,
    ⟨some 32, .ext (.t 28) 1, none⟩,
    ⟨some 8, .mv (.t 31), none⟩,
    ⟨some 7, .mv (.t 32), none⟩])
  (.seq (.seq (.reg [⟨some 33, .mv (.t 7), none⟩,
    ⟨some 34, .bin .neq (.t 33) (.c (.i .i64 0)), none⟩])
  (.cond (.t 34)
   (.seq (.reg [⟨some 35, .build [.s [], .i .i64 0] [], none⟩,
     ⟨some 36, .mv (.t 7), none⟩,
     ⟨none, .store 2 (.t 2) (.t 35), none⟩,
     ⟨some 3, .mv (.t 36), none⟩])
   (.ret))
   (.skip)))
  (.seq (.seq (.reg [⟨some 37, .mv (.t 8), none⟩,
    ⟨some 38, .bin .eql (.t 37) (.c (.i .i64 443)), none⟩])
  (.cond (.t 38)
   (.reg [⟨some 8, .mv (.c (.i .i64 0)), none⟩])
   (.skip)))
  (.seq (.reg [⟨some 39, .mv (.t 4), none⟩,
    ⟨some 40, .mv (.t 8), none⟩,
    ⟨some 41, .build [.s [], .i .i64 0] [(0, (1, .t 39)), (1, (1, .t 40))], none⟩,
    ⟨none, .store 2 (.t 2) (.t 41), none⟩,
    ⟨some 3, .mv (.c (.i .i64 0)), none⟩])
  (.ret)))))))))
theorem is_host_Parse : FnIs Tryz.prog 43 42 [.celln 2 2, .tmp 3] c_host_Parse := ⟨⟨_, _, Tryz.func43, rfl, rfl, by kernel_rfl, by kernel_rfl⟩⟩
def c_percent_Normalize : SCode :=
  .seq (.reg [⟨some 3, .box 9 (.t 1), none⟩,
    ⟨some 4, .mv (.c (.s [])), none⟩,
    ⟨some 5, .mv (.c (.i .i64 0)), none⟩])
  (.seq (.reg [⟨some 6, .mv (.t 0), none⟩,
    ⟨some 7, .mkf 72 [] [.t 3], none⟩,
    ⟨some 8, .call 71 [.t 6, .t 7], none⟩,
    ⟨some 9, .ext (.t 8) 0, none⟩,
    ⟨some 10, .ext (.t 8) 1, none⟩,
    ⟨some 4, .mv (.t 9), none⟩,
    ⟨some 5, .mv (.t 10), none⟩])
  (.ret))
theorem is_percent_Normalize : FnIs Tryz.prog 44 11 [.tmp 4, .tmp 5] c_percent_Normalize := ⟨⟨_, _, Tryz.func44, rfl, rfl, by kernel_rfl, by kernel_rfl⟩⟩
def c_uri_RemoveDots : SCode :=
  .seq (.reg [⟨some 2, .mv (.c (.s [])), none⟩])
  (.seq (.drw [⟨some 6, .mv (.t 0), none⟩,
    ⟨some 7, .mv (.t 0), none⟩,
    ⟨some 8, .lens (.t 7), none⟩,
    ⟨some 9, .mks 5 1 1 (.c (.i .i64 0)) (.t 8), none⟩,
    ⟨some 3, .mv (.t 6), none⟩,
    ⟨some 4, .mv (.t 9), none⟩] 6 [])
  (.seq (.blk 0
   (.loop
    (.seq (.seq (.reg [⟨some 10, .mv (.t 3), none⟩,
      ⟨some 11, .bin .neq (.t 10) (.c (.s [])), none⟩])
    (.cond (.t 11)
     (.skip)
     (.exit 0)))
    (.blk 1
     (.blk 2
      (.seq (.reg [⟨some 26, .mv (.t 3), none⟩,
        ⟨some 27, .call 76 [.t 26, .c (.s [46, 46, 47])], none⟩,
        ⟨some 25, .mv (.t 27), none⟩])
      (.cond (.t 25)
       (.reg [⟨some 28, .mv (.t 3), none⟩,
         ⟨some 29, .slcs (.t 28) (some (.c (.i .i64 3))) none, none⟩,
         ⟨some 3, .mv (.t 29), none⟩])
       (.seq (.seq (.reg [⟨some 31, .mv (.t 3), none⟩,
         ⟨some 32, .call 76 [.t 31, .c (.s [46, 47])], none⟩,
         ⟨some 30, .mv (.t 32), none⟩])
       (.cond (.t 30)
        (.skip)
        (.reg [⟨some 33, .mv (.t 3), none⟩,
          ⟨some 34, .call 76 [.t 33, .c (.s [47, 46, 47])], none⟩,
          ⟨some 30, .mv (.t 34), none⟩])))
       (.cond (.t 30)
        (.reg [⟨some 35, .mv (.t 3), none⟩,
          ⟨some 36, .slcs (.t 35) (some (.c (.i .i64 2))) none, none⟩,
          ⟨some 3, .mv (.t 36), none⟩])
        (.seq (.reg [⟨some 38, .mv (.t 3), none⟩,
          ⟨some 39, .bin .eql (.t 38) (.c (.s [47, 46])), none⟩,
          ⟨some 37, .mv (.t 39), none⟩])
        (.cond (.t 37)
         (.reg [⟨some 3, .mv (.c (.s [47])), none⟩])
         (.seq (.reg [⟨some 41, .mv (.t 3), none⟩,
           ⟨some 42, .call 76 [.t 41, .c (.s [47, 46, 46, 47])], none⟩,
           ⟨some 40, .mv (.t 42), none⟩])
         (.cond (.t 40)
          (.drw [⟨some 43, .mv (.t 3), none⟩,
            ⟨some 44, .slcs (.t 43) (some (.c (.i .i64 3))) none, none⟩,
            ⟨some 45, .mv (.t 4), none⟩,
            ⟨some 46, .call 77 [.t 45], none⟩,
            ⟨some 3, .mv (.t 44), none⟩,
            ⟨some 4, .mv (.t 46), none⟩] 6 [])
          (.seq (.reg [⟨some 48, .mv (.t 3), none⟩,
            ⟨some 49, .bin .eql (.t 48) (.c (.s [47, 46, 46])), none⟩,
            ⟨some 47, .mv (.t 49), none⟩])
          (.cond (.t 47)
           (.reg [⟨some 50, .mv (.t 4), none⟩,
             ⟨some 51, .call 77 [.t 50], none⟩,
             ⟨some 3, .mv (.c (.s [47])), none⟩,
             ⟨some 4, .mv (.t 51), none⟩])
           (.seq (.seq (.reg [⟨some 53, .mv (.t 3), none⟩,
             ⟨some 54, .bin .eql (.t 53) (.c (.s [46])), none⟩,
             ⟨some 52, .mv (.t 54), none⟩])
           (.cond (.t 52)
            (.skip)
            (.reg [⟨some 55, .mv (.t 3), none⟩,
              ⟨some 56, .bin .eql (.t 55) (.c (.s [46, 46])), none⟩,
              ⟨some 52, .mv (.t 56), none⟩])))
           (.cond (.t 52)
            (.reg [⟨some 3, .mv (.c (.s [])), none⟩])
            (.seq (.reg [⟨some 12, .mv (.t 3), none⟩,
              ⟨some 13, .slcs (.t 12) (some (.c (.i .i64 1))) none, none⟩,
              ⟨some 14, .call 41 [.t 13], none⟩,
              ⟨some 15, .lens (.t 14), none⟩,
              ⟨some 16, .bin .add (.c (.i .i64 1)) (.t 15), none⟩,
              ⟨some 5, .mv (.t 16), none⟩])
            (.drw [⟨some 17, .mv (.t 3), none⟩,
              ⟨some 18, .mv (.t 5), none⟩,
              ⟨some 19, .slcs (.t 17) (some (.t 18)) none, none⟩,
              ⟨some 20, .mv (.t 4), none⟩,
              ⟨some 21, .mv (.t 3), none⟩,
              ⟨some 22, .mv (.t 5), none⟩,
              ⟨some 23, .slcs (.t 21) none (some (.t 22)), none⟩,
              ⟨some 24, .apps 5 (.t 20) (.t 23), none⟩,
              ⟨some 3, .mv (.t 19), none⟩,
              ⟨some 4, .mv (.t 24), none⟩] 10 [])))))))))))))))))))
  (.seq (.reg [⟨some 57, .mv (.t 4), none⟩,
    ⟨some 58, .cvbs (.t 57), none⟩,
    ⟨some 2, .mv (.t 58), none⟩])
  (.ret))))
theorem is_uri_RemoveDots : FnIs Tryz.prog 45 59 [.tmp 2] c_uri_RemoveDots := ⟨⟨_, _, Tryz.func45, rfl, rfl, by kernel_rfl, by kernel_rfl⟩⟩
def c_ref06_scheme : SCode :=
  .seq (.reg [⟨some 2, .mv (.c (.b false)), none⟩])
  (.seq (.seq (.reg [⟨some 3, .mv (.c (.i .i64 0)), none⟩])
  (.blk 0
   (.loop
    (.seq (.seq (.reg [⟨some 4, .mv (.t 3), none⟩,
      ⟨some 5, .mv (.t 0), none⟩,
      ⟨some 6, .lens (.t 5), none⟩,
      ⟨some 7, .bin .lss (.t 4) (.t 6), none⟩])
    (.cond (.t 7)
     (.skip)
     (.exit 0)))
    (.seq (.blk 1
     (.seq (.reg [⟨some 10, .mv (.t 0), none⟩,
       ⟨some 11, .mv (.t 3), none⟩,
       ⟨some 12, .idx (.t 10) (.t 11), none⟩,
       ⟨some 13, .call 78 [.t 12], none⟩,
       ⟨some 14, .not (.t 13), none⟩,
       ⟨some 15, .mv (.t 14), none⟩,
       ⟨some 16, .mv (.t 3), some (15, true)⟩,
       ⟨some 17, .bin .eql (.t 16) (.c (.i .i64 0)), some (15, true)⟩,
       ⟨some 18, .mv (.t 17), some (15, true)⟩,
       ⟨some 19, .mv (.t 0), some (18, false)⟩,
       ⟨some 20, .mv (.t 3), some (18, false)⟩,
       ⟨some 21, .idx (.t 19) (.t 20), some (18, false)⟩,
       ⟨some 22, .call 79 [.t 21], some (18, false)⟩,
       ⟨some 23, .not (.t 22), some (18, false)⟩,
       ⟨some 24, .mv (.t 23), some (18, false)⟩,
       ⟨some 25, .mv (.t 0), some (24, true)⟩,
       ⟨some 26, .mv (.t 3), some (24, true)⟩,
       ⟨some 27, .idx (.t 25) (.t 26), some (24, true)⟩,
       ⟨some 28, .call 49 [.t 27, .c (.s [43, 45, 46])], some (24, true)⟩,
       ⟨some 29, .not (.t 28), some (24, true)⟩,
       ⟨some 30, .pick (.t 24) (.t 29) (.c (.b false)), some (18, false)⟩,
       ⟨some 31, .pick (.t 18) (.c (.b true)) (.t 30), some (15, true)⟩,
       ⟨some 32, .pick (.t 15) (.t 31) (.c (.b false)), none⟩])
     (.cond (.t 32)
      (.seq (.reg [⟨some 2, .mv (.c (.b false)), none⟩])
      (.ret))
      (.skip))))
    (.reg [⟨some 8, .mv (.t 3), none⟩,
      ⟨some 9, .bin .add (.t 8) (.c (.i .i64 1)), none⟩,
      ⟨some 3, .mv (.t 9), none⟩]))))))
  (.seq (.reg [⟨some 33, .mv (.t 0), none⟩,
    ⟨some 34, .bin .neq (.t 33) (.c (.s [])), none⟩,
    ⟨some 2, .mv (.t 34), none⟩])
  (.ret)))
theorem is_ref06_scheme : FnIs Tryz.prog 46 35 [.tmp 2] c_ref06_scheme := ⟨⟨_, _, Tryz.func46, rfl, rfl, by kernel_rfl, by kernel_rfl⟩⟩
def c_ref01_Prefix : SCode :=
  .seq (.reg [⟨some 4, .mv (.c (.b false)), none⟩])
  (.seq (.reg [⟨some 5, .mv (.t 0), none⟩,
    ⟨some 6, .lens (.t 5), none⟩,
    ⟨some 7, .mv (.t 1), none⟩,
    ⟨some 8, .lens (.t 7), none⟩,
    ⟨some 9, .bin .geq (.t 6) (.t 8), none⟩,
    ⟨some 10, .mv (.t 9), none⟩,
    ⟨some 11, .mv (.t 0), some (10, true)⟩,
    ⟨some 12, .mv (.t 1), some (10, true)⟩,
    ⟨some 13, .lens (.t 12), some (10, true)⟩,
    ⟨some 14, .slcs (.t 11) none (some (.t 13)), some (10, true)⟩,
    ⟨some 15, .mv (.t 1), some (10, true)⟩,
    ⟨some 16, .bin .eql (.t 14) (.t 15), some (10, true)⟩,
    ⟨some 17, .pick (.t 10) (.t 16) (.c (.b false)), none⟩,
    ⟨some 4, .mv (.t 17), none⟩])
  (.ret))
theorem is_ref01_Prefix : FnIs Tryz.prog 47 18 [.tmp 4] c_ref01_Prefix := ⟨⟨_, _, Tryz.func47, rfl, rfl, by kernel_rfl, by kernel_rfl⟩⟩
def c_ref01_In : SCode :=
  .seq (.reg [⟨some 4, .mv (.c (.b false)), none⟩])
  (.seq (.seq (.reg [⟨some 5, .mv (.c (.i .i64 0)), none⟩])
  (.blk 0
   (.loop
    (.seq (.seq (.reg [⟨some 6, .mv (.t 5), none⟩,
      ⟨some 7, .mv (.t 1), none⟩,
      ⟨some 8, .lens (.t 7), none⟩,
      ⟨some 9, .bin .lss (.t 6) (.t 8), none⟩])
    (.cond (.t 9)
     (.skip)
     (.exit 0)))
    (.seq (.blk 1
     (.seq (.reg [⟨some 12, .mv (.t 1), none⟩,
       ⟨some 13, .mv (.t 5), none⟩,
       ⟨some 14, .idx (.t 12) (.t 13), none⟩,
       ⟨some 15, .mv (.t 0), none⟩,
       ⟨some 16, .bin .eql (.t 14) (.t 15), none⟩])
     (.cond (.t 16)
      (.seq (.reg [⟨some 4, .mv (.c (.b true)), none⟩])
      (.ret))
      (.skip))))
    (.reg [⟨some 10, .mv (.t 5), none⟩,
      ⟨some 11, .bin .add (.t 10) (.c (.i .i64 1)), none⟩,
      ⟨some 5, .mv (.t 11), none⟩]))))))
  (.seq (.reg [⟨some 4, .mv (.c (.b false)), none⟩])
  (.ret)))
theorem is_ref01_In : FnIs Tryz.prog 49 17 [.tmp 4] c_ref01_In := ⟨⟨_, _, Tryz.func49, rfl, rfl, by kernel_rfl, by kernel_rfl⟩⟩
def c_ref05_Host : SCode :=
  .seq (.reg [⟨some 2, .mv (.c (.s [])), none⟩,
    ⟨some 3, .mv (.c (.i .i64 0)), none⟩])
  (.seq (.blk 0
   (.seq (.reg [⟨some 5, .mv (.t 0), none⟩,
     ⟨some 6, .bin .eql (.t 5) (.c (.s [])), none⟩,
     ⟨some 4, .mv (.t 6), none⟩])
   (.cond (.t 4)
    (.seq (.reg [⟨some 2, .mv (.c (.s [])), none⟩,
      ⟨some 3, .mv (.c (.i .i64 3)), none⟩])
    (.ret))
    (.seq (.reg [⟨some 8, .mv (.t 0), none⟩,
      ⟨some 9, .lens (.t 8), none⟩,
      ⟨some 10, .bin .gtr (.t 9) (.c (.i .i64 253)), none⟩,
      ⟨some 7, .mv (.t 10), none⟩])
    (.cond (.t 7)
     (.seq (.reg [⟨some 2, .mv (.c (.s [])), none⟩,
       ⟨some 3, .mv (.c (.i .i64 5)), none⟩])
     (.ret))
     (.seq (.reg [⟨some 12, .mv (.t 0), none⟩,
       ⟨some 13, .call 80 [.t 12], none⟩,
       ⟨some 14, .not (.t 13), none⟩,
       ⟨some 15, .mv (.t 14), none⟩,
       ⟨some 16, .mv (.t 0), some (15, true)⟩,
       ⟨some 17, .call 81 [.t 16], some (15, true)⟩,
       ⟨some 18, .not (.t 17), some (15, true)⟩,
       ⟨some 19, .pick (.t 15) (.t 18) (.c (.b false)), none⟩,
       ⟨some 11, .mv (.t 19), none⟩])
     (.cond (.t 11)
      (.seq (.reg [⟨some 2, .mv (.c (.s [])), none⟩,
        ⟨some 3, .mv (.c (.i .i64 50)), none⟩])
      (.ret))
      (.skip))))))))
  (.seq (.reg [⟨some 20, .mv (.t 0), none⟩,
    ⟨some 21, .call 48 [.t 20], none⟩,
    ⟨some 2, .mv (.t 21), none⟩,
    ⟨some 3, .mv (.c (.i .i64 0)), none⟩])
  (.ret)))
theorem is_ref05_Host : FnIs Tryz.prog 50 22 [.tmp 2, .tmp 3] c_ref05_Host := ⟨⟨_, _, Tryz.func50, rfl, rfl, by kernel_rfl, by kernel_rfl⟩⟩
def c_ref05_Port : SCode :=
  .seq (.reg [⟨some 2, .mv (.c (.i .i64 0)), none⟩,
    ⟨some 3, .mv (.c (.i .i64 0)), none⟩])
  (.seq (.reg [⟨some 7, .mv (.t 0), none⟩,
    ⟨some 8, .call 82 [.t 7, .c (.i .u64 65535)], none⟩,
    ⟨some 6, .mv (.t 8), none⟩,
    ⟨some 9, .ext (.t 6) 0, none⟩,
    ⟨some 10, .ext (.t 6) 1, none⟩,
    ⟨some 4, .mv (.t 9), none⟩,
    ⟨some 5, .mv (.t 10), none⟩])
  (.seq (.seq (.reg [⟨some 11, .mv (.t 5), none⟩,
    ⟨some 12, .bin .neq (.t 11) (.c (.i .i64 0)), none⟩,
    ⟨some 13, .mv (.t 12), none⟩,
    ⟨some 14, .mv (.t 4), some (13, false)⟩,
    ⟨some 15, .bin .eql (.t 14) (.c (.i .u64 0)), some (13, false)⟩,
    ⟨some 16, .pick (.t 13) (.c (.b true)) (.t 15), none⟩])
  (.cond (.t 16)
   (.seq (.reg [⟨some 2, .mv (.c (.i .i64 0)), none⟩,
     ⟨some 3, .mv (.c (.i .i64 51)), none⟩])
   (.ret))
   (.skip)))
  (.seq (.reg [⟨some 17, .mv (.t 4), none⟩,
    ⟨some 18, .cvi .i64 (.t 17), none⟩,
    ⟨some 2, .mv (.t 18), none⟩,
    ⟨some 3, .mv (.c (.i .i64 0)), none⟩])
  (.ret))))
theorem is_ref05_Port : FnIs Tryz.prog 51 19 [.tmp 2, .tmp 3] c_ref05_Port := ⟨⟨_, _, Tryz.func51, rfl, rfl, by kernel_rfl, by kernel_rfl⟩⟩
def c_ref01_IsUnreserved : SCode :=
  .seq (.reg [⟨some 2, .mv (.c (.b false)), none⟩])
  (.seq (.reg [⟨some 3, .mv (.t 0), none⟩,
    ⟨some 4, .call 78 [.t 3], none⟩,
    ⟨some 5, .mv (.t 4), none⟩,
    ⟨some 6, .mv (.t 0), some (5, false)⟩,
    ⟨some 7, .call 79 [.t 6], some (5, false)⟩,
    ⟨some 8, .pick (.t 5) (.c (.b true)) (.t 7), none⟩,
    ⟨some 9, .mv (.t 8), none⟩,
    ⟨some 10, .mv (.t 0), some (9, false)⟩,
    ⟨some 11, .call 49 [.t 10, .c (.s [45, 46, 95, 126])], some (9, false)⟩,
    ⟨some 12, .pick (.t 9) (.c (.b true)) (.t 11), none⟩,
    ⟨some 2, .mv (.t 12), none⟩])
  (.ret))
theorem is_ref01_IsUnreserved : FnIs Tryz.prog 52 13 [.tmp 2] c_ref01_IsUnreserved := ⟨⟨_, _, Tryz.func52, rfl, rfl, by kernel_rfl, by kernel_rfl⟩⟩
def c_ref03_escape : SCode :=
  .seq (.reg [⟨some 4, .mv (.c (.i .u8 0)), none⟩,
    ⟨some 5, .mv (.c (.b false)), none⟩])
  (.seq (.seq (.reg [⟨some 6, .mv (.t 1), none⟩,
    ⟨some 7, .bin .add (.t 6) (.c (.i .i64 2)), none⟩,
    ⟨some 8, .mv (.t 0), none⟩,
    ⟨some 9, .lens (.t 8), none⟩,
    ⟨some 10, .bin .geq (.t 7) (.t 9), none⟩,
    ⟨some 11, .mv (.t 10), none⟩,
    ⟨some 12, .mv (.t 0), some (11, false)⟩,
    ⟨some 13, .mv (.t 1), some (11, false)⟩,
    ⟨some 14, .idx (.t 12) (.t 13), some (11, false)⟩,
    ⟨some 15, .bin .neq (.t 14) (.c (.i .u8 37)), some (11, false)⟩,
    ⟨some 16, .pick (.t 11) (.c (.b true)) (.t 15), none⟩,
    ⟨some 17, .mv (.t 16), none⟩,
    ⟨some 18, .mv (.t 0), some (17, false)⟩,
    ⟨some 19, .mv (.t 1), some (17, false)⟩,
    ⟨some 20, .bin .add (.t 19) (.c (.i .i64 1)), some (17, false)⟩,
    ⟨some 21, .idx (.t 18) (.t 20), some (17, false)⟩,
    ⟨some 22, .call 83 [.t 21], some (17, false)⟩,
    ⟨some 23, .not (.t 22), some (17, false)⟩,
    ⟨some 24, .pick (.t 17) (.c (.b true)) (.t 23), none⟩,
    ⟨some 25, .mv (.t 24), none⟩,
    ⟨some 26, .mv (.t 0), some (25, false)⟩,
    ⟨some 27, .mv (.t 1), some (25, false)⟩,
    ⟨some 28, .bin .add (.t 27) (.c (.i .i64 2)), some (25, false)⟩,
    ⟨some 29, .idx (.t 26) (.t 28), some (25, false)⟩,
    ⟨some 30, .call 83 [.t 29], some (25, false)⟩,
    ⟨some 31, .not (.t 30), some (25, false)⟩,
    ⟨some 32, .pick (.t 25) (.c (.b true)) (.t 31), none⟩])
  (.cond (.t 32)
   (.seq (.reg [⟨some 4, .mv (.c (.i .u8 0)), none⟩,
     ⟨some 5, .mv (.c (.b false)), none⟩])
   (.ret))
   (.skip)))
  (.seq (.drw [⟨some 33, .mv (.t 0), none⟩,
    ⟨some 34, .mv (.t 1), none⟩,
    ⟨some 35, .bin .add (.t 34) (.c (.i .i64 1)), none⟩,
    ⟨some 36, .idx (.t 33) (.t 35), none⟩,
    ⟨some 37, .call 84 [.t 36], none⟩,
    ⟨some 38, .bin .mul (.c (.i .u8 16)) (.t 37), none⟩,
    ⟨some 39, .mv (.t 0), none⟩,
    ⟨some 40, .mv (.t 1), none⟩,
    ⟨some 41, .bin .add (.t 40) (.c (.i .i64 2)), none⟩,
    ⟨some 42, .idx (.t 39) (.t 41), none⟩,
    ⟨some 43, .call 84 [.t 42], none⟩,
    ⟨some 44, .bin .add (.t 38) (.t 43), none⟩,
    ⟨some 4, .mv (.t 44), none⟩,
    ⟨some 5, .mv (.c (.b true)), none⟩] 14 [])
  (.ret)))
theorem is_ref03_escape : FnIs Tryz.prog 53 45 [.tmp 4, .tmp 5] c_ref03_escape := ⟨⟨_, _, Tryz.func53, rfl, rfl, by kernel_rfl, by kernel_rfl⟩⟩
def c_ref03_Escape : SCode :=
  .seq (.reg [⟨some 2, .mv (.c (.s [])), none⟩])
  (.seq (.drw [⟨some 3, .mv (.t 0), none⟩,
    ⟨some 4, .bin .quo (.t 3) (.c (.i .u8 16)), none⟩,
    ⟨some 5, .idx (.c (.s [48, 49, 50, 51, 52, 53, 54, 55, 56, 57, 65, 66, 67, 68, 69, 70])) (.t 4), none⟩,
    ⟨some 6, .mv (.t 0), none⟩,
    ⟨some 7, .bin .rem (.t 6) (.c (.i .u8 16)), none⟩,
    ⟨some 8, .idx (.c (.s [48, 49, 50, 51, 52, 53, 54, 55, 56, 57, 65, 66, 67, 68, 69, 70])) (.t 7), none⟩,
    ⟨some 9, .bslice 3 [.i .u8 0, .i .u8 0, .i .u8 0] [(0, (1, .c (.i .u8 37))), (1, (1, .t 5)), (2, (1, .t 8))], none⟩,
    ⟨some 10, .cvbs (.t 9), none⟩,
    ⟨some 2, .mv (.t 10), none⟩] 9 [])
  (.ret))
theorem is_ref03_Escape : FnIs Tryz.prog 54 11 [.tmp 2] c_ref03_Escape := ⟨⟨_, _, Tryz.func54, rfl, rfl, by kernel_rfl, by kernel_rfl⟩⟩
def c_ref06_shorten : SCode :=
  .seq (.reg [⟨some 2, .mv (.c (.s [])), none⟩])
  (.seq (.seq (.reg [⟨some 4, .mv (.t 0), none⟩,
    ⟨some 5, .lens (.t 4), none⟩,
    ⟨some 6, .bin .sub (.t 5) (.c (.i .i64 1)), none⟩,
    ⟨some 3, .mv (.t 6), none⟩])
  (.blk 0
   (.loop
    (.seq (.seq (.reg [⟨some 7, .mv (.t 3), none⟩,
      ⟨some 8, .bin .geq (.t 7) (.c (.i .i64 0)), none⟩])
    (.cond (.t 8)
     (.skip)
     (.exit 0)))
    (.seq (.blk 1
     (.seq (.reg [⟨some 11, .mv (.t 0), none⟩,
       ⟨some 12, .mv (.t 3), none⟩,
       ⟨some 13, .idx (.t 11) (.t 12), none⟩,
       ⟨some 14, .bin .eql (.t 13) (.c (.i .u8 47)), none⟩])
     (.cond (.t 14)
      (.seq (.reg [⟨some 15, .mv (.t 0), none⟩,
        ⟨some 16, .mv (.t 3), none⟩,
        ⟨some 17, .slcs (.t 15) none (some (.t 16)), none⟩,
        ⟨some 2, .mv (.t 17), none⟩])
      (.ret))
      (.skip))))
    (.reg [⟨some 9, .mv (.t 3), none⟩,
      ⟨some 10, .bin .sub (.t 9) (.c (.i .i64 1)), none⟩,
      ⟨some 3, .mv (.t 10), none⟩]))))))
  (.seq (.reg [⟨some 2, .mv (.c (.s [])), none⟩])
  (.ret)))
theorem is_ref06_shorten : FnIs Tryz.prog 55 18 [.tmp 2] c_ref06_shorten := ⟨⟨_, _, Tryz.func55, rfl, rfl, by kernel_rfl, by kernel_rfl⟩⟩
def c_ref05_Decimal : SCode :=
  .seq (.reg [⟨some 2, .mv (.c (.s [])), none⟩])
  (.seq (.seq (.reg [⟨some 3, .mv (.t 0), none⟩,
    ⟨some 4, .bin .lss (.t 3) (.c (.i .i64 0)), none⟩])
  (.cond (.t 4)
   (.seq (.reg [⟨some 5, .mv (.t 0), none⟩,
     ⟨some 6, .bin .add (.t 5) (.c (.i .i64 1)), none⟩,
     ⟨some 7, .neg (.t 6), none⟩,
     ⟨some 8, .cvi .u64 (.t 7), none⟩,
     ⟨some 9, .bin .add (.t 8) (.c (.i .u64 1)), none⟩,
     ⟨some 10, .call 86 [.t 9], none⟩,
     ⟨some 11, .bin .add (.c (.s [45])) (.t 10), none⟩,
     ⟨some 2, .mv (.t 11), none⟩])
   (.ret))
   (.skip)))
  (.seq (.reg [⟨some 12, .mv (.t 0), none⟩,
    ⟨some 13, .cvi .u64 (.t 12), none⟩,
    ⟨some 14, .call 86 [.t 13], none⟩,
    ⟨some 2, .mv (.t 14), none⟩])
  (.ret)))
theorem is_ref05_Decimal : FnIs Tryz.prog 57 15 [.tmp 2] c_ref05_Decimal := ⟨⟨_, _, Tryz.func57, rfl, rfl, by kernel_rfl, by kernel_rfl⟩⟩
def c_uri_merge : SCode :=
  .seq (.reg [⟨some 2, .box 38 (.t 0), none⟩,
    ⟨some 4, .mv (.c (.s [])), none⟩])
  (.seq (.seq (.reg [⟨some 5, .fad 6 (.t 2), none⟩,
    ⟨some 6, .load1 (.t 5), none⟩,
    ⟨some 7, .mv (.t 6), none⟩,
    ⟨some 8, .fad 2 (.t 2), some (7, true)⟩,
    ⟨some 9, .load1 (.t 8), some (7, true)⟩,
    ⟨some 10, .bin .eql (.t 9) (.c (.s [])), some (7, true)⟩,
    ⟨some 11, .pick (.t 7) (.t 10) (.c (.b false)), none⟩])
  (.cond (.t 11)
   (.seq (.reg [⟨some 12, .mv (.t 1), none⟩,
     ⟨some 13, .bin .add (.c (.s [47])) (.t 12), none⟩,
     ⟨some 4, .mv (.t 13), none⟩])
   (.ret))
   (.skip)))
  (.seq (.drw [⟨some 14, .fad 2 (.t 2), none⟩,
    ⟨some 15, .load1 (.t 14), none⟩,
    ⟨some 16, .fad 2 (.t 2), none⟩,
    ⟨some 17, .load1 (.t 16), none⟩,
    ⟨some 18, .call 87 [.t 17, .c (.i .u8 47)], none⟩,
    ⟨some 19, .bin .add (.t 18) (.c (.i .i64 1)), none⟩,
    ⟨some 20, .slcs (.t 15) none (some (.t 19)), none⟩,
    ⟨some 21, .mv (.t 1), none⟩,
    ⟨some 22, .bin .add (.t 20) (.t 21), none⟩,
    ⟨some 4, .mv (.t 22), none⟩] 10 [])
  (.ret)))
theorem is_uri_merge : FnIs Tryz.prog 58 23 [.tmp 4] c_uri_merge := ⟨⟨_, _, Tryz.func58, rfl, rfl, by kernel_rfl, by kernel_rfl⟩⟩
def c_ascii_lower : SCode :=
  .seq (.reg [⟨some 2, .mv (.c (.i .u8 0)), none⟩])
  (.seq (.seq (.reg [⟨some 3, .mv (.t 0), none⟩,
    ⟨some 4, .call 88 [.t 3], none⟩])
  (.cond (.t 4)
   (.seq (.reg [⟨some 5, .mv (.t 0), none⟩,
     ⟨some 6, .bin .add (.t 5) (.c (.i .u8 32)), none⟩,
     ⟨some 2, .mv (.t 6), none⟩])
   (.ret))
   (.skip)))
  (.seq (.reg [⟨some 7, .mv (.t 0), none⟩,
    ⟨some 2, .mv (.t 7), none⟩])
  (.ret)))
theorem is_ascii_lower : FnIs Tryz.prog 59 8 [.tmp 2] c_ascii_lower := ⟨⟨_, _, Tryz.func59, rfl, rfl, by kernel_rfl, by kernel_rfl⟩⟩
def c_uri_concat : SCode :=
  .seq (.reg [⟨some 2, .mv (.c (.s [])), none⟩])
  (.seq (.reg [⟨some 3, .mv (.t 0), none⟩,
    ⟨some 4, .call 89 [.t 3, .c (.s [])], none⟩,
    ⟨some 2, .mv (.t 4), none⟩])
  (.ret))
theorem is_uri_concat : FnIs Tryz.prog 60 5 [.tmp 2] c_uri_concat := ⟨⟨_, _, Tryz.func60, rfl, rfl, by kernel_rfl, by kernel_rfl⟩⟩
def c_uri_given : SCode :=
  .seq (.reg [⟨some 4, .mv (.c (.s [])), none⟩])
  (.seq (.seq (.reg [⟨some 5, .mv (.t 0), none⟩,
    ⟨some 6, .not (.t 5), none⟩])
  (.cond (.t 6)
   (.seq (.reg [⟨some 4, .mv (.c (.s [])), none⟩])
   (.ret))
   (.skip)))
  (.seq (.reg [⟨some 7, .mv (.t 1), none⟩,
    ⟨some 8, .call 60 [.t 7], none⟩,
    ⟨some 4, .mv (.t 8), none⟩])
  (.ret)))
theorem is_uri_given : FnIs Tryz.prog 61 9 [.tmp 4] c_uri_given := ⟨⟨_, _, Tryz.func61, rfl, rfl, by kernel_rfl, by kernel_rfl⟩⟩
def c_ref06_merged : SCode :=
  .seq (.reg [⟨some 2, .box 38 (.t 0), none⟩,
    ⟨some 3, .box 38 (.t 1), none⟩,
    ⟨some 4, .mv (.c (.s [])), none⟩])
  (.seq (.seq (.reg [⟨some 6, .fad 6 (.t 2), none⟩,
    ⟨some 7, .load1 (.t 6), none⟩,
    ⟨some 8, .mv (.t 7), none⟩,
    ⟨some 9, .fad 2 (.t 2), some (8, true)⟩,
    ⟨some 10, .load1 (.t 9), some (8, true)⟩,
    ⟨some 11, .bin .eql (.t 10) (.c (.s [])), some (8, true)⟩,
    ⟨some 12, .pick (.t 8) (.t 11) (.c (.b false)), none⟩])
  (.cond (.t 12)
   (.seq (.reg [⟨some 13, .fad 2 (.t 3), none⟩,
     ⟨some 14, .load1 (.t 13), none⟩,
     ⟨some 15, .bin .add (.c (.s [47])) (.t 14), none⟩,
     ⟨some 4, .mv (.t 15), none⟩])
   (.ret))
   (.skip)))
  (.seq (.seq (.reg [⟨some 16, .fad 2 (.t 2), none⟩,
    ⟨some 17, .load1 (.t 16), none⟩,
    ⟨some 18, .lens (.t 17), none⟩,
    ⟨some 19, .bin .sub (.t 18) (.c (.i .i64 1)), none⟩,
    ⟨some 5, .mv (.t 19), none⟩])
  (.blk 0
   (.loop
    (.seq (.seq (.reg [⟨some 20, .mv (.t 5), none⟩,
      ⟨some 21, .bin .geq (.t 20) (.c (.i .i64 0)), none⟩])
    (.cond (.t 21)
     (.skip)
     (.exit 0)))
    (.seq (.blk 1
     (.seq (.reg [⟨some 24, .fad 2 (.t 2), none⟩,
       ⟨some 25, .load1 (.t 24), none⟩,
       ⟨some 26, .mv (.t 5), none⟩,
       ⟨some 27, .idx (.t 25) (.t 26), none⟩,
       ⟨some 28, .bin .eql (.t 27) (.c (.i .u8 47)), none⟩])
     (.cond (.t 28)
      (.seq (.drw [⟨some 29, .fad 2 (.t 2), none⟩,
        ⟨some 30, .load1 (.t 29), none⟩,
        ⟨some 31, .mv (.t 5), none⟩,
        ⟨some 32, .bin .add (.t 31) (.c (.i .i64 1)), none⟩,
        ⟨some 33, .slcs (.t 30) none (some (.t 32)), none⟩,
        ⟨some 34, .fad 2 (.t 3), none⟩,
        ⟨some 35, .load1 (.t 34), none⟩,
        ⟨some 36, .bin .add (.t 33) (.t 35), none⟩,
        ⟨some 4, .mv (.t 36), none⟩] 9 [])
      (.ret))
      (.skip))))
    (.reg [⟨some 22, .mv (.t 5), none⟩,
      ⟨some 23, .bin .sub (.t 22) (.c (.i .i64 1)), none⟩,
      ⟨some 5, .mv (.t 23), none⟩]))))))
  (.seq (.reg [⟨some 37, .fad 2 (.t 3), none⟩,
    ⟨some 38, .load1 (.t 37), none⟩,
    ⟨some 4, .mv (.t 38), none⟩])
  (.ret))))
theorem is_ref06_merged : FnIs Tryz.prog 62 39 [.tmp 4] c_ref06_merged := ⟨⟨_, _, Tryz.func62, rfl, rfl, by kernel_rfl, by kernel_rfl⟩⟩
def c_ascii_IsAlpha : SCode :=
  .seq (.reg [⟨some 2, .mv (.c (.b false)), none⟩])
  (.seq (.reg [⟨some 3, .mv (.t 0), none⟩,
    ⟨some 4, .bin .geq (.t 3) (.c (.i .u8 97)), none⟩,
    ⟨some 5, .mv (.t 4), none⟩,
    ⟨some 6, .mv (.t 0), some (5, true)⟩,
    ⟨some 7, .bin .leq (.t 6) (.c (.i .u8 122)), some (5, true)⟩,
    ⟨some 8, .pick (.t 5) (.t 7) (.c (.b false)), none⟩,
    ⟨some 9, .mv (.t 8), none⟩,
    ⟨some 10, .mv (.t 0), some (9, false)⟩,
    ⟨some 11, .call 88 [.t 10], some (9, false)⟩,
    ⟨some 12, .pick (.t 9) (.c (.b true)) (.t 11), none⟩,
    ⟨some 2, .mv (.t 12), none⟩])
  (.ret))
theorem is_ascii_IsAlpha : FnIs Tryz.prog 64 13 [.tmp 2] c_ascii_IsAlpha := ⟨⟨_, _, Tryz.func64, rfl, rfl, by kernel_rfl, by kernel_rfl⟩⟩
def c_ascii_IsDigit : SCode :=
  .seq (.reg [⟨some 2, .mv (.c (.b false)), none⟩])
  (.seq (.reg [⟨some 3, .mv (.t 0), none⟩,
    ⟨some 4, .bin .geq (.t 3) (.c (.i .u8 48)), none⟩,
    ⟨some 5, .mv (.t 4), none⟩,
    ⟨some 6, .mv (.t 0), some (5, true)⟩,
    ⟨some 7, .bin .leq (.t 6) (.c (.i .u8 57)), some (5, true)⟩,
    ⟨some 8, .pick (.t 5) (.t 7) (.c (.b false)), none⟩,
    ⟨some 2, .mv (.t 8), none⟩])
  (.ret))
theorem is_ascii_IsDigit : FnIs Tryz.prog 65 9 [.tmp 2] c_ascii_IsDigit := ⟨⟨_, _, Tryz.func65, rfl, rfl, by kernel_rfl, by kernel_rfl⟩⟩
def c_host_Host : SCode :=
  .seq (.reg [⟨some 2, .mv (.c (.s [])), none⟩,
    ⟨some 3, .mv (.c (.i .i64 0)), none⟩])
  (.seq (.blk 0
   (.seq (.reg [⟨some 5, .mv (.t 0), none⟩,
     ⟨some 6, .bin .eql (.t 5) (.c (.s [])), none⟩,
     ⟨some 4, .mv (.t 6), none⟩])
   (.cond (.t 4)
    (.seq (.reg [⟨some 2, .mv (.c (.s [])), none⟩,
      ⟨some 3, .mv (.c (.i .i64 3)), none⟩])
    (.ret))
    (.seq (.reg [⟨some 8, .mv (.t 0), none⟩,
      ⟨some 9, .lens (.t 8), none⟩,
      ⟨some 10, .bin .gtr (.t 9) (.c (.i .i64 253)), none⟩,
      ⟨some 7, .mv (.t 10), none⟩])
    (.cond (.t 7)
     (.seq (.reg [⟨some 2, .mv (.c (.s [])), none⟩,
       ⟨some 3, .mv (.c (.i .i64 5)), none⟩])
     (.ret))
     (.seq (.reg [⟨some 12, .mv (.t 0), none⟩,
       ⟨some 13, .call 94 [.t 12], none⟩,
       ⟨some 14, .not (.t 13), none⟩,
       ⟨some 15, .mv (.t 14), none⟩,
       ⟨some 16, .mv (.t 0), some (15, true)⟩,
       ⟨some 17, .call 95 [.t 16], some (15, true)⟩,
       ⟨some 18, .not (.t 17), some (15, true)⟩,
       ⟨some 19, .pick (.t 15) (.t 18) (.c (.b false)), none⟩,
       ⟨some 11, .mv (.t 19), none⟩])
     (.cond (.t 11)
      (.seq (.reg [⟨some 2, .mv (.c (.s [])), none⟩,
        ⟨some 3, .mv (.c (.i .i64 50)), none⟩])
      (.ret))
      (.skip))))))))
  (.seq (.reg [⟨some 20, .mv (.t 0), none⟩,
    ⟨some 21, .call 96 [.t 20], none⟩,
    ⟨some 2, .mv (.t 21), none⟩,
    ⟨some 3, .mv (.c (.i .i64 0)), none⟩])
  (.ret)))
theorem is_host_Host : FnIs Tryz.prog 69 22 [.tmp 2, .tmp 3] c_host_Host := ⟨⟨_, _, Tryz.func69, rfl, rfl, by kernel_rfl, by kernel_rfl⟩⟩
def c_host_Port : SCode :=
  .seq (.reg [⟨some 2, .mv (.c (.i .i64 0)), none⟩,
    ⟨some 3, .mv (.c (.i .i64 0)), none⟩])
  (.seq (.reg [⟨some 7, .mv (.t 0), none⟩,
    ⟨some 8, .call 97 [.t 7, .c (.i .u64 65535)], none⟩,
    ⟨some 6, .mv (.t 8), none⟩,
    ⟨some 9, .ext (.t 6) 0, none⟩,
    ⟨some 10, .ext (.t 6) 1, none⟩,
    ⟨some 4, .mv (.t 9), none⟩,
    ⟨some 5, .mv (.t 10), none⟩])
  (.seq (.seq (.reg [⟨some 11, .mv (.t 5), none⟩,
    ⟨some 12, .bin .neq (.t 11) (.c (.i .i64 0)), none⟩,
    ⟨some 13, .mv (.t 12), none⟩,
    ⟨some 14, .mv (.t 4), some (13, false)⟩,
    ⟨some 15, .bin .eql (.t 14) (.c (.i .u64 0)), some (13, false)⟩,
    ⟨some 16, .pick (.t 13) (.c (.b true)) (.t 15), none⟩])
  (.cond (.t 16)
   (.seq (.reg [⟨some 2, .mv (.c (.i .i64 0)), none⟩,
     ⟨some 3, .mv (.c (.i .i64 51)), none⟩])
   (.ret))
   (.skip)))
  (.seq (.reg [⟨some 17, .mv (.t 4), none⟩,
    ⟨some 18, .cvi .i64 (.t 17), none⟩,
    ⟨some 2, .mv (.t 18), none⟩,
    ⟨some 3, .mv (.c (.i .i64 0)), none⟩])
  (.ret))))
theorem is_host_Port : FnIs Tryz.prog 70 19 [.tmp 2, .tmp 3] c_host_Port := ⟨⟨_, _, Tryz.func70, rfl, rfl, by kernel_rfl, by kernel_rfl⟩⟩
def c_percent_rewrite : SCode :=
  .seq (.reg [⟨some 4, .mv (.c (.s [])), none⟩,
    ⟨some 5, .mv (.c (.i .i64 0)), none⟩])
  (.seq (.seq (.reg [⟨some 12, .mv (.t 0), none⟩,
    ⟨some 13, .lens (.t 12), none⟩,
    ⟨some 14, .bin .gtr (.t 13) (.c (.i .i64 16384)), none⟩])
  (.cond (.t 14)
   (.seq (.reg [⟨some 4, .mv (.c (.s [])), none⟩,
     ⟨some 5, .mv (.c (.i .i64 5)), none⟩])
   (.ret))
   (.skip)))
  (.seq (.reg [⟨some 15, .mv (.t 0), none⟩,
    ⟨some 16, .lens (.t 15), none⟩,
    ⟨some 17, .mks 5 1 1 (.c (.i .i64 0)) (.t 16), none⟩,
    ⟨some 6, .mv (.t 17), none⟩])
  (.seq (.reg [⟨some 7, .mv (.c (.i .i64 0)), none⟩])
  (.seq (.seq (.reg [⟨some 18, .mv (.t 0), none⟩,
    ⟨some 19, .lens (.t 18), none⟩,
    ⟨some 20, .mv (.c (.i .i64 0)), none⟩])
  (.blk 0
   (.loop
    (.seq (.reg [⟨some 21, .bin .lss (.t 20) (.t 19), none⟩])
    (.seq (.cond (.t 21)
     (.skip)
     (.exit 0))
    (.seq (.blk 1
     (.seq (.reg [⟨some 22, .mv (.t 20), none⟩,
       ⟨some 8, .mv (.t 22), none⟩])
     (.seq (.seq (.reg [⟨some 23, .mv (.t 8), none⟩,
       ⟨some 24, .mv (.t 7), none⟩,
       ⟨some 25, .bin .lss (.t 23) (.t 24), none⟩])
     (.cond (.t 25)
      (.exit 1)
      (.skip)))
     (.seq (.reg [⟨some 26, .mv (.t 0), none⟩,
       ⟨some 27, .mv (.t 8), none⟩,
       ⟨some 28, .idx (.t 26) (.t 27), none⟩,
       ⟨some 9, .mv (.t 28), none⟩,
       ⟨some 10, .mv (.c (.i .i64 1)), none⟩])
     (.seq (.seq (.reg [⟨some 29, .mv (.t 9), none⟩,
       ⟨some 30, .bin .eql (.t 29) (.c (.i .u8 37)), none⟩])
     (.cond (.t 30)
      (.seq (.seq (.reg [⟨some 31, .mv (.t 0), none⟩,
        ⟨some 32, .mv (.t 8), none⟩,
        ⟨some 33, .call 98 [.t 31, .t 32], none⟩,
        ⟨some 34, .not (.t 33), none⟩])
      (.cond (.t 34)
       (.seq (.reg [⟨some 4, .mv (.c (.s [])), none⟩,
         ⟨some 5, .mv (.c (.i .i64 2)), none⟩])
       (.ret))
       (.skip)))
      (.drw [⟨some 35, .mv (.t 0), none⟩,
        ⟨some 36, .mv (.t 8), none⟩,
        ⟨some 37, .bin .add (.t 36) (.c (.i .i64 1)), none⟩,
        ⟨some 38, .idx (.t 35) (.t 37), none⟩,
        ⟨some 39, .call 99 [.t 38], none⟩,
        ⟨some 40, .bin .shl (.t 39) (.c (.i .u64 4)), none⟩,
        ⟨some 41, .mv (.t 0), none⟩,
        ⟨some 42, .mv (.t 8), none⟩,
        ⟨some 43, .bin .add (.t 42) (.c (.i .i64 2)), none⟩,
        ⟨some 44, .idx (.t 41) (.t 43), none⟩,
        ⟨some 45, .call 99 [.t 44], none⟩,
        ⟨some 46, .bin .or (.t 40) (.t 45), none⟩,
        ⟨some 9, .mv (.t 46), none⟩,
        ⟨some 10, .mv (.c (.i .i64 3)), none⟩] 14 []))
      (.skip)))
     (.seq (.reg [⟨some 11, .mv (.c (.i .i64 0)), none⟩])
     (.seq (.seq (.reg [⟨some 48, .mv (.t 1), none⟩,
       ⟨some 49, .mv (.t 6), none⟩,
       ⟨some 50, .mv (.t 9), none⟩,
       ⟨some 51, .mv (.t 10), none⟩,
       ⟨some 52, .bin .eql (.t 51) (.c (.i .i64 3)), none⟩,
       ⟨some 53, .callv (.t 48) [.t 49, .t 50, .t 52], none⟩,
       ⟨some 47, .mv (.t 53), none⟩,
       ⟨some 54, .ext (.t 47) 0, none⟩,
       ⟨some 55, .ext (.t 47) 1, none⟩,
       ⟨some 6, .mv (.t 54), none⟩,
       ⟨some 11, .mv (.t 55), none⟩])
     (.seq (.reg [⟨some 56, .mv (.t 11), none⟩,
       ⟨some 57, .bin .neq (.t 56) (.c (.i .i64 0)), none⟩])
     (.cond (.t 57)
      (.seq (.reg [⟨some 58, .mv (.t 11), none⟩,
        ⟨some 4, .mv (.c (.s [])), none⟩,
        ⟨some 5, .mv (.t 58), none⟩])
      (.ret))
      (.skip))))
     (.reg [⟨some 59, .mv (.t 8), none⟩,
       ⟨some 60, .mv (.t 10), none⟩,
       ⟨some 61, .bin .add (.t 59) (.t 60), none⟩,
       ⟨some 7, .mv (.t 61), none⟩]))))))))
    (.reg [⟨some 62, .bin .add (.t 20) (.c (.i .i64 1)), none⟩,
      ⟨some 20, .mv (.t 62), none⟩])))))))
  (.seq (.reg [⟨some 63, .mv (.t 6), none⟩,
    ⟨some 64, .cvbs (.t 63), none⟩,
    ⟨some 4, .mv (.t 64), none⟩,
    ⟨some 5, .mv (.c (.i .i64 0)), none⟩])
  (.ret))))))
theorem is_percent_rewrite : FnIs Tryz.prog 71 65 [.tmp 4, .tmp 5] c_percent_rewrite := ⟨⟨_, _, Tryz.func71, rfl, rfl, by kernel_rfl, by kernel_rfl⟩⟩
def c_percent_Normalize_1 : SCode :=
  .seq (.reg [⟨some 7, .mv (.c .nil), none⟩,
    ⟨some 8, .mv (.c (.i .i64 0)), none⟩])
  (.seq (.blk 0
   (.seq (.reg [⟨some 10, .mv (.t 2), none⟩,
     ⟨some 11, .mv (.t 10), none⟩,
     ⟨some 12, .mv (.t 1), some (11, true)⟩,
     ⟨some 13, .call 73 [.t 12], some (11, true)⟩,
     ⟨some 14, .not (.t 13), some (11, true)⟩,
     ⟨some 15, .pick (.t 11) (.t 14) (.c (.b false)), none⟩,
     ⟨some 9, .mv (.t 15), none⟩])
   (.cond (.t 9)
    (.seq (.reg [⟨some 16, .mv (.t 0), none⟩,
      ⟨some 17, .mv (.t 1), none⟩,
      ⟨some 18, .call 74 [.t 16, .t 17], none⟩,
      ⟨some 7, .mv (.t 18), none⟩,
      ⟨some 8, .mv (.c (.i .i64 0)), none⟩])
    (.ret))
    (.seq (.reg [⟨some 20, .mv (.t 1), none⟩,
      ⟨some 21, .load1 (.t 3), none⟩,
      ⟨some 22, .call 75 [.t 20, .t 21], none⟩,
      ⟨some 19, .mv (.t 22), none⟩])
    (.cond (.t 19)
     (.seq (.reg [⟨some 23, .mv (.t 0), none⟩,
       ⟨some 24, .mv (.t 1), none⟩,
       ⟨some 25, .bslice 1 [.i .u8 0] [(0, (1, .t 24))], none⟩,
       ⟨some 26, .app 5 1 1 (.t 23) (.t 25), none⟩,
       ⟨some 7, .mv (.t 26), none⟩,
       ⟨some 8, .mv (.c (.i .i64 0)), none⟩])
     (.ret))
     (.skip))))))
  (.seq (.reg [⟨some 27, .mv (.t 0), none⟩,
    ⟨some 7, .mv (.t 27), none⟩,
    ⟨some 8, .mv (.c (.i .i64 1)), none⟩])
  (.ret)))
theorem is_percent_Normalize_1 : FnIs Tryz.prog 72 28 [.tmp 7, .tmp 8] c_percent_Normalize_1 := ⟨⟨_, _, Tryz.func72, rfl, rfl, by kernel_rfl, by kernel_rfl⟩⟩
def c_ascii_IsUnreserved : SCode :=
  .seq (.reg [⟨some 2, .mv (.c (.b false)), none⟩])
  (.seq (.reg [⟨some 3, .mv (.t 0), none⟩,
    ⟨some 4, .call 100 [.t 3], none⟩,
    ⟨some 5, .mv (.t 4), none⟩,
    ⟨some 6, .mv (.t 0), some (5, false)⟩,
    ⟨some 7, .call 101 [.t 6, .c (.s [45, 46, 95, 126])], some (5, false)⟩,
    ⟨some 8, .pick (.t 5) (.c (.b true)) (.t 7), none⟩,
    ⟨some 2, .mv (.t 8), none⟩])
  (.ret))
theorem is_ascii_IsUnreserved : FnIs Tryz.prog 73 9 [.tmp 2] c_ascii_IsUnreserved := ⟨⟨_, _, Tryz.func73, rfl, rfl, by kernel_rfl, by kernel_rfl⟩⟩
def c_percent_appendEscape : SCode :=
  .seq (.reg [⟨some 4, .mv (.c .nil), none⟩])
  (.seq (.drw [⟨some 5, .mv (.t 0), none⟩,
    ⟨some 6, .mv (.t 1), none⟩,
    ⟨some 7, .bin .shr (.t 6) (.c (.i .u64 4)), none⟩,
    ⟨some 8, .idx (.c (.s [48, 49, 50, 51, 52, 53, 54, 55, 56, 57, 65, 66, 67, 68, 69, 70])) (.t 7), none⟩,
    ⟨some 9, .mv (.t 1), none⟩,
    ⟨some 10, .bin .and (.t 9) (.c (.i .u8 15)), none⟩,
    ⟨some 11, .idx (.c (.s [48, 49, 50, 51, 52, 53, 54, 55, 56, 57, 65, 66, 67, 68, 69, 70])) (.t 10), none⟩,
    ⟨some 12, .bslice 3 [.i .u8 0, .i .u8 0, .i .u8 0] [(0, (1, .c (.i .u8 37))), (1, (1, .t 8)), (2, (1, .t 11))], none⟩,
    ⟨some 13, .app 5 1 1 (.t 5) (.t 12), none⟩,
    ⟨some 4, .mv (.t 13), none⟩] 8 [])
  (.ret))
theorem is_percent_appendEscape : FnIs Tryz.prog 74 14 [.tmp 4] c_percent_appendEscape := ⟨⟨_, _, Tryz.func74, rfl, rfl, by kernel_rfl, by kernel_rfl⟩⟩
def c_percent_isPlain : SCode :=
  .seq (.reg [⟨some 4, .mv (.c (.b false)), none⟩])
  (.seq (.reg [⟨some 5, .mv (.t 0), none⟩,
    ⟨some 6, .call 73 [.t 5], none⟩,
    ⟨some 7, .mv (.t 6), none⟩,
    ⟨some 8, .mv (.t 0), some (7, false)⟩,
    ⟨some 9, .bin .neq (.t 8) (.c (.i .u8 37)), some (7, false)⟩,
    ⟨some 10, .mv (.t 9), some (7, false)⟩,
    ⟨some 11, .mv (.t 1), some (10, true)⟩,
    ⟨some 12, .mv (.t 0), some (10, true)⟩,
    ⟨some 13, .call 37 [.t 11, .t 12], some (10, true)⟩,
    ⟨some 14, .bin .geq (.t 13) (.c (.i .i64 0)), some (10, true)⟩,
    ⟨some 15, .pick (.t 10) (.t 14) (.c (.b false)), some (7, false)⟩,
    ⟨some 16, .pick (.t 7) (.c (.b true)) (.t 15), none⟩,
    ⟨some 4, .mv (.t 16), none⟩])
  (.ret))
theorem is_percent_isPlain : FnIs Tryz.prog 75 17 [.tmp 4] c_percent_isPlain := ⟨⟨_, _, Tryz.func75, rfl, rfl, by kernel_rfl, by kernel_rfl⟩⟩
def c_ref01_IsAlpha : SCode :=
  .seq (.reg [⟨some 2, .mv (.c (.b false)), none⟩])
  (.seq (.reg [⟨some 3, .mv (.t 0), none⟩,
    ⟨some 4, .bin .geq (.t 3) (.c (.i .u8 65)), none⟩,
    ⟨some 5, .mv (.t 4), none⟩,
    ⟨some 6, .mv (.t 0), some (5, true)⟩,
    ⟨some 7, .bin .leq (.t 6) (.c (.i .u8 90)), some (5, true)⟩,
    ⟨some 8, .pick (.t 5) (.t 7) (.c (.b false)), none⟩,
    ⟨some 9, .mv (.t 8), none⟩,
    ⟨some 10, .mv (.t 0), some (9, false)⟩,
    ⟨some 11, .bin .geq (.t 10) (.c (.i .u8 97)), some (9, false)⟩,
    ⟨some 12, .mv (.t 11), some (9, false)⟩,
    ⟨some 13, .mv (.t 0), some (12, true)⟩,
    ⟨some 14, .bin .leq (.t 13) (.c (.i .u8 122)), some (12, true)⟩,
    ⟨some 15, .pick (.t 12) (.t 14) (.c (.b false)), some (9, false)⟩,
    ⟨some 16, .pick (.t 9) (.c (.b true)) (.t 15), none⟩,
    ⟨some 2, .mv (.t 16), none⟩])
  (.ret))
theorem is_ref01_IsAlpha : FnIs Tryz.prog 78 17 [.tmp 2] c_ref01_IsAlpha := ⟨⟨_, _, Tryz.func78, rfl, rfl, by kernel_rfl, by kernel_rfl⟩⟩
def c_ref01_IsDigit : SCode :=
  .seq (.reg [⟨some 2, .mv (.c (.b false)), none⟩])
  (.seq (.reg [⟨some 3, .mv (.t 0), none⟩,
    ⟨some 4, .bin .geq (.t 3) (.c (.i .u8 48)), none⟩,
    ⟨some 5, .mv (.t 4), none⟩,
    ⟨some 6, .mv (.t 0), some (5, true)⟩,
    ⟨some 7, .bin .leq (.t 6) (.c (.i .u8 57)), some (5, true)⟩,
    ⟨some 8, .pick (.t 5) (.t 7) (.c (.b false)), none⟩,
    ⟨some 2, .mv (.t 8), none⟩])
  (.ret))
theorem is_ref01_IsDigit : FnIs Tryz.prog 79 9 [.tmp 2] c_ref01_IsDigit := ⟨⟨_, _, Tryz.func79, rfl, rfl, by kernel_rfl, by kernel_rfl⟩⟩
def c_ref05_IsIPv4 : SCode :=
  .seq (.reg [⟨some 2, .mv (.c (.b false)), none⟩])
  (.seq (.reg [⟨some 8, .mv (.t 0), none⟩,
    ⟨some 9, .call 102 [.t 8, .c (.i .u8 46)], none⟩,
    ⟨some 3, .mv (.t 9), none⟩])
  (.seq (.seq (.reg [⟨some 10, .mv (.t 3), none⟩,
    ⟨some 11, .lenr (.t 10), none⟩,
    ⟨some 12, .mv (.c (.i .i64 0)), none⟩])
  (.blk 0
   (.loop
    (.seq (.reg [⟨some 13, .bin .lss (.t 12) (.t 11), none⟩])
    (.seq (.cond (.t 13)
     (.skip)
     (.exit 0))
    (.seq (.blk 1
     (.seq (.reg [⟨some 14, .iad 1 (.t 10) (.t 12), none⟩,
       ⟨some 15, .load1 (.t 14), none⟩,
       ⟨some 5, .mv (.t 15), none⟩])
     (.seq (.reg [⟨some 17, .mv (.t 5), none⟩,
       ⟨some 18, .call 82 [.t 17, .c (.i .u64 255)], none⟩,
       ⟨some 16, .mv (.t 18), none⟩,
       ⟨some 19, .ext (.t 16) 0, none⟩,
       ⟨some 20, .ext (.t 16) 1, none⟩,
       ⟨some 6, .mv (.t 19), none⟩,
       ⟨some 7, .mv (.t 20), none⟩])
     (.seq (.reg [⟨some 21, .mv (.t 7), none⟩,
       ⟨some 22, .bin .neq (.t 21) (.c (.i .i64 0)), none⟩])
     (.cond (.t 22)
      (.seq (.reg [⟨some 2, .mv (.c (.b false)), none⟩])
      (.ret))
      (.skip))))))
    (.reg [⟨some 23, .bin .add (.t 12) (.c (.i .i64 1)), none⟩,
      ⟨some 12, .mv (.t 23), none⟩])))))))
  (.seq (.reg [⟨some 24, .mv (.t 3), none⟩,
    ⟨some 25, .lenr (.t 24), none⟩,
    ⟨some 26, .bin .eql (.t 25) (.c (.i .i64 4)), none⟩,
    ⟨some 2, .mv (.t 26), none⟩])
  (.ret))))
theorem is_ref05_IsIPv4 : FnIs Tryz.prog 80 27 [.tmp 2] c_ref05_IsIPv4 := ⟨⟨_, _, Tryz.func80, rfl, rfl, by kernel_rfl, by kernel_rfl⟩⟩
def c_ref05_name : SCode :=
  .seq (.reg [⟨some 2, .mv (.c (.b false)), none⟩])
  (.seq (.reg [⟨some 6, .mv (.t 0), none⟩,
    ⟨some 7, .call 102 [.t 6, .c (.i .u8 46)], none⟩,
    ⟨some 3, .mv (.t 7), none⟩])
  (.seq (.seq (.reg [⟨some 8, .mv (.t 3), none⟩,
    ⟨some 9, .lenr (.t 8), none⟩,
    ⟨some 10, .mv (.c (.i .i64 0)), none⟩])
  (.blk 0
   (.loop
    (.seq (.reg [⟨some 11, .bin .lss (.t 10) (.t 9), none⟩])
    (.seq (.cond (.t 11)
     (.skip)
     (.exit 0))
    (.seq (.blk 1
     (.seq (.reg [⟨some 12, .iad 1 (.t 8) (.t 10), none⟩,
       ⟨some 13, .load1 (.t 12), none⟩,
       ⟨some 5, .mv (.t 13), none⟩])
     (.seq (.reg [⟨some 14, .mv (.t 5), none⟩,
       ⟨some 15, .call 103 [.t 14], none⟩,
       ⟨some 16, .not (.t 15), none⟩])
     (.cond (.t 16)
      (.seq (.reg [⟨some 2, .mv (.c (.b false)), none⟩])
      (.ret))
      (.skip)))))
    (.reg [⟨some 17, .bin .add (.t 10) (.c (.i .i64 1)), none⟩,
      ⟨some 10, .mv (.t 17), none⟩])))))))
  (.seq (.reg [⟨some 18, .mv (.t 3), none⟩,
    ⟨some 19, .mv (.t 3), none⟩,
    ⟨some 20, .lenr (.t 19), none⟩,
    ⟨some 21, .bin .sub (.t 20) (.c (.i .i64 1)), none⟩,
    ⟨some 22, .iad 1 (.t 18) (.t 21), none⟩,
    ⟨some 23, .load1 (.t 22), none⟩,
    ⟨some 24, .call 104 [.t 23], none⟩,
    ⟨some 25, .not (.t 24), none⟩,
    ⟨some 2, .mv (.t 25), none⟩])
  (.ret))))
theorem is_ref05_name : FnIs Tryz.prog 81 26 [.tmp 2] c_ref05_name := ⟨⟨_, _, Tryz.func81, rfl, rfl, by kernel_rfl, by kernel_rfl⟩⟩
def c_ref04_Strict : SCode :=
  .seq (.reg [⟨some 4, .mv (.c (.i .u64 0)), none⟩,
    ⟨some 5, .mv (.c (.i .i64 0)), none⟩])
  (.seq (.reg [⟨some 9, .mv (.t 0), none⟩,
    ⟨some 10, .mv (.t 1), none⟩,
    ⟨some 11, .call 105 [.t 9, .c (.i .u64 10), .t 10], none⟩,
    ⟨some 8, .mv (.t 11), none⟩,
    ⟨some 12, .ext (.t 8) 0, none⟩,
    ⟨some 13, .ext (.t 8) 1, none⟩,
    ⟨some 6, .mv (.t 12), none⟩,
    ⟨some 7, .mv (.t 13), none⟩])
  (.seq (.seq (.reg [⟨some 14, .mv (.t 7), none⟩,
    ⟨some 15, .bin .eql (.t 14) (.c (.i .i64 0)), none⟩,
    ⟨some 16, .mv (.t 15), none⟩,
    ⟨some 17, .mv (.t 7), some (16, false)⟩,
    ⟨some 18, .bin .eql (.t 17) (.c (.i .i64 4)), some (16, false)⟩,
    ⟨some 19, .pick (.t 16) (.c (.b true)) (.t 18), none⟩,
    ⟨some 20, .mv (.t 19), none⟩,
    ⟨some 21, .mv (.t 0), some (20, true)⟩,
    ⟨some 22, .lens (.t 21), some (20, true)⟩,
    ⟨some 23, .bin .gtr (.t 22) (.c (.i .i64 1)), some (20, true)⟩,
    ⟨some 24, .pick (.t 20) (.t 23) (.c (.b false)), none⟩,
    ⟨some 25, .mv (.t 24), none⟩,
    ⟨some 26, .mv (.t 0), some (25, true)⟩,
    ⟨some 27, .idx (.t 26) (.c (.i .i64 0)), some (25, true)⟩,
    ⟨some 28, .bin .eql (.t 27) (.c (.i .u8 48)), some (25, true)⟩,
    ⟨some 29, .pick (.t 25) (.t 28) (.c (.b false)), none⟩])
  (.cond (.t 29)
   (.seq (.reg [⟨some 4, .mv (.c (.i .u64 0)), none⟩,
     ⟨some 5, .mv (.c (.i .i64 6)), none⟩])
   (.ret))
   (.skip)))
  (.seq (.reg [⟨some 30, .mv (.t 6), none⟩,
    ⟨some 31, .mv (.t 7), none⟩,
    ⟨some 4, .mv (.t 30), none⟩,
    ⟨some 5, .mv (.t 31), none⟩])
  (.ret))))
theorem is_ref04_Strict : FnIs Tryz.prog 82 32 [.tmp 4, .tmp 5] c_ref04_Strict := ⟨⟨_, _, Tryz.func82, rfl, rfl, by kernel_rfl, by kernel_rfl⟩⟩
def c_ref01_IsHex : SCode :=
  .seq (.reg [⟨some 2, .mv (.c (.b false)), none⟩])
  (.seq (.reg [⟨some 3, .mv (.t 0), none⟩,
    ⟨some 4, .call 79 [.t 3], none⟩,
    ⟨some 5, .mv (.t 4), none⟩,
    ⟨some 6, .mv (.t 0), some (5, false)⟩,
    ⟨some 7, .bin .geq (.t 6) (.c (.i .u8 65)), some (5, false)⟩,
    ⟨some 8, .mv (.t 7), some (5, false)⟩,
    ⟨some 9, .mv (.t 0), some (8, true)⟩,
    ⟨some 10, .bin .leq (.t 9) (.c (.i .u8 70)), some (8, true)⟩,
    ⟨some 11, .pick (.t 8) (.t 10) (.c (.b false)), some (5, false)⟩,
    ⟨some 12, .pick (.t 5) (.c (.b true)) (.t 11), none⟩,
    ⟨some 13, .mv (.t 12), none⟩,
    ⟨some 14, .mv (.t 0), some (13, false)⟩,
    ⟨some 15, .bin .geq (.t 14) (.c (.i .u8 97)), some (13, false)⟩,
    ⟨some 16, .mv (.t 15), some (13, false)⟩,
    ⟨some 17, .mv (.t 0), some (16, true)⟩,
    ⟨some 18, .bin .leq (.t 17) (.c (.i .u8 102)), some (16, true)⟩,
    ⟨some 19, .pick (.t 16) (.t 18) (.c (.b false)), some (13, false)⟩,
    ⟨some 20, .pick (.t 13) (.c (.b true)) (.t 19), none⟩,
    ⟨some 2, .mv (.t 20), none⟩])
  (.ret))
theorem is_ref01_IsHex : FnIs Tryz.prog 83 21 [.tmp 2] c_ref01_IsHex := ⟨⟨_, _, Tryz.func83, rfl, rfl, by kernel_rfl, by kernel_rfl⟩⟩
def c_ref03_digit : SCode :=
  .seq (.reg [⟨some 2, .mv (.c (.i .u8 0)), none⟩])
  (.seq (.blk 0
   (.seq (.reg [⟨some 4, .mv (.t 0), none⟩,
     ⟨some 5, .bin .leq (.t 4) (.c (.i .u8 57)), none⟩,
     ⟨some 3, .mv (.t 5), none⟩])
   (.cond (.t 3)
    (.seq (.reg [⟨some 6, .mv (.t 0), none⟩,
      ⟨some 7, .bin .sub (.t 6) (.c (.i .u8 48)), none⟩,
      ⟨some 2, .mv (.t 7), none⟩])
    (.ret))
    (.seq (.reg [⟨some 9, .mv (.t 0), none⟩,
      ⟨some 10, .bin .leq (.t 9) (.c (.i .u8 70)), none⟩,
      ⟨some 8, .mv (.t 10), none⟩])
    (.cond (.t 8)
     (.seq (.reg [⟨some 11, .mv (.t 0), none⟩,
       ⟨some 12, .bin .sub (.t 11) (.c (.i .u8 65)), none⟩,
       ⟨some 13, .bin .add (.t 12) (.c (.i .u8 10)), none⟩,
       ⟨some 2, .mv (.t 13), none⟩])
     (.ret))
     (.skip))))))
  (.seq (.reg [⟨some 14, .mv (.t 0), none⟩,
    ⟨some 15, .bin .sub (.t 14) (.c (.i .u8 97)), none⟩,
    ⟨some 16, .bin .add (.t 15) (.c (.i .u8 10)), none⟩,
    ⟨some 2, .mv (.t 16), none⟩])
  (.ret)))
theorem is_ref03_digit : FnIs Tryz.prog 84 17 [.tmp 2] c_ref03_digit := ⟨⟨_, _, Tryz.func84, rfl, rfl, by kernel_rfl, by kernel_rfl⟩⟩
def c_ref04_Format : SCode :=
  .seq (.reg [⟨some 2, .mv (.c (.s [])), none⟩])
  (.seq (.reg [⟨some 3, .mv (.c (.s [])), none⟩])
  (.blk 0
   (.loop
    (.blk 1
     (.seq (.reg [⟨some 4, .mv (.t 0), none⟩,
       ⟨some 5, .bin .rem (.t 4) (.c (.i .u64 10)), none⟩,
       ⟨some 6, .bin .add (.c (.i .u64 48)) (.t 5), none⟩,
       ⟨some 7, .cvi .u8 (.t 6), none⟩,
       ⟨some 8, .bslice 1 [.i .u8 0] [(0, (1, .t 7))], none⟩,
       ⟨some 9, .cvbs (.t 8), none⟩,
       ⟨some 10, .mv (.t 3), none⟩,
       ⟨some 11, .bin .add (.t 9) (.t 10), none⟩,
       ⟨some 3, .mv (.t 11), none⟩])
     (.seq (.reg [⟨some 12, .mv (.t 0), none⟩,
       ⟨some 13, .bin .quo (.t 12) (.c (.i .u64 10)), none⟩,
       ⟨some 0, .mv (.t 13), none⟩])
     (.seq (.reg [⟨some 14, .mv (.t 0), none⟩,
       ⟨some 15, .bin .eql (.t 14) (.c (.i .u64 0)), none⟩])
     (.cond (.t 15)
      (.seq (.reg [⟨some 16, .mv (.t 3), none⟩,
        ⟨some 2, .mv (.t 16), none⟩])
      (.ret))
      (.skip)))))))))
theorem is_ref04_Format : FnIs Tryz.prog 86 17 [.tmp 2] c_ref04_Format := ⟨⟨_, _, Tryz.func86, rfl, rfl, by kernel_rfl, by kernel_rfl⟩⟩
def c_ascii_isCapital : SCode :=
  .seq (.reg [⟨some 2, .mv (.c (.b false)), none⟩])
  (.seq (.reg [⟨some 3, .mv (.t 0), none⟩,
    ⟨some 4, .bin .geq (.t 3) (.c (.i .u8 65)), none⟩,
    ⟨some 5, .mv (.t 4), none⟩,
    ⟨some 6, .mv (.t 0), some (5, true)⟩,
    ⟨some 7, .bin .leq (.t 6) (.c (.i .u8 90)), some (5, true)⟩,
    ⟨some 8, .pick (.t 5) (.t 7) (.c (.b false)), none⟩,
    ⟨some 2, .mv (.t 8), none⟩])
  (.ret))
theorem is_ascii_isCapital : FnIs Tryz.prog 88 9 [.tmp 2] c_ascii_isCapital := ⟨⟨_, _, Tryz.func88, rfl, rfl, by kernel_rfl, by kernel_rfl⟩⟩
def c_host_isName : SCode :=
  .seq (.reg [⟨some 2, .mv (.c (.b false)), none⟩])
  (.seq (.reg [⟨some 7, .mv (.t 0), none⟩,
    ⟨some 3, .mv (.t 7), none⟩])
  (.seq (.seq (.reg [⟨some 8, .mv (.t 0), none⟩,
    ⟨some 9, .lens (.t 8), none⟩,
    ⟨some 10, .mv (.c (.i .i64 0)), none⟩])
  (.blk 0
   (.loop
    (.seq (.reg [⟨some 11, .bin .lss (.t 10) (.t 9), none⟩])
    (.seq (.cond (.t 11)
     (.skip)
     (.exit 0))
    (.seq (.blk 1
     (.seq (.reg [⟨some 13, .mv (.t 3), none⟩,
       ⟨some 14, .call 67 [.t 13, .c (.s [46])], none⟩,
       ⟨some 12, .mv (.t 14), none⟩,
       ⟨some 15, .ext (.t 12) 0, none⟩,
       ⟨some 16, .ext (.t 12) 1, none⟩,
       ⟨some 17, .ext (.t 12) 2, none⟩,
       ⟨some 4, .mv (.t 15), none⟩,
       ⟨some 5, .mv (.t 16), none⟩,
       ⟨some 6, .mv (.t 17), none⟩])
     (.seq (.seq (.reg [⟨some 18, .mv (.t 4), none⟩,
       ⟨some 19, .call 114 [.t 18], none⟩,
       ⟨some 20, .not (.t 19), none⟩])
     (.cond (.t 20)
      (.seq (.reg [⟨some 2, .mv (.c (.b false)), none⟩])
      (.ret))
      (.skip)))
     (.seq (.seq (.reg [⟨some 21, .mv (.t 6), none⟩,
       ⟨some 22, .not (.t 21), none⟩])
     (.cond (.t 22)
      (.seq (.reg [⟨some 23, .mv (.t 4), none⟩,
        ⟨some 24, .call 115 [.t 23], none⟩,
        ⟨some 25, .not (.t 24), none⟩,
        ⟨some 2, .mv (.t 25), none⟩])
      (.ret))
      (.skip)))
     (.reg [⟨some 26, .mv (.t 5), none⟩,
       ⟨some 3, .mv (.t 26), none⟩])))))
    (.reg [⟨some 27, .bin .add (.t 10) (.c (.i .i64 1)), none⟩,
      ⟨some 10, .mv (.t 27), none⟩])))))))
  (.seq (.reg [⟨some 2, .mv (.c (.b false)), none⟩])
  (.ret))))
theorem is_host_isName : FnIs Tryz.prog 94 28 [.tmp 2] c_host_isName := ⟨⟨_, _, Tryz.func94, rfl, rfl, by kernel_rfl, by kernel_rfl⟩⟩
def c_host_IsIPv4 : SCode :=
  .seq (.reg [⟨some 2, .mv (.c (.b false)), none⟩])
  (.seq (.reg [⟨some 11, .mv (.t 0), none⟩,
    ⟨some 3, .mv (.t 11), none⟩])
  (.seq (.seq (.reg [⟨some 12, .mv (.c (.i .i64 0)), none⟩])
  (.blk 0
   (.loop
    (.seq (.reg [⟨some 13, .bin .lss (.t 12) (.c (.i .i64 4)), none⟩])
    (.seq (.cond (.t 13)
     (.skip)
     (.exit 0))
    (.seq (.blk 1
     (.seq (.reg [⟨some 14, .mv (.t 12), none⟩,
       ⟨some 4, .mv (.t 14), none⟩])
     (.seq (.reg [⟨some 16, .mv (.t 3), none⟩,
       ⟨some 17, .call 67 [.t 16, .c (.s [46])], none⟩,
       ⟨some 15, .mv (.t 17), none⟩,
       ⟨some 18, .ext (.t 15) 0, none⟩,
       ⟨some 19, .ext (.t 15) 1, none⟩,
       ⟨some 20, .ext (.t 15) 2, none⟩,
       ⟨some 5, .mv (.t 18), none⟩,
       ⟨some 6, .mv (.t 19), none⟩,
       ⟨some 7, .mv (.t 20), none⟩])
     (.seq (.seq (.reg [⟨some 21, .mv (.t 4), none⟩,
       ⟨some 22, .bin .eql (.t 21) (.c (.i .i64 3)), none⟩,
       ⟨some 8, .mv (.t 22), none⟩])
     (.seq (.reg [⟨some 23, .mv (.t 7), none⟩,
       ⟨some 24, .mv (.t 8), none⟩,
       ⟨some 25, .beq false (.t 23) (.t 24), none⟩])
     (.cond (.t 25)
      (.seq (.reg [⟨some 2, .mv (.c (.b false)), none⟩])
      (.ret))
      (.skip))))
     (.seq (.seq (.reg [⟨some 27, .mv (.t 5), none⟩,
       ⟨some 28, .call 97 [.t 27, .c (.i .u64 255)], none⟩,
       ⟨some 26, .mv (.t 28), none⟩,
       ⟨some 29, .ext (.t 26) 0, none⟩,
       ⟨some 30, .ext (.t 26) 1, none⟩,
       ⟨some 9, .mv (.t 29), none⟩,
       ⟨some 10, .mv (.t 30), none⟩])
     (.seq (.reg [⟨some 31, .mv (.t 10), none⟩,
       ⟨some 32, .bin .neq (.t 31) (.c (.i .i64 0)), none⟩])
     (.cond (.t 32)
      (.seq (.reg [⟨some 2, .mv (.c (.b false)), none⟩])
      (.ret))
      (.skip))))
     (.reg [⟨some 33, .mv (.t 6), none⟩,
       ⟨some 3, .mv (.t 33), none⟩]))))))
    (.reg [⟨some 34, .bin .add (.t 12) (.c (.i .i64 1)), none⟩,
      ⟨some 12, .mv (.t 34), none⟩])))))))
  (.seq (.reg [⟨some 2, .mv (.c (.b true)), none⟩])
  (.ret))))
theorem is_host_IsIPv4 : FnIs Tryz.prog 95 35 [.tmp 2] c_host_IsIPv4 := ⟨⟨_, _, Tryz.func95, rfl, rfl, by kernel_rfl, by kernel_rfl⟩⟩
def c_ascii_Lower : SCode :=
  .seq (.reg [⟨some 2, .mv (.c (.s [])), none⟩])
  (.seq (.reg [⟨some 5, .mv (.t 0), none⟩,
    ⟨some 6, .lens (.t 5), none⟩,
    ⟨some 7, .mks 5 1 1 (.t 6) (.t 6), none⟩,
    ⟨some 3, .mv (.t 7), none⟩])
  (.seq (.seq (.reg [⟨some 8, .mv (.t 0), none⟩,
    ⟨some 9, .lens (.t 8), none⟩,
    ⟨some 10, .mv (.c (.i .i64 0)), none⟩])
  (.blk 0
   (.loop
    (.seq (.reg [⟨some 11, .bin .lss (.t 10) (.t 9), none⟩])
    (.seq (.cond (.t 11)
     (.skip)
     (.exit 0))
    (.seq (.blk 1
     (.seq (.reg [⟨some 12, .mv (.t 10), none⟩,
       ⟨some 4, .mv (.t 12), none⟩])
     (.reg [⟨some 13, .mv (.t 3), none⟩,
       ⟨some 14, .mv (.t 4), none⟩,
       ⟨some 15, .mv (.t 0), none⟩,
       ⟨some 16, .mv (.t 4), none⟩,
       ⟨some 17, .idx (.t 15) (.t 16), none⟩,
       ⟨some 18, .call 59 [.t 17], none⟩,
       ⟨some 19, .iad 1 (.t 13) (.t 14), none⟩,
       ⟨none, .store 1 (.t 19) (.t 18), none⟩])))
    (.reg [⟨some 20, .bin .add (.t 10) (.c (.i .i64 1)), none⟩,
      ⟨some 10, .mv (.t 20), none⟩])))))))
  (.seq (.reg [⟨some 21, .mv (.t 3), none⟩,
    ⟨some 22, .cvbs (.t 21), none⟩,
    ⟨some 2, .mv (.t 22), none⟩])
  (.ret))))
theorem is_ascii_Lower : FnIs Tryz.prog 96 23 [.tmp 2] c_ascii_Lower := ⟨⟨_, _, Tryz.func96, rfl, rfl, by kernel_rfl, by kernel_rfl⟩⟩
def c_number_Strict : SCode :=
  .seq (.reg [⟨some 4, .mv (.c (.i .u64 0)), none⟩,
    ⟨some 5, .mv (.c (.i .i64 0)), none⟩])
  (.seq (.seq (.reg [⟨some 7, .mv (.t 0), none⟩,
    ⟨some 8, .call 116 [.t 7, .c (.fn 65 [] [])], none⟩,
    ⟨some 6, .mv (.t 8), none⟩])
  (.seq (.reg [⟨some 9, .mv (.t 6), none⟩,
    ⟨some 10, .bin .neq (.t 9) (.c (.i .i64 0)), none⟩])
  (.cond (.t 10)
   (.seq (.reg [⟨some 11, .mv (.t 6), none⟩,
     ⟨some 4, .mv (.c (.i .u64 0)), none⟩,
     ⟨some 5, .mv (.t 11), none⟩])
   (.ret))
   (.skip))))
  (.seq (.seq (.reg [⟨some 12, .mv (.t 0), none⟩,
    ⟨some 13, .lens (.t 12), none⟩,
    ⟨some 14, .bin .gtr (.t 13) (.c (.i .i64 1)), none⟩,
    ⟨some 15, .mv (.t 14), none⟩,
    ⟨some 16, .mv (.t 0), some (15, true)⟩,
    ⟨some 17, .idx (.t 16) (.c (.i .i64 0)), some (15, true)⟩,
    ⟨some 18, .bin .eql (.t 17) (.c (.i .u8 48)), some (15, true)⟩,
    ⟨some 19, .pick (.t 15) (.t 18) (.c (.b false)), none⟩])
  (.cond (.t 19)
   (.seq (.reg [⟨some 4, .mv (.c (.i .u64 0)), none⟩,
     ⟨some 5, .mv (.c (.i .i64 6)), none⟩])
   (.ret))
   (.skip)))
  (.seq (.reg [⟨some 20, .mv (.t 0), none⟩,
    ⟨some 21, .mv (.t 1), none⟩,
    ⟨some 22, .call 117 [.t 20, .c (.i .u64 10), .t 21], none⟩,
    ⟨some 23, .ext (.t 22) 0, none⟩,
    ⟨some 24, .ext (.t 22) 1, none⟩,
    ⟨some 4, .mv (.t 23), none⟩,
    ⟨some 5, .mv (.t 24), none⟩])
  (.ret))))
theorem is_number_Strict : FnIs Tryz.prog 97 25 [.tmp 4, .tmp 5] c_number_Strict := ⟨⟨_, _, Tryz.func97, rfl, rfl, by kernel_rfl, by kernel_rfl⟩⟩
def c_percent_isEscapeAt : SCode :=
  .seq (.reg [⟨some 4, .mv (.c (.b false)), none⟩])
  (.seq (.reg [⟨some 5, .mv (.t 0), none⟩,
    ⟨some 6, .lens (.t 5), none⟩,
    ⟨some 7, .mv (.t 1), none⟩,
    ⟨some 8, .bin .sub (.t 6) (.t 7), none⟩,
    ⟨some 9, .bin .geq (.t 8) (.c (.i .i64 3)), none⟩,
    ⟨some 10, .mv (.t 9), none⟩,
    ⟨some 11, .mv (.t 0), some (10, true)⟩,
    ⟨some 12, .mv (.t 1), some (10, true)⟩,
    ⟨some 13, .bin .add (.t 12) (.c (.i .i64 1)), some (10, true)⟩,
    ⟨some 14, .idx (.t 11) (.t 13), some (10, true)⟩,
    ⟨some 15, .call 118 [.t 14], some (10, true)⟩,
    ⟨some 16, .pick (.t 10) (.t 15) (.c (.b false)), none⟩,
    ⟨some 17, .mv (.t 16), none⟩,
    ⟨some 18, .mv (.t 0), some (17, true)⟩,
    ⟨some 19, .mv (.t 1), some (17, true)⟩,
    ⟨some 20, .bin .add (.t 19) (.c (.i .i64 2)), some (17, true)⟩,
    ⟨some 21, .idx (.t 18) (.t 20), some (17, true)⟩,
    ⟨some 22, .call 118 [.t 21], some (17, true)⟩,
    ⟨some 23, .pick (.t 17) (.t 22) (.c (.b false)), none⟩,
    ⟨some 4, .mv (.t 23), none⟩])
  (.ret))
theorem is_percent_isEscapeAt : FnIs Tryz.prog 98 24 [.tmp 4] c_percent_isEscapeAt := ⟨⟨_, _, Tryz.func98, rfl, rfl, by kernel_rfl, by kernel_rfl⟩⟩
def c_percent_digit : SCode :=
  .seq (.reg [⟨some 2, .mv (.c (.i .u8 0)), none⟩])
  (.seq (.seq (.reg [⟨some 3, .mv (.t 0), none⟩,
    ⟨some 4, .call 65 [.t 3], none⟩])
  (.cond (.t 4)
   (.seq (.reg [⟨some 5, .mv (.t 0), none⟩,
     ⟨some 6, .bin .sub (.t 5) (.c (.i .u8 48)), none⟩,
     ⟨some 2, .mv (.t 6), none⟩])
   (.ret))
   (.skip)))
  (.seq (.reg [⟨some 7, .mv (.t 0), none⟩,
    ⟨some 8, .bin .and (.t 7) (.c (.i .u8 223)), none⟩,
    ⟨some 9, .bin .sub (.t 8) (.c (.i .u8 65)), none⟩,
    ⟨some 10, .bin .add (.t 9) (.c (.i .u8 10)), none⟩,
    ⟨some 2, .mv (.t 10), none⟩])
  (.ret)))
theorem is_percent_digit : FnIs Tryz.prog 99 11 [.tmp 2] c_percent_digit := ⟨⟨_, _, Tryz.func99, rfl, rfl, by kernel_rfl, by kernel_rfl⟩⟩
def c_ascii_isLetterOrDigit : SCode :=
  .seq (.reg [⟨some 2, .mv (.c (.b false)), none⟩])
  (.seq (.reg [⟨some 3, .mv (.t 0), none⟩,
    ⟨some 4, .call 64 [.t 3], none⟩,
    ⟨some 5, .mv (.t 4), none⟩,
    ⟨some 6, .mv (.t 0), some (5, false)⟩,
    ⟨some 7, .call 65 [.t 6], some (5, false)⟩,
    ⟨some 8, .pick (.t 5) (.c (.b true)) (.t 7), none⟩,
    ⟨some 2, .mv (.t 8), none⟩])
  (.ret))
theorem is_ascii_isLetterOrDigit : FnIs Tryz.prog 100 9 [.tmp 2] c_ascii_isLetterOrDigit := ⟨⟨_, _, Tryz.func100, rfl, rfl, by kernel_rfl, by kernel_rfl⟩⟩
def c_ascii_isOneOf : SCode :=
  .seq (.reg [⟨some 4, .mv (.c (.b false)), none⟩])
  (.seq (.reg [⟨some 5, .mv (.t 1), none⟩,
    ⟨some 6, .mv (.t 0), none⟩,
    ⟨some 7, .call 37 [.t 5, .t 6], none⟩,
    ⟨some 8, .bin .geq (.t 7) (.c (.i .i64 0)), none⟩,
    ⟨some 4, .mv (.t 8), none⟩])
  (.ret))
theorem is_ascii_isOneOf : FnIs Tryz.prog 101 9 [.tmp 4] c_ascii_isOneOf := ⟨⟨_, _, Tryz.func101, rfl, rfl, by kernel_rfl, by kernel_rfl⟩⟩
def c_ref01_Split : SCode :=
  .seq (.reg [⟨some 4, .mv (.c .nil), none⟩])
  (.seq (.reg [⟨some 5, .mv (.c .nil), none⟩])
  (.seq (.reg [⟨some 6, .mv (.c (.i .i64 0)), none⟩])
  (.seq (.seq (.reg [⟨some 7, .mv (.c (.i .i64 0)), none⟩])
  (.blk 0
   (.loop
    (.seq (.seq (.reg [⟨some 8, .mv (.t 7), none⟩,
      ⟨some 9, .mv (.t 0), none⟩,
      ⟨some 10, .lens (.t 9), none⟩,
      ⟨some 11, .bin .lss (.t 8) (.t 10), none⟩])
    (.cond (.t 11)
     (.skip)
     (.exit 0)))
    (.seq (.blk 1
     (.seq (.reg [⟨some 14, .mv (.t 0), none⟩,
       ⟨some 15, .mv (.t 7), none⟩,
       ⟨some 16, .idx (.t 14) (.t 15), none⟩,
       ⟨some 17, .mv (.t 1), none⟩,
       ⟨some 18, .bin .eql (.t 16) (.t 17), none⟩])
     (.cond (.t 18)
      (.reg [⟨some 19, .mv (.t 5), none⟩,
        ⟨some 20, .mv (.t 0), none⟩,
        ⟨some 21, .mv (.t 6), none⟩,
        ⟨some 22, .mv (.t 7), none⟩,
        ⟨some 23, .slcs (.t 20) (some (.t 21)) (some (.t 22)), none⟩,
        ⟨some 24, .bslice 1 [.s []] [(0, (1, .t 23))], none⟩,
        ⟨some 25, .app 9 1 16 (.t 19) (.t 24), none⟩,
        ⟨some 26, .mv (.t 7), none⟩,
        ⟨some 27, .bin .add (.t 26) (.c (.i .i64 1)), none⟩,
        ⟨some 5, .mv (.t 25), none⟩,
        ⟨some 6, .mv (.t 27), none⟩])
      (.skip))))
    (.reg [⟨some 12, .mv (.t 7), none⟩,
      ⟨some 13, .bin .add (.t 12) (.c (.i .i64 1)), none⟩,
      ⟨some 7, .mv (.t 13), none⟩]))))))
  (.seq (.reg [⟨some 28, .mv (.t 5), none⟩,
    ⟨some 29, .mv (.t 0), none⟩,
    ⟨some 30, .mv (.t 6), none⟩,
    ⟨some 31, .slcs (.t 29) (some (.t 30)) none, none⟩,
    ⟨some 32, .bslice 1 [.s []] [(0, (1, .t 31))], none⟩,
    ⟨some 33, .app 9 1 16 (.t 28) (.t 32), none⟩,
    ⟨some 4, .mv (.t 33), none⟩])
  (.ret)))))
theorem is_ref01_Split : FnIs Tryz.prog 102 34 [.tmp 4] c_ref01_Split := ⟨⟨_, _, Tryz.func102, rfl, rfl, by kernel_rfl, by kernel_rfl⟩⟩
def c_ref05_label : SCode :=
  .seq (.reg [⟨some 2, .mv (.c (.b false)), none⟩])
  (.seq (.seq (.reg [⟨some 3, .mv (.c (.i .i64 0)), none⟩])
  (.blk 0
   (.loop
    (.seq (.seq (.reg [⟨some 4, .mv (.t 3), none⟩,
      ⟨some 5, .mv (.t 0), none⟩,
      ⟨some 6, .lens (.t 5), none⟩,
      ⟨some 7, .bin .lss (.t 4) (.t 6), none⟩])
    (.cond (.t 7)
     (.skip)
     (.exit 0)))
    (.seq (.blk 1
     (.seq (.reg [⟨some 10, .mv (.t 0), none⟩,
       ⟨some 11, .mv (.t 3), none⟩,
       ⟨some 12, .idx (.t 10) (.t 11), none⟩,
       ⟨some 13, .call 78 [.t 12], none⟩,
       ⟨some 14, .not (.t 13), none⟩,
       ⟨some 15, .mv (.t 14), none⟩,
       ⟨some 16, .mv (.t 0), some (15, true)⟩,
       ⟨some 17, .mv (.t 3), some (15, true)⟩,
       ⟨some 18, .idx (.t 16) (.t 17), some (15, true)⟩,
       ⟨some 19, .call 79 [.t 18], some (15, true)⟩,
       ⟨some 20, .not (.t 19), some (15, true)⟩,
       ⟨some 21, .pick (.t 15) (.t 20) (.c (.b false)), none⟩,
       ⟨some 22, .mv (.t 21), none⟩,
       ⟨some 23, .mv (.t 0), some (22, true)⟩,
       ⟨some 24, .mv (.t 3), some (22, true)⟩,
       ⟨some 25, .idx (.t 23) (.t 24), some (22, true)⟩,
       ⟨some 26, .bin .neq (.t 25) (.c (.i .u8 45)), some (22, true)⟩,
       ⟨some 27, .pick (.t 22) (.t 26) (.c (.b false)), none⟩])
     (.cond (.t 27)
      (.seq (.reg [⟨some 2, .mv (.c (.b false)), none⟩])
      (.ret))
      (.skip))))
    (.reg [⟨some 8, .mv (.t 3), none⟩,
      ⟨some 9, .bin .add (.t 8) (.c (.i .i64 1)), none⟩,
      ⟨some 3, .mv (.t 9), none⟩]))))))
  (.seq (.reg [⟨some 28, .mv (.t 0), none⟩,
    ⟨some 29, .bin .neq (.t 28) (.c (.s [])), none⟩,
    ⟨some 30, .mv (.t 29), none⟩,
    ⟨some 31, .mv (.t 0), some (30, true)⟩,
    ⟨some 32, .lens (.t 31), some (30, true)⟩,
    ⟨some 33, .bin .leq (.t 32) (.c (.i .i64 63)), some (30, true)⟩,
    ⟨some 34, .pick (.t 30) (.t 33) (.c (.b false)), none⟩,
    ⟨some 35, .mv (.t 34), none⟩,
    ⟨some 36, .mv (.t 0), some (35, true)⟩,
    ⟨some 37, .idx (.t 36) (.c (.i .i64 0)), some (35, true)⟩,
    ⟨some 38, .bin .neq (.t 37) (.c (.i .u8 45)), some (35, true)⟩,
    ⟨some 39, .pick (.t 35) (.t 38) (.c (.b false)), none⟩,
    ⟨some 40, .mv (.t 39), none⟩,
    ⟨some 41, .mv (.t 0), some (40, true)⟩,
    ⟨some 42, .mv (.t 0), some (40, true)⟩,
    ⟨some 43, .lens (.t 42), some (40, true)⟩,
    ⟨some 44, .bin .sub (.t 43) (.c (.i .i64 1)), some (40, true)⟩,
    ⟨some 45, .idx (.t 41) (.t 44), some (40, true)⟩,
    ⟨some 46, .bin .neq (.t 45) (.c (.i .u8 45)), some (40, true)⟩,
    ⟨some 47, .pick (.t 40) (.t 46) (.c (.b false)), none⟩,
    ⟨some 2, .mv (.t 47), none⟩])
  (.ret)))
theorem is_ref05_label : FnIs Tryz.prog 103 48 [.tmp 2] c_ref05_label := ⟨⟨_, _, Tryz.func103, rfl, rfl, by kernel_rfl, by kernel_rfl⟩⟩
def c_ref01_Digits : SCode :=
  .seq (.reg [⟨some 2, .mv (.c (.b false)), none⟩])
  (.seq (.seq (.reg [⟨some 3, .mv (.c (.i .i64 0)), none⟩])
  (.blk 0
   (.loop
    (.seq (.seq (.reg [⟨some 4, .mv (.t 3), none⟩,
      ⟨some 5, .mv (.t 0), none⟩,
      ⟨some 6, .lens (.t 5), none⟩,
      ⟨some 7, .bin .lss (.t 4) (.t 6), none⟩])
    (.cond (.t 7)
     (.skip)
     (.exit 0)))
    (.seq (.blk 1
     (.seq (.reg [⟨some 10, .mv (.t 0), none⟩,
       ⟨some 11, .mv (.t 3), none⟩,
       ⟨some 12, .idx (.t 10) (.t 11), none⟩,
       ⟨some 13, .call 79 [.t 12], none⟩,
       ⟨some 14, .not (.t 13), none⟩])
     (.cond (.t 14)
      (.seq (.reg [⟨some 2, .mv (.c (.b false)), none⟩])
      (.ret))
      (.skip))))
    (.reg [⟨some 8, .mv (.t 3), none⟩,
      ⟨some 9, .bin .add (.t 8) (.c (.i .i64 1)), none⟩,
      ⟨some 3, .mv (.t 9), none⟩]))))))
  (.seq (.reg [⟨some 15, .mv (.t 0), none⟩,
    ⟨some 16, .bin .neq (.t 15) (.c (.s [])), none⟩,
    ⟨some 2, .mv (.t 16), none⟩])
  (.ret)))
theorem is_ref01_Digits : FnIs Tryz.prog 104 17 [.tmp 2] c_ref01_Digits := ⟨⟨_, _, Tryz.func104, rfl, rfl, by kernel_rfl, by kernel_rfl⟩⟩
def c_ref04_parse : SCode :=
  .seq (.reg [⟨some 6, .mv (.c (.i .u64 0)), none⟩,
    ⟨some 7, .mv (.c (.i .i64 0)), none⟩])
  (.seq (.seq (.reg [⟨some 12, .mv (.t 0), none⟩,
    ⟨some 13, .bin .eql (.t 12) (.c (.s [])), none⟩])
  (.cond (.t 13)
   (.seq (.reg [⟨some 6, .mv (.c (.i .u64 0)), none⟩,
     ⟨some 7, .mv (.c (.i .i64 3)), none⟩])
   (.ret))
   (.skip)))
  (.seq (.seq (.reg [⟨some 8, .mv (.c (.i .i64 0)), none⟩])
  (.blk 0
   (.loop
    (.seq (.seq (.reg [⟨some 14, .mv (.t 8), none⟩,
      ⟨some 15, .mv (.t 0), none⟩,
      ⟨some 16, .lens (.t 15), none⟩,
      ⟨some 17, .bin .lss (.t 14) (.t 16), none⟩])
    (.cond (.t 17)
     (.skip)
     (.exit 0)))
    (.seq (.blk 1
     (.seq (.reg [⟨some 20, .mv (.t 1), none⟩,
       ⟨some 21, .bin .eql (.t 20) (.c (.i .u64 10)), none⟩,
       ⟨some 22, .mv (.t 21), none⟩,
       ⟨some 23, .mv (.t 0), some (22, true)⟩,
       ⟨some 24, .mv (.t 8), some (22, true)⟩,
       ⟨some 25, .idx (.t 23) (.t 24), some (22, true)⟩,
       ⟨some 26, .call 79 [.t 25], some (22, true)⟩,
       ⟨some 27, .not (.t 26), some (22, true)⟩,
       ⟨some 28, .pick (.t 22) (.t 27) (.c (.b false)), none⟩,
       ⟨some 29, .mv (.t 28), none⟩,
       ⟨some 30, .mv (.t 1), some (29, false)⟩,
       ⟨some 31, .bin .eql (.t 30) (.c (.i .u64 16)), some (29, false)⟩,
       ⟨some 32, .mv (.t 31), some (29, false)⟩,
       ⟨some 33, .mv (.t 0), some (32, true)⟩,
       ⟨some 34, .mv (.t 8), some (32, true)⟩,
       ⟨some 35, .idx (.t 33) (.t 34), some (32, true)⟩,
       ⟨some 36, .call 83 [.t 35], some (32, true)⟩,
       ⟨some 37, .not (.t 36), some (32, true)⟩,
       ⟨some 38, .pick (.t 32) (.t 37) (.c (.b false)), some (29, false)⟩,
       ⟨some 39, .pick (.t 29) (.c (.b true)) (.t 38), none⟩])
     (.cond (.t 39)
      (.seq (.reg [⟨some 6, .mv (.c (.i .u64 0)), none⟩,
        ⟨some 7, .mv (.c (.i .i64 1)), none⟩])
      (.ret))
      (.skip))))
    (.reg [⟨some 18, .mv (.t 8), none⟩,
      ⟨some 19, .bin .add (.t 18) (.c (.i .i64 1)), none⟩,
      ⟨some 8, .mv (.t 19), none⟩]))))))
  (.seq (.reg [⟨some 9, .mv (.c (.i .u64 0)), none⟩])
  (.seq (.seq (.reg [⟨some 10, .mv (.c (.i .i64 0)), none⟩])
  (.blk 2
   (.loop
    (.seq (.seq (.reg [⟨some 40, .mv (.t 10), none⟩,
      ⟨some 41, .mv (.t 0), none⟩,
      ⟨some 42, .lens (.t 41), none⟩,
      ⟨some 43, .bin .lss (.t 40) (.t 42), none⟩])
    (.cond (.t 43)
     (.skip)
     (.exit 2)))
    (.seq (.blk 3
     (.seq (.reg [⟨some 46, .mv (.t 0), none⟩,
       ⟨some 47, .mv (.t 10), none⟩,
       ⟨some 48, .idx (.t 46) (.t 47), none⟩,
       ⟨some 49, .bin .sub (.t 48) (.c (.i .u8 48)), none⟩,
       ⟨some 50, .cvi .u64 (.t 49), none⟩,
       ⟨some 11, .mv (.t 50), none⟩])
     (.seq (.seq (.reg [⟨some 51, .mv (.t 0), none⟩,
       ⟨some 52, .mv (.t 10), none⟩,
       ⟨some 53, .idx (.t 51) (.t 52), none⟩,
       ⟨some 54, .bin .gtr (.t 53) (.c (.i .u8 57)), none⟩])
     (.cond (.t 54)
      (.reg [⟨some 55, .mv (.t 0), none⟩,
        ⟨some 56, .mv (.t 10), none⟩,
        ⟨some 57, .idx (.t 55) (.t 56), none⟩,
        ⟨some 58, .bin .or (.t 57) (.c (.i .u8 32)), none⟩,
        ⟨some 59, .cvi .u64 (.t 58), none⟩,
        ⟨some 60, .bin .sub (.t 59) (.c (.i .u64 97)), none⟩,
        ⟨some 61, .bin .add (.t 60) (.c (.i .u64 10)), none⟩,
        ⟨some 11, .mv (.t 61), none⟩])
      (.skip)))
     (.seq (.seq (.reg [⟨some 62, .mv (.t 9), none⟩,
       ⟨some 63, .mv (.t 2), none⟩,
       ⟨some 64, .mv (.t 1), none⟩,
       ⟨some 65, .bin .quo (.t 63) (.t 64), none⟩,
       ⟨some 66, .bin .gtr (.t 62) (.t 65), none⟩,
       ⟨some 67, .mv (.t 66), none⟩,
       ⟨some 68, .mv (.t 9), some (67, false)⟩,
       ⟨some 69, .mv (.t 1), some (67, false)⟩,
       ⟨some 70, .bin .mul (.t 68) (.t 69), some (67, false)⟩,
       ⟨some 71, .mv (.t 2), some (67, false)⟩,
       ⟨some 72, .mv (.t 11), some (67, false)⟩,
       ⟨some 73, .bin .sub (.t 71) (.t 72), some (67, false)⟩,
       ⟨some 74, .bin .gtr (.t 70) (.t 73), some (67, false)⟩,
       ⟨some 75, .pick (.t 67) (.c (.b true)) (.t 74), none⟩,
       ⟨some 76, .mv (.t 75), none⟩,
       ⟨some 77, .mv (.t 11), some (76, false)⟩,
       ⟨some 78, .mv (.t 2), some (76, false)⟩,
       ⟨some 79, .bin .gtr (.t 77) (.t 78), some (76, false)⟩,
       ⟨some 80, .pick (.t 76) (.c (.b true)) (.t 79), none⟩])
     (.cond (.t 80)
      (.seq (.reg [⟨some 6, .mv (.c (.i .u64 0)), none⟩,
        ⟨some 7, .mv (.c (.i .i64 4)), none⟩])
      (.ret))
      (.skip)))
     (.reg [⟨some 81, .mv (.t 9), none⟩,
       ⟨some 82, .mv (.t 1), none⟩,
       ⟨some 83, .bin .mul (.t 81) (.t 82), none⟩,
       ⟨some 84, .mv (.t 11), none⟩,
       ⟨some 85, .bin .add (.t 83) (.t 84), none⟩,
       ⟨some 9, .mv (.t 85), none⟩])))))
    (.reg [⟨some 44, .mv (.t 10), none⟩,
      ⟨some 45, .bin .add (.t 44) (.c (.i .i64 1)), none⟩,
      ⟨some 10, .mv (.t 45), none⟩]))))))
  (.seq (.reg [⟨some 86, .mv (.t 9), none⟩,
    ⟨some 6, .mv (.t 86), none⟩,
    ⟨some 7, .mv (.c (.i .i64 0)), none⟩])
  (.ret))))))
theorem is_ref04_parse : FnIs Tryz.prog 105 87 [.tmp 6, .tmp 7] c_ref04_parse := ⟨⟨_, _, Tryz.func105, rfl, rfl, by kernel_rfl, by kernel_rfl⟩⟩
def c_host_isLabel : SCode :=
  .seq (.reg [⟨some 2, .mv (.c (.b false)), none⟩])
  (.seq (.seq (.reg [⟨some 4, .mv (.t 0), none⟩,
    ⟨some 5, .bin .eql (.t 4) (.c (.s [])), none⟩,
    ⟨some 6, .mv (.t 5), none⟩,
    ⟨some 7, .mv (.t 0), some (6, false)⟩,
    ⟨some 8, .lens (.t 7), some (6, false)⟩,
    ⟨some 9, .bin .gtr (.t 8) (.c (.i .i64 63)), some (6, false)⟩,
    ⟨some 10, .pick (.t 6) (.c (.b true)) (.t 9), none⟩,
    ⟨some 11, .mv (.t 10), none⟩,
    ⟨some 12, .mv (.t 0), some (11, false)⟩,
    ⟨some 13, .idx (.t 12) (.c (.i .i64 0)), some (11, false)⟩,
    ⟨some 14, .bin .eql (.t 13) (.c (.i .u8 45)), some (11, false)⟩,
    ⟨some 15, .pick (.t 11) (.c (.b true)) (.t 14), none⟩,
    ⟨some 16, .mv (.t 15), none⟩,
    ⟨some 17, .mv (.t 0), some (16, false)⟩,
    ⟨some 18, .mv (.t 0), some (16, false)⟩,
    ⟨some 19, .lens (.t 18), some (16, false)⟩,
    ⟨some 20, .bin .sub (.t 19) (.c (.i .i64 1)), some (16, false)⟩,
    ⟨some 21, .idx (.t 17) (.t 20), some (16, false)⟩,
    ⟨some 22, .bin .eql (.t 21) (.c (.i .u8 45)), some (16, false)⟩,
    ⟨some 23, .pick (.t 16) (.c (.b true)) (.t 22), none⟩])
  (.cond (.t 23)
   (.seq (.reg [⟨some 2, .mv (.c (.b false)), none⟩])
   (.ret))
   (.skip)))
  (.seq (.seq (.reg [⟨some 24, .mv (.t 0), none⟩,
    ⟨some 25, .lens (.t 24), none⟩,
    ⟨some 26, .mv (.c (.i .i64 0)), none⟩])
  (.blk 0
   (.loop
    (.seq (.reg [⟨some 27, .bin .lss (.t 26) (.t 25), none⟩])
    (.seq (.cond (.t 27)
     (.skip)
     (.exit 0))
    (.seq (.blk 1
     (.seq (.reg [⟨some 28, .mv (.t 26), none⟩,
       ⟨some 3, .mv (.t 28), none⟩])
     (.seq (.reg [⟨some 29, .mv (.t 0), none⟩,
       ⟨some 30, .mv (.t 3), none⟩,
       ⟨some 31, .idx (.t 29) (.t 30), none⟩,
       ⟨some 32, .call 64 [.t 31], none⟩,
       ⟨some 33, .not (.t 32), none⟩,
       ⟨some 34, .mv (.t 33), none⟩,
       ⟨some 35, .mv (.t 0), some (34, true)⟩,
       ⟨some 36, .mv (.t 3), some (34, true)⟩,
       ⟨some 37, .idx (.t 35) (.t 36), some (34, true)⟩,
       ⟨some 38, .call 65 [.t 37], some (34, true)⟩,
       ⟨some 39, .not (.t 38), some (34, true)⟩,
       ⟨some 40, .pick (.t 34) (.t 39) (.c (.b false)), none⟩,
       ⟨some 41, .mv (.t 40), none⟩,
       ⟨some 42, .mv (.t 0), some (41, true)⟩,
       ⟨some 43, .mv (.t 3), some (41, true)⟩,
       ⟨some 44, .idx (.t 42) (.t 43), some (41, true)⟩,
       ⟨some 45, .bin .neq (.t 44) (.c (.i .u8 45)), some (41, true)⟩,
       ⟨some 46, .pick (.t 41) (.t 45) (.c (.b false)), none⟩])
     (.cond (.t 46)
      (.seq (.reg [⟨some 2, .mv (.c (.b false)), none⟩])
      (.ret))
      (.skip)))))
    (.reg [⟨some 47, .bin .add (.t 26) (.c (.i .i64 1)), none⟩,
      ⟨some 26, .mv (.t 47), none⟩])))))))
  (.seq (.reg [⟨some 2, .mv (.c (.b true)), none⟩])
  (.ret))))
theorem is_host_isLabel : FnIs Tryz.prog 114 48 [.tmp 2] c_host_isLabel := ⟨⟨_, _, Tryz.func114, rfl, rfl, by kernel_rfl, by kernel_rfl⟩⟩
def c_ascii_Digits : SCode :=
  .seq (.reg [⟨some 2, .mv (.c (.b false)), none⟩])
  (.seq (.seq (.reg [⟨some 4, .mv (.t 0), none⟩,
    ⟨some 5, .lens (.t 4), none⟩,
    ⟨some 6, .mv (.c (.i .i64 0)), none⟩])
  (.blk 0
   (.loop
    (.seq (.reg [⟨some 7, .bin .lss (.t 6) (.t 5), none⟩])
    (.seq (.cond (.t 7)
     (.skip)
     (.exit 0))
    (.seq (.blk 1
     (.seq (.reg [⟨some 8, .mv (.t 6), none⟩,
       ⟨some 3, .mv (.t 8), none⟩])
     (.seq (.reg [⟨some 9, .mv (.t 0), none⟩,
       ⟨some 10, .mv (.t 3), none⟩,
       ⟨some 11, .idx (.t 9) (.t 10), none⟩,
       ⟨some 12, .call 65 [.t 11], none⟩,
       ⟨some 13, .not (.t 12), none⟩])
     (.cond (.t 13)
      (.seq (.reg [⟨some 2, .mv (.c (.b false)), none⟩])
      (.ret))
      (.skip)))))
    (.reg [⟨some 14, .bin .add (.t 6) (.c (.i .i64 1)), none⟩,
      ⟨some 6, .mv (.t 14), none⟩])))))))
  (.seq (.reg [⟨some 15, .mv (.t 0), none⟩,
    ⟨some 16, .bin .neq (.t 15) (.c (.s [])), none⟩,
    ⟨some 2, .mv (.t 16), none⟩])
  (.ret)))
theorem is_ascii_Digits : FnIs Tryz.prog 115 17 [.tmp 2] c_ascii_Digits := ⟨⟨_, _, Tryz.func115, rfl, rfl, by kernel_rfl, by kernel_rfl⟩⟩
def c_number_check : SCode :=
  .seq (.reg [⟨some 4, .mv (.c (.i .i64 0)), none⟩])
  (.seq (.seq (.reg [⟨some 6, .mv (.t 0), none⟩,
    ⟨some 7, .bin .eql (.t 6) (.c (.s [])), none⟩])
  (.cond (.t 7)
   (.seq (.reg [⟨some 4, .mv (.c (.i .i64 3)), none⟩])
   (.ret))
   (.skip)))
  (.seq (.seq (.reg [⟨some 8, .mv (.t 0), none⟩,
    ⟨some 9, .lens (.t 8), none⟩,
    ⟨some 10, .mv (.c (.i .i64 0)), none⟩])
  (.blk 0
   (.loop
    (.seq (.reg [⟨some 11, .bin .lss (.t 10) (.t 9), none⟩])
    (.seq (.cond (.t 11)
     (.skip)
     (.exit 0))
    (.seq (.blk 1
     (.seq (.reg [⟨some 12, .mv (.t 10), none⟩,
       ⟨some 5, .mv (.t 12), none⟩])
     (.seq (.reg [⟨some 13, .mv (.t 1), none⟩,
       ⟨some 14, .mv (.t 0), none⟩,
       ⟨some 15, .mv (.t 5), none⟩,
       ⟨some 16, .idx (.t 14) (.t 15), none⟩,
       ⟨some 17, .callv (.t 13) [.t 16], none⟩,
       ⟨some 18, .not (.t 17), none⟩])
     (.cond (.t 18)
      (.seq (.reg [⟨some 4, .mv (.c (.i .i64 1)), none⟩])
      (.ret))
      (.skip)))))
    (.reg [⟨some 19, .bin .add (.t 10) (.c (.i .i64 1)), none⟩,
      ⟨some 10, .mv (.t 19), none⟩])))))))
  (.seq (.reg [⟨some 4, .mv (.c (.i .i64 0)), none⟩])
  (.ret))))
theorem is_number_check : FnIs Tryz.prog 116 20 [.tmp 4] c_number_check := ⟨⟨_, _, Tryz.func116, rfl, rfl, by kernel_rfl, by kernel_rfl⟩⟩
def c_number_value : SCode :=
  .seq (.reg [⟨some 6, .mv (.c (.i .u64 0)), none⟩,
    ⟨some 7, .mv (.c (.i .i64 0)), none⟩])
  (.seq (.reg [⟨some 8, .mv (.c (.i .u64 0)), none⟩])
  (.seq (.seq (.reg [⟨some 11, .mv (.t 0), none⟩,
    ⟨some 12, .lens (.t 11), none⟩,
    ⟨some 13, .mv (.c (.i .i64 0)), none⟩])
  (.blk 0
   (.loop
    (.seq (.reg [⟨some 14, .bin .lss (.t 13) (.t 12), none⟩])
    (.seq (.cond (.t 14)
     (.skip)
     (.exit 0))
    (.seq (.blk 1
     (.seq (.reg [⟨some 15, .mv (.t 13), none⟩,
       ⟨some 9, .mv (.t 15), none⟩])
     (.seq (.reg [⟨some 16, .mv (.t 0), none⟩,
       ⟨some 17, .mv (.t 9), none⟩,
       ⟨some 18, .idx (.t 16) (.t 17), none⟩,
       ⟨some 19, .call 126 [.t 18], none⟩,
       ⟨some 10, .mv (.t 19), none⟩])
     (.seq (.seq (.reg [⟨some 20, .mv (.t 10), none⟩,
       ⟨some 21, .mv (.t 2), none⟩,
       ⟨some 22, .bin .gtr (.t 20) (.t 21), none⟩,
       ⟨some 23, .mv (.t 22), none⟩,
       ⟨some 24, .mv (.t 8), some (23, false)⟩,
       ⟨some 25, .mv (.t 2), some (23, false)⟩,
       ⟨some 26, .mv (.t 10), some (23, false)⟩,
       ⟨some 27, .bin .sub (.t 25) (.t 26), some (23, false)⟩,
       ⟨some 28, .mv (.t 1), some (23, false)⟩,
       ⟨some 29, .bin .quo (.t 27) (.t 28), some (23, false)⟩,
       ⟨some 30, .bin .gtr (.t 24) (.t 29), some (23, false)⟩,
       ⟨some 31, .pick (.t 23) (.c (.b true)) (.t 30), none⟩])
     (.cond (.t 31)
      (.seq (.reg [⟨some 6, .mv (.c (.i .u64 0)), none⟩,
        ⟨some 7, .mv (.c (.i .i64 4)), none⟩])
      (.ret))
      (.skip)))
     (.reg [⟨some 32, .mv (.t 8), none⟩,
       ⟨some 33, .mv (.t 1), none⟩,
       ⟨some 34, .bin .mul (.t 32) (.t 33), none⟩,
       ⟨some 35, .mv (.t 10), none⟩,
       ⟨some 36, .bin .add (.t 34) (.t 35), none⟩,
       ⟨some 8, .mv (.t 36), none⟩])))))
    (.reg [⟨some 37, .bin .add (.t 13) (.c (.i .i64 1)), none⟩,
      ⟨some 13, .mv (.t 37), none⟩])))))))
  (.seq (.reg [⟨some 38, .mv (.t 8), none⟩,
    ⟨some 6, .mv (.t 38), none⟩,
    ⟨some 7, .mv (.c (.i .i64 0)), none⟩])
  (.ret))))
theorem is_number_value : FnIs Tryz.prog 117 39 [.tmp 6, .tmp 7] c_number_value := ⟨⟨_, _, Tryz.func117, rfl, rfl, by kernel_rfl, by kernel_rfl⟩⟩
def c_ascii_IsHex : SCode :=
  .seq (.reg [⟨some 2, .mv (.c (.b false)), none⟩])
  (.seq (.reg [⟨some 3, .mv (.t 0), none⟩,
    ⟨some 4, .call 65 [.t 3], none⟩,
    ⟨some 5, .mv (.t 4), none⟩,
    ⟨some 6, .mv (.t 0), some (5, false)⟩,
    ⟨some 7, .bin .geq (.t 6) (.c (.i .u8 97)), some (5, false)⟩,
    ⟨some 8, .mv (.t 7), some (5, false)⟩,
    ⟨some 9, .mv (.t 0), some (8, true)⟩,
    ⟨some 10, .bin .leq (.t 9) (.c (.i .u8 102)), some (8, true)⟩,
    ⟨some 11, .pick (.t 8) (.t 10) (.c (.b false)), some (5, false)⟩,
    ⟨some 12, .pick (.t 5) (.c (.b true)) (.t 11), none⟩,
    ⟨some 13, .mv (.t 12), none⟩,
    ⟨some 14, .mv (.t 0), some (13, false)⟩,
    ⟨some 15, .bin .geq (.t 14) (.c (.i .u8 65)), some (13, false)⟩,
    ⟨some 16, .mv (.t 15), some (13, false)⟩,
    ⟨some 17, .mv (.t 0), some (16, true)⟩,
    ⟨some 18, .bin .leq (.t 17) (.c (.i .u8 70)), some (16, true)⟩,
    ⟨some 19, .pick (.t 16) (.t 18) (.c (.b false)), some (13, false)⟩,
    ⟨some 20, .pick (.t 13) (.c (.b true)) (.t 19), none⟩,
    ⟨some 2, .mv (.t 20), none⟩])
  (.ret))
theorem is_ascii_IsHex : FnIs Tryz.prog 118 21 [.tmp 2] c_ascii_IsHex := ⟨⟨_, _, Tryz.func118, rfl, rfl, by kernel_rfl, by kernel_rfl⟩⟩
def c_number_digit : SCode :=
  .seq (.reg [⟨some 2, .mv (.c (.i .u64 0)), none⟩])
  (.seq (.seq (.reg [⟨some 3, .mv (.t 0), none⟩,
    ⟨some 4, .call 65 [.t 3], none⟩])
  (.cond (.t 4)
   (.seq (.reg [⟨some 5, .mv (.t 0), none⟩,
     ⟨some 6, .bin .sub (.t 5) (.c (.i .u8 48)), none⟩,
     ⟨some 7, .cvi .u64 (.t 6), none⟩,
     ⟨some 2, .mv (.t 7), none⟩])
   (.ret))
   (.skip)))
  (.seq (.reg [⟨some 8, .mv (.t 0), none⟩,
    ⟨some 9, .bin .and (.t 8) (.c (.i .u8 223)), none⟩,
    ⟨some 10, .bin .sub (.t 9) (.c (.i .u8 65)), none⟩,
    ⟨some 11, .cvi .u64 (.t 10), none⟩,
    ⟨some 12, .bin .add (.t 11) (.c (.i .u64 10)), none⟩,
    ⟨some 2, .mv (.t 12), none⟩])
  (.ret)))
theorem is_number_digit : FnIs Tryz.prog 126 13 [.tmp 2] c_number_digit := ⟨⟨_, _, Tryz.func126, rfl, rfl, by kernel_rfl, by kernel_rfl⟩⟩
end Go.Proofs.YtkokcmpgebjiaaaGreatDoor.Sx
