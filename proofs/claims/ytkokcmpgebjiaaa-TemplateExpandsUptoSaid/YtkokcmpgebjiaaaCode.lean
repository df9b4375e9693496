/- The functions of the seat's program in the short form: made by program, and compared with the program's text by the kernel. -/
import Derived.Test.YtkokcmpgebjiaaaSxc
import Derived.Test.YtkokcmpgebjiaaaProg
namespace Go.Proofs.Ytkokcmpgebjiaaa.Sx
open Go.RowKit
set_option linter.unusedVariables false
set_option maxRecDepth 100000

def c_law06_UriJoins : SCode :=
  .seq (.reg [⟨some 1, .box 23 (.t 0), none⟩,
    ⟨some 2, .mv (.c (.b false)), none⟩])
  (.seq (.seq (.reg [⟨some 3, .call 9 [], none⟩,
    ⟨some 4, .not (.t 3), none⟩])
  (.cond (.t 4)
   (.seq (.reg [⟨some 2, .mv (.c (.b false)), none⟩])
   (.ret))
   (.skip)))
  (.seq (.drw [⟨some 5, .loadn 9 (.t 1), none⟩,
    ⟨some 6, .call 10 [.t 5], none⟩,
    ⟨some 7, .loadn 9 (.t 1), none⟩,
    ⟨some 8, .call 11 [.t 7], none⟩,
    ⟨some 9, .bin .eql (.t 6) (.t 8), none⟩,
    ⟨some 2, .mv (.t 9), none⟩] 6 [])
  (.ret)))
theorem is_law06_UriJoins : FnIs Try.prog 3 10 [.tmp 2] c_law06_UriJoins := ⟨⟨_, _, Try.func3, rfl, rfl, by kernel_rfl, by kernel_rfl⟩⟩
def c_law06_UriClean : SCode :=
  .seq (.reg [⟨some 2, .mv (.c (.b false)), none⟩])
  (.seq (.seq (.reg [⟨some 6, .call 9 [], none⟩,
    ⟨some 7, .not (.t 6), none⟩])
  (.cond (.t 7)
   (.seq (.reg [⟨some 2, .mv (.c (.b false)), none⟩])
   (.ret))
   (.skip)))
  (.seq (.seq (.reg [⟨some 8, .mv (.t 0), none⟩,
    ⟨some 9, .lens (.t 8), none⟩,
    ⟨some 10, .bin .gtr (.t 9) (.c (.i .i64 1000)), none⟩])
  (.cond (.t 10)
   (.seq (.reg [⟨some 2, .mv (.c (.b true)), none⟩])
   (.ret))
   (.skip)))
  (.seq (.reg [⟨some 11, .mv (.t 0), none⟩,
    ⟨some 12, .bin .add (.c (.s [47])) (.t 11), none⟩,
    ⟨some 13, .call 12 [.t 12], none⟩,
    ⟨some 3, .mv (.t 13), none⟩])
  (.seq (.seq (.reg [⟨some 14, .mv (.t 3), none⟩,
    ⟨some 15, .call 12 [.t 14], none⟩,
    ⟨some 16, .mv (.t 3), none⟩,
    ⟨some 17, .bin .neq (.t 15) (.t 16), none⟩,
    ⟨some 18, .mv (.t 17), none⟩,
    ⟨some 19, .mv (.t 3), some (18, false)⟩,
    ⟨some 20, .lens (.t 19), some (18, false)⟩,
    ⟨some 21, .bin .eql (.t 20) (.c (.i .i64 0)), some (18, false)⟩,
    ⟨some 22, .pick (.t 18) (.c (.b true)) (.t 21), none⟩,
    ⟨some 23, .mv (.t 22), none⟩,
    ⟨some 24, .mv (.t 3), some (23, false)⟩,
    ⟨some 25, .idx (.t 24) (.c (.i .i64 0)), some (23, false)⟩,
    ⟨some 26, .bin .neq (.t 25) (.c (.i .u8 47)), some (23, false)⟩,
    ⟨some 27, .pick (.t 23) (.c (.b true)) (.t 26), none⟩])
  (.cond (.t 27)
   (.seq (.reg [⟨some 2, .mv (.c (.b false)), none⟩])
   (.ret))
   (.skip)))
  (.seq (.seq (.reg [⟨some 28, .mv (.t 3), none⟩,
    ⟨some 29, .call 13 [.t 28, .c (.i .u8 47)], none⟩,
    ⟨some 30, .lenr (.t 29), none⟩,
    ⟨some 31, .mv (.c (.i .i64 0)), none⟩])
  (.blk 0
   (.loop
    (.seq (.reg [⟨some 32, .bin .lss (.t 31) (.t 30), none⟩])
    (.seq (.cond (.t 32)
     (.skip)
     (.exit 0))
    (.seq (.blk 1
     (.seq (.reg [⟨some 33, .iad 1 (.t 29) (.t 31), none⟩,
       ⟨some 34, .load1 (.t 33), none⟩,
       ⟨some 5, .mv (.t 34), none⟩])
     (.seq (.reg [⟨some 35, .mv (.t 5), none⟩,
       ⟨some 36, .bin .eql (.t 35) (.c (.s [46])), none⟩,
       ⟨some 37, .mv (.t 36), none⟩,
       ⟨some 38, .mv (.t 5), some (37, false)⟩,
       ⟨some 39, .bin .eql (.t 38) (.c (.s [46, 46])), some (37, false)⟩,
       ⟨some 40, .pick (.t 37) (.c (.b true)) (.t 39), none⟩])
     (.cond (.t 40)
      (.seq (.reg [⟨some 2, .mv (.c (.b false)), none⟩])
      (.ret))
      (.skip)))))
    (.reg [⟨some 41, .bin .add (.t 31) (.c (.i .i64 1)), none⟩,
      ⟨some 31, .mv (.t 41), none⟩])))))))
  (.seq (.reg [⟨some 2, .mv (.c (.b true)), none⟩])
  (.ret)))))))
theorem is_law06_UriClean : FnIs Try.prog 4 42 [.tmp 2] c_law06_UriClean := ⟨⟨_, _, Try.func4, rfl, rfl, by kernel_rfl, by kernel_rfl⟩⟩
def c_law06_UriExamples : SCode :=
  .seq (.reg [⟨some 0, .mv (.c (.b false)), none⟩])
  (.seq (.reg [⟨some 8, .call 14 [.c (.s [104, 116, 116, 112, 58, 47, 47, 97, 47, 98, 47, 99, 47, 100, 59, 112, 63, 113])], none⟩,
    ⟨some 7, .mv (.t 8), none⟩,
    ⟨some 9, .ext (.t 7) 0, none⟩,
    ⟨some 10, .ext (.t 7) 1, none⟩,
    ⟨some 1, .alloc 23 [.s [], .s [], .s [], .s [], .s [], .b false, .b false, .b false, .b false], none⟩,
    ⟨none, .store 9 (.t 1) (.t 9), none⟩,
    ⟨some 2, .mv (.t 10), none⟩])
  (.seq (.seq (.reg [⟨some 11, .call 9 [], none⟩,
    ⟨some 12, .not (.t 11), none⟩,
    ⟨some 13, .mv (.t 12), none⟩,
    ⟨some 14, .mv (.t 2), some (13, false)⟩,
    ⟨some 15, .bin .neq (.t 14) (.c (.i .i64 0)), some (13, false)⟩,
    ⟨some 16, .pick (.t 13) (.c (.b true)) (.t 15), none⟩])
  (.cond (.t 16)
   (.seq (.reg [⟨some 0, .mv (.c (.b false)), none⟩])
   (.ret))
   (.skip)))
  (.seq (.seq (.reg [⟨some 17, .build [.s [], .s []] [(0, (1, .c (.s [103, 58, 104]))), (1, (1, .c (.s [103, 58, 104])))], none⟩,
    ⟨some 18, .build [.s [], .s []] [(0, (1, .c (.s [103]))), (1, (1, .c (.s [104, 116, 116, 112, 58, 47, 47, 97, 47, 98, 47, 99, 47, 103])))], none⟩,
    ⟨some 19, .build [.s [], .s []] [(0, (1, .c (.s [46, 47, 103]))), (1, (1, .c (.s [104, 116, 116, 112, 58, 47, 47, 97, 47, 98, 47, 99, 47, 103])))], none⟩,
    ⟨some 20, .build [.s [], .s []] [(0, (1, .c (.s [103, 47]))), (1, (1, .c (.s [104, 116, 116, 112, 58, 47, 47, 97, 47, 98, 47, 99, 47, 103, 47])))], none⟩,
    ⟨some 21, .build [.s [], .s []] [(0, (1, .c (.s [47, 103]))), (1, (1, .c (.s [104, 116, 116, 112, 58, 47, 47, 97, 47, 103])))], none⟩,
    ⟨some 22, .build [.s [], .s []] [(0, (1, .c (.s [47, 47, 103]))), (1, (1, .c (.s [104, 116, 116, 112, 58, 47, 47, 103])))], none⟩,
    ⟨some 23, .build [.s [], .s []] [(0, (1, .c (.s [63, 121]))), (1, (1, .c (.s [104, 116, 116, 112, 58, 47, 47, 97, 47, 98, 47, 99, 47, 100, 59, 112, 63, 121])))], none⟩,
    ⟨some 24, .build [.s [], .s []] [(0, (1, .c (.s [103, 63, 121]))), (1, (1, .c (.s [104, 116, 116, 112, 58, 47, 47, 97, 47, 98, 47, 99, 47, 103, 63, 121])))], none⟩,
    ⟨some 25, .build [.s [], .s []] [(0, (1, .c (.s [35, 115]))), (1, (1, .c (.s [104, 116, 116, 112, 58, 47, 47, 97, 47, 98, 47, 99, 47, 100, 59, 112, 63, 113, 35, 115])))], none⟩,
    ⟨some 26, .build [.s [], .s []] [(0, (1, .c (.s [103, 35, 115]))), (1, (1, .c (.s [104, 116, 116, 112, 58, 47, 47, 97, 47, 98, 47, 99, 47, 103, 35, 115])))], none⟩,
    ⟨some 27, .build [.s [], .s []] [(0, (1, .c (.s [103, 63, 121, 35, 115]))), (1, (1, .c (.s [104, 116, 116, 112, 58, 47, 47, 97, 47, 98, 47, 99, 47, 103, 63, 121, 35, 115])))], none⟩,
    ⟨some 28, .build [.s [], .s []] [(0, (1, .c (.s [59, 120]))), (1, (1, .c (.s [104, 116, 116, 112, 58, 47, 47, 97, 47, 98, 47, 99, 47, 59, 120])))], none⟩,
    ⟨some 29, .build [.s [], .s []] [(0, (1, .c (.s [103, 59, 120]))), (1, (1, .c (.s [104, 116, 116, 112, 58, 47, 47, 97, 47, 98, 47, 99, 47, 103, 59, 120])))], none⟩,
    ⟨some 30, .build [.s [], .s []] [(0, (1, .c (.s [103, 59, 120, 63, 121, 35, 115]))), (1, (1, .c (.s [104, 116, 116, 112, 58, 47, 47, 97, 47, 98, 47, 99, 47, 103, 59, 120, 63, 121, 35, 115])))], none⟩,
    ⟨some 31, .build [.s [], .s []] [(0, (1, .c (.s []))), (1, (1, .c (.s [104, 116, 116, 112, 58, 47, 47, 97, 47, 98, 47, 99, 47, 100, 59, 112, 63, 113])))], none⟩,
    ⟨some 32, .build [.s [], .s []] [(0, (1, .c (.s [46]))), (1, (1, .c (.s [104, 116, 116, 112, 58, 47, 47, 97, 47, 98, 47, 99, 47])))], none⟩,
    ⟨some 33, .build [.s [], .s []] [(0, (1, .c (.s [46, 47]))), (1, (1, .c (.s [104, 116, 116, 112, 58, 47, 47, 97, 47, 98, 47, 99, 47])))], none⟩,
    ⟨some 34, .build [.s [], .s []] [(0, (1, .c (.s [46, 46]))), (1, (1, .c (.s [104, 116, 116, 112, 58, 47, 47, 97, 47, 98, 47])))], none⟩,
    ⟨some 35, .build [.s [], .s []] [(0, (1, .c (.s [46, 46, 47]))), (1, (1, .c (.s [104, 116, 116, 112, 58, 47, 47, 97, 47, 98, 47])))], none⟩,
    ⟨some 36, .build [.s [], .s []] [(0, (1, .c (.s [46, 46, 47, 103]))), (1, (1, .c (.s [104, 116, 116, 112, 58, 47, 47, 97, 47, 98, 47, 103])))], none⟩,
    ⟨some 37, .build [.s [], .s []] [(0, (1, .c (.s [46, 46, 47, 46, 46]))), (1, (1, .c (.s [104, 116, 116, 112, 58, 47, 47, 97, 47])))], none⟩,
    ⟨some 38, .build [.s [], .s []] [(0, (1, .c (.s [46, 46, 47, 46, 46, 47]))), (1, (1, .c (.s [104, 116, 116, 112, 58, 47, 47, 97, 47])))], none⟩,
    ⟨some 39, .build [.s [], .s []] [(0, (1, .c (.s [46, 46, 47, 46, 46, 47, 103]))), (1, (1, .c (.s [104, 116, 116, 112, 58, 47, 47, 97, 47, 103])))], none⟩,
    ⟨some 40, .build [.s [], .s []] [(0, (1, .c (.s [46, 46, 47, 46, 46, 47, 46, 46, 47, 103]))), (1, (1, .c (.s [104, 116, 116, 112, 58, 47, 47, 97, 47, 103])))], none⟩,
    ⟨some 41, .build [.s [], .s []] [(0, (1, .c (.s [46, 46, 47, 46, 46, 47, 46, 46, 47, 46, 46, 47, 103]))), (1, (1, .c (.s [104, 116, 116, 112, 58, 47, 47, 97, 47, 103])))], none⟩,
    ⟨some 42, .build [.s [], .s []] [(0, (1, .c (.s [47, 46, 47, 103]))), (1, (1, .c (.s [104, 116, 116, 112, 58, 47, 47, 97, 47, 103])))], none⟩,
    ⟨some 43, .build [.s [], .s []] [(0, (1, .c (.s [47, 46, 46, 47, 103]))), (1, (1, .c (.s [104, 116, 116, 112, 58, 47, 47, 97, 47, 103])))], none⟩,
    ⟨some 44, .build [.s [], .s []] [(0, (1, .c (.s [103, 46]))), (1, (1, .c (.s [104, 116, 116, 112, 58, 47, 47, 97, 47, 98, 47, 99, 47, 103, 46])))], none⟩,
    ⟨some 45, .build [.s [], .s []] [(0, (1, .c (.s [46, 103]))), (1, (1, .c (.s [104, 116, 116, 112, 58, 47, 47, 97, 47, 98, 47, 99, 47, 46, 103])))], none⟩,
    ⟨some 46, .build [.s [], .s []] [(0, (1, .c (.s [103, 46, 46]))), (1, (1, .c (.s [104, 116, 116, 112, 58, 47, 47, 97, 47, 98, 47, 99, 47, 103, 46, 46])))], none⟩,
    ⟨some 47, .build [.s [], .s []] [(0, (1, .c (.s [46, 46, 103]))), (1, (1, .c (.s [104, 116, 116, 112, 58, 47, 47, 97, 47, 98, 47, 99, 47, 46, 46, 103])))], none⟩,
    ⟨some 48, .build [.s [], .s []] [(0, (1, .c (.s [46, 47, 46, 46, 47, 103]))), (1, (1, .c (.s [104, 116, 116, 112, 58, 47, 47, 97, 47, 98, 47, 103])))], none⟩,
    ⟨some 49, .build [.s [], .s []] [(0, (1, .c (.s [46, 47, 103, 47, 46]))), (1, (1, .c (.s [104, 116, 116, 112, 58, 47, 47, 97, 47, 98, 47, 99, 47, 103, 47])))], none⟩,
    ⟨some 50, .build [.s [], .s []] [(0, (1, .c (.s [103, 47, 46, 47, 104]))), (1, (1, .c (.s [104, 116, 116, 112, 58, 47, 47, 97, 47, 98, 47, 99, 47, 103, 47, 104])))], none⟩,
    ⟨some 51, .build [.s [], .s []] [(0, (1, .c (.s [103, 47, 46, 46, 47, 104]))), (1, (1, .c (.s [104, 116, 116, 112, 58, 47, 47, 97, 47, 98, 47, 99, 47, 104])))], none⟩,
    ⟨some 52, .build [.s [], .s []] [(0, (1, .c (.s [103, 59, 120, 61, 49, 47, 46, 47, 121]))), (1, (1, .c (.s [104, 116, 116, 112, 58, 47, 47, 97, 47, 98, 47, 99, 47, 103, 59, 120, 61, 49, 47, 121])))], none⟩,
    ⟨some 53, .build [.s [], .s []] [(0, (1, .c (.s [103, 59, 120, 61, 49, 47, 46, 46, 47, 121]))), (1, (1, .c (.s [104, 116, 116, 112, 58, 47, 47, 97, 47, 98, 47, 99, 47, 121])))], none⟩,
    ⟨some 54, .build [.s [], .s []] [(0, (1, .c (.s [103, 63, 121, 47, 46, 47, 120]))), (1, (1, .c (.s [104, 116, 116, 112, 58, 47, 47, 97, 47, 98, 47, 99, 47, 103, 63, 121, 47, 46, 47, 120])))], none⟩,
    ⟨some 55, .build [.s [], .s []] [(0, (1, .c (.s [103, 35, 115, 47, 46, 46, 47, 120]))), (1, (1, .c (.s [104, 116, 116, 112, 58, 47, 47, 97, 47, 98, 47, 99, 47, 103, 35, 115, 47, 46, 46, 47, 120])))], none⟩,
    ⟨some 56, .bslice 39 [.s [], .s [], .s [], .s [], .s [], .s [], .s [], .s [], .s [], .s [], .s [], .s [], .s [], .s [], .s [], .s [], .s [], .s [], .s [], .s [], .s [], .s [], .s [], .s [], .s [], .s [], .s [], .s [], .s [], .s [], .s [], .s [], .s [], .s [], .s [], .s [], .s [], .s [], .s [], .s [], .s [], .s [], .s [], .s [], .s [], .s [], .s [], .s [], .s [], .s [], .s [], .s [], .s [], .s [], .s [], .s [], .s [], .s [], .s [], .s [], .s [], .s [], .s [], .s [], .s [], .s [], .s [], .s [], .s [], .s [], .s [], .s [], .s [], .s [], .s [], .s [], .s [], .s []] [(0, (2, .t 17)), (2, (2, .t 18)), (4, (2, .t 19)), (6, (2, .t 20)), (8, (2, .t 21)), (10, (2, .t 22)), (12, (2, .t 23)), (14, (2, .t 24)), (16, (2, .t 25)), (18, (2, .t 26)), (20, (2, .t 27)), (22, (2, .t 28)), (24, (2, .t 29)), (26, (2, .t 30)), (28, (2, .t 31)), (30, (2, .t 32)), (32, (2, .t 33)), (34, (2, .t 34)), (36, (2, .t 35)), (38, (2, .t 36)), (40, (2, .t 37)), (42, (2, .t 38)), (44, (2, .t 39)), (46, (2, .t 40)), (48, (2, .t 41)), (50, (2, .t 42)), (52, (2, .t 43)), (54, (2, .t 44)), (56, (2, .t 45)), (58, (2, .t 46)), (60, (2, .t 47)), (62, (2, .t 48)), (64, (2, .t 49)), (66, (2, .t 50)), (68, (2, .t 51)), (70, (2, .t 52)), (72, (2, .t 53)), (74, (2, .t 54)), (76, (2, .t 55))], none⟩,
    ⟨some 57, .lenr (.t 56), none⟩,
    ⟨some 58, .mv (.c (.i .i64 0)), none⟩])
  (.blk 0
   (.loop
    (.seq (.reg [⟨some 59, .bin .lss (.t 58) (.t 57), none⟩])
    (.seq (.cond (.t 59)
     (.skip)
     (.exit 0))
    (.seq (.blk 1
     (.seq (.reg [⟨some 60, .iad 2 (.t 56) (.t 58), none⟩,
       ⟨some 61, .loadn 2 (.t 60), none⟩,
       ⟨some 4, .alloc 34 [.s [], .s []], none⟩,
       ⟨none, .store 2 (.t 4) (.t 61), none⟩])
     (.seq (.reg [⟨some 63, .iada 1 2 (.t 4) (.c (.i .i64 0)), none⟩,
       ⟨some 64, .load1 (.t 63), none⟩,
       ⟨some 65, .call 14 [.t 64], none⟩,
       ⟨some 62, .mv (.t 65), none⟩,
       ⟨some 66, .ext (.t 62) 0, none⟩,
       ⟨some 67, .ext (.t 62) 1, none⟩,
       ⟨some 5, .alloc 23 [.s [], .s [], .s [], .s [], .s [], .b false, .b false, .b false, .b false], none⟩,
       ⟨none, .store 9 (.t 5) (.t 66), none⟩,
       ⟨some 6, .mv (.t 67), none⟩])
     (.seq (.drw [⟨some 68, .mv (.t 6), none⟩,
       ⟨some 69, .bin .neq (.t 68) (.c (.i .i64 0)), none⟩,
       ⟨some 70, .mv (.t 69), none⟩,
       ⟨some 71, .loadn 9 (.t 1), some (70, false)⟩,
       ⟨some 72, .loadn 9 (.t 5), some (70, false)⟩,
       ⟨some 73, .call 15 [.t 71, .t 72], some (70, false)⟩,
       ⟨some 74, .call 10 [.t 73], some (70, false)⟩,
       ⟨some 75, .iada 1 2 (.t 4) (.c (.i .i64 1)), some (70, false)⟩,
       ⟨some 76, .load1 (.t 75), some (70, false)⟩,
       ⟨some 77, .bin .neq (.t 74) (.t 76), some (70, false)⟩,
       ⟨some 78, .pick (.t 70) (.c (.b true)) (.t 77), none⟩] 11 [])
     (.cond (.t 78)
      (.seq (.reg [⟨some 0, .mv (.c (.b false)), none⟩])
      (.ret))
      (.skip))))))
    (.reg [⟨some 79, .bin .add (.t 58) (.c (.i .i64 1)), none⟩,
      ⟨some 58, .mv (.t 79), none⟩])))))))
  (.seq (.reg [⟨some 0, .mv (.c (.b true)), none⟩])
  (.ret)))))
theorem is_law06_UriExamples : FnIs Try.prog 5 80 [.tmp 0] c_law06_UriExamples := ⟨⟨_, _, Try.func5, rfl, rfl, by kernel_rfl, by kernel_rfl⟩⟩
def c_law23_TemplateExpands : SCode :=
  .seq (.reg [⟨some 4, .mv (.c (.b false)), none⟩])
  (.seq (.seq (.reg [⟨some 9, .call 16 [], none⟩,
    ⟨some 10, .not (.t 9), none⟩])
  (.cond (.t 10)
   (.seq (.reg [⟨some 4, .mv (.c (.b false)), none⟩])
   (.ret))
   (.skip)))
  (.seq (.seq (.reg [⟨some 11, .mv (.t 0), none⟩,
    ⟨some 12, .lens (.t 11), none⟩,
    ⟨some 13, .bin .gtr (.t 12) (.c (.i .i64 500)), none⟩,
    ⟨some 14, .mv (.t 13), none⟩,
    ⟨some 15, .mv (.t 0), some (14, true)⟩,
    ⟨some 16, .lens (.t 15), some (14, true)⟩,
    ⟨some 17, .bin .leq (.t 16) (.c (.i .i64 4096)), some (14, true)⟩,
    ⟨some 18, .pick (.t 14) (.t 17) (.c (.b false)), none⟩,
    ⟨some 19, .mv (.t 18), none⟩,
    ⟨some 20, .mv (.t 1), some (19, false)⟩,
    ⟨some 21, .lens (.t 20), some (19, false)⟩,
    ⟨some 22, .bin .gtr (.t 21) (.c (.i .i64 1500)), some (19, false)⟩,
    ⟨some 23, .pick (.t 19) (.c (.b true)) (.t 22), none⟩])
  (.cond (.t 23)
   (.seq (.reg [⟨some 4, .mv (.c (.b true)), none⟩])
   (.ret))
   (.skip)))
  (.seq (.reg [⟨some 25, .mv (.t 0), none⟩,
    ⟨some 26, .mv (.t 1), none⟩,
    ⟨some 27, .call 17 [.t 25, .t 26], none⟩,
    ⟨some 24, .mv (.t 27), none⟩,
    ⟨some 28, .ext (.t 24) 0, none⟩,
    ⟨some 29, .ext (.t 24) 1, none⟩,
    ⟨some 5, .mv (.t 28), none⟩,
    ⟨some 6, .mv (.t 29), none⟩])
  (.seq (.reg [⟨some 31, .mv (.t 0), none⟩,
    ⟨some 32, .mv (.t 1), none⟩,
    ⟨some 33, .call 18 [.t 31, .t 32], none⟩,
    ⟨some 30, .mv (.t 33), none⟩,
    ⟨some 34, .ext (.t 30) 0, none⟩,
    ⟨some 35, .ext (.t 30) 1, none⟩,
    ⟨some 7, .mv (.t 34), none⟩,
    ⟨some 8, .mv (.t 35), none⟩])
  (.seq (.reg [⟨some 36, .mv (.t 0), none⟩,
    ⟨some 37, .call 19 [.t 36], none⟩,
    ⟨some 38, .mv (.t 0), none⟩,
    ⟨some 39, .call 20 [.t 38], none⟩,
    ⟨some 40, .beq false (.t 37) (.t 39), none⟩,
    ⟨some 41, .mv (.t 40), none⟩,
    ⟨some 42, .mv (.t 5), some (41, true)⟩,
    ⟨some 43, .mv (.t 7), some (41, true)⟩,
    ⟨some 44, .bin .eql (.t 42) (.t 43), some (41, true)⟩,
    ⟨some 45, .pick (.t 41) (.t 44) (.c (.b false)), none⟩,
    ⟨some 46, .mv (.t 45), none⟩,
    ⟨some 47, .mv (.t 6), some (46, true)⟩,
    ⟨some 48, .mv (.t 8), some (46, true)⟩,
    ⟨some 49, .bin .eql (.t 47) (.t 48), some (46, true)⟩,
    ⟨some 50, .pick (.t 46) (.t 49) (.c (.b false)), none⟩,
    ⟨some 4, .mv (.t 50), none⟩])
  (.ret))))))
theorem is_law23_TemplateExpands : FnIs Try.prog 6 51 [.tmp 4] c_law23_TemplateExpands := ⟨⟨_, _, Try.func6, rfl, rfl, by kernel_rfl, by kernel_rfl⟩⟩
def c_law23_TemplateKeeps : SCode :=
  .seq (.reg [⟨some 6, .mv (.c (.b false)), none⟩])
  (.seq (.seq (.reg [⟨some 11, .call 16 [], none⟩,
    ⟨some 12, .not (.t 11), none⟩])
  (.cond (.t 12)
   (.seq (.reg [⟨some 6, .mv (.c (.b false)), none⟩])
   (.ret))
   (.skip)))
  (.seq (.seq (.reg [⟨some 13, .mv (.t 0), none⟩,
    ⟨some 14, .lens (.t 13), none⟩,
    ⟨some 15, .bin .gtr (.t 14) (.c (.i .i64 200)), none⟩,
    ⟨some 16, .mv (.t 15), none⟩,
    ⟨some 17, .mv (.t 1), some (16, false)⟩,
    ⟨some 18, .lens (.t 17), some (16, false)⟩,
    ⟨some 19, .bin .gtr (.t 18) (.c (.i .i64 200)), some (16, false)⟩,
    ⟨some 20, .pick (.t 16) (.c (.b true)) (.t 19), none⟩,
    ⟨some 21, .mv (.t 20), none⟩,
    ⟨some 22, .mv (.t 2), some (21, false)⟩,
    ⟨some 23, .lens (.t 22), some (21, false)⟩,
    ⟨some 24, .bin .gtr (.t 23) (.c (.i .i64 500)), some (21, false)⟩,
    ⟨some 25, .pick (.t 21) (.c (.b true)) (.t 24), none⟩,
    ⟨some 26, .mv (.t 25), none⟩,
    ⟨some 27, .mv (.t 0), some (26, false)⟩,
    ⟨some 28, .mv (.t 1), some (26, false)⟩,
    ⟨some 29, .bin .add (.t 27) (.t 28), some (26, false)⟩,
    ⟨some 30, .call 21 [.t 29, .c (.s [123, 125])], some (26, false)⟩,
    ⟨some 31, .mv (.t 0), some (26, false)⟩,
    ⟨some 32, .mv (.t 1), some (26, false)⟩,
    ⟨some 33, .bin .add (.t 31) (.t 32), some (26, false)⟩,
    ⟨some 34, .lens (.t 33), some (26, false)⟩,
    ⟨some 35, .bin .lss (.t 30) (.t 34), some (26, false)⟩,
    ⟨some 36, .pick (.t 26) (.c (.b true)) (.t 35), none⟩])
  (.cond (.t 36)
   (.seq (.reg [⟨some 6, .mv (.c (.b true)), none⟩])
   (.ret))
   (.skip)))
  (.seq (.reg [⟨some 38, .mv (.t 0), none⟩,
    ⟨some 39, .bin .add (.t 38) (.c (.s [123, 117, 114, 105, 125])), none⟩,
    ⟨some 40, .mv (.t 1), none⟩,
    ⟨some 41, .bin .add (.t 39) (.t 40), none⟩,
    ⟨some 42, .mv (.t 2), none⟩,
    ⟨some 43, .call 17 [.t 41, .t 42], none⟩,
    ⟨some 37, .mv (.t 43), none⟩,
    ⟨some 44, .ext (.t 37) 0, none⟩,
    ⟨some 45, .ext (.t 37) 1, none⟩,
    ⟨some 7, .mv (.t 44), none⟩,
    ⟨some 8, .mv (.t 45), none⟩])
  (.seq (.seq (.reg [⟨some 46, .mv (.t 8), none⟩,
    ⟨some 47, .bin .neq (.t 46) (.c (.i .i64 0)), none⟩,
    ⟨some 48, .mv (.t 47), none⟩,
    ⟨some 49, .mv (.t 7), some (48, false)⟩,
    ⟨some 50, .lens (.t 49), some (48, false)⟩,
    ⟨some 51, .mv (.t 0), some (48, false)⟩,
    ⟨some 52, .lens (.t 51), some (48, false)⟩,
    ⟨some 53, .mv (.t 1), some (48, false)⟩,
    ⟨some 54, .lens (.t 53), some (48, false)⟩,
    ⟨some 55, .bin .add (.t 52) (.t 54), some (48, false)⟩,
    ⟨some 56, .bin .lss (.t 50) (.t 55), some (48, false)⟩,
    ⟨some 57, .pick (.t 48) (.c (.b true)) (.t 56), none⟩,
    ⟨some 58, .mv (.t 57), none⟩,
    ⟨some 59, .mv (.t 7), some (58, false)⟩,
    ⟨some 60, .mv (.t 0), some (58, false)⟩,
    ⟨some 61, .lens (.t 60), some (58, false)⟩,
    ⟨some 62, .slcs (.t 59) none (some (.t 61)), some (58, false)⟩,
    ⟨some 63, .mv (.t 0), some (58, false)⟩,
    ⟨some 64, .bin .neq (.t 62) (.t 63), some (58, false)⟩,
    ⟨some 65, .pick (.t 58) (.c (.b true)) (.t 64), none⟩,
    ⟨some 66, .mv (.t 65), none⟩,
    ⟨some 67, .mv (.t 7), some (66, false)⟩,
    ⟨some 68, .mv (.t 7), some (66, false)⟩,
    ⟨some 69, .lens (.t 68), some (66, false)⟩,
    ⟨some 70, .mv (.t 1), some (66, false)⟩,
    ⟨some 71, .lens (.t 70), some (66, false)⟩,
    ⟨some 72, .bin .sub (.t 69) (.t 71), some (66, false)⟩,
    ⟨some 73, .slcs (.t 67) (some (.t 72)) none, some (66, false)⟩,
    ⟨some 74, .mv (.t 1), some (66, false)⟩,
    ⟨some 75, .bin .neq (.t 73) (.t 74), some (66, false)⟩,
    ⟨some 76, .pick (.t 66) (.c (.b true)) (.t 75), none⟩])
  (.cond (.t 76)
   (.seq (.reg [⟨some 6, .mv (.c (.b false)), none⟩])
   (.ret))
   (.skip)))
  (.seq (.reg [⟨some 78, .mv (.t 7), none⟩,
    ⟨some 79, .mv (.t 0), none⟩,
    ⟨some 80, .lens (.t 79), none⟩,
    ⟨some 81, .mv (.t 7), none⟩,
    ⟨some 82, .lens (.t 81), none⟩,
    ⟨some 83, .mv (.t 1), none⟩,
    ⟨some 84, .lens (.t 83), none⟩,
    ⟨some 85, .bin .sub (.t 82) (.t 84), none⟩,
    ⟨some 86, .slcs (.t 78) (some (.t 80)) (some (.t 85)), none⟩,
    ⟨some 87, .call 22 [.t 86], none⟩,
    ⟨some 77, .mv (.t 87), none⟩,
    ⟨some 88, .ext (.t 77) 0, none⟩,
    ⟨some 89, .ext (.t 77) 1, none⟩,
    ⟨some 9, .mv (.t 88), none⟩,
    ⟨some 10, .mv (.t 89), none⟩])
  (.seq (.reg [⟨some 90, .mv (.t 10), none⟩,
    ⟨some 91, .bin .eql (.t 90) (.c (.i .i64 0)), none⟩,
    ⟨some 92, .mv (.t 91), none⟩,
    ⟨some 93, .mv (.t 9), some (92, true)⟩,
    ⟨some 94, .mv (.t 2), some (92, true)⟩,
    ⟨some 95, .bin .eql (.t 93) (.t 94), some (92, true)⟩,
    ⟨some 96, .pick (.t 92) (.t 95) (.c (.b false)), none⟩,
    ⟨some 6, .mv (.t 96), none⟩])
  (.ret)))))))
theorem is_law23_TemplateKeeps : FnIs Try.prog 7 97 [.tmp 6] c_law23_TemplateKeeps := ⟨⟨_, _, Try.func7, rfl, rfl, by kernel_rfl, by kernel_rfl⟩⟩
def c_law23_TemplateSafe : SCode :=
  .seq (.reg [⟨some 2, .mv (.c (.b false)), none⟩])
  (.seq (.seq (.reg [⟨some 5, .call 16 [], none⟩,
    ⟨some 6, .not (.t 5), none⟩])
  (.cond (.t 6)
   (.seq (.reg [⟨some 2, .mv (.c (.b false)), none⟩])
   (.ret))
   (.skip)))
  (.seq (.seq (.reg [⟨some 7, .mv (.t 0), none⟩,
    ⟨some 8, .lens (.t 7), none⟩,
    ⟨some 9, .bin .gtr (.t 8) (.c (.i .i64 500)), none⟩])
  (.cond (.t 9)
   (.seq (.reg [⟨some 2, .mv (.c (.b true)), none⟩])
   (.ret))
   (.skip)))
  (.seq (.reg [⟨some 11, .mv (.t 0), none⟩,
    ⟨some 12, .call 17 [.c (.s [123, 117, 114, 105, 125]), .t 11], none⟩,
    ⟨some 10, .mv (.t 12), none⟩,
    ⟨some 13, .ext (.t 10) 0, none⟩,
    ⟨some 14, .ext (.t 10) 1, none⟩,
    ⟨some 3, .mv (.t 13), none⟩,
    ⟨some 4, .mv (.t 14), none⟩])
  (.seq (.reg [⟨some 15, .mv (.t 4), none⟩,
    ⟨some 16, .bin .eql (.t 15) (.c (.i .i64 0)), none⟩,
    ⟨some 17, .mv (.t 16), none⟩,
    ⟨some 18, .mv (.t 3), some (17, true)⟩,
    ⟨some 19, .call 21 [.t 18, .c (.s [47, 63, 35, 38, 61, 58, 64, 123, 125, 91, 93, 32, 43])], some (17, true)⟩,
    ⟨some 20, .mv (.t 3), some (17, true)⟩,
    ⟨some 21, .lens (.t 20), some (17, true)⟩,
    ⟨some 22, .bin .eql (.t 19) (.t 21), some (17, true)⟩,
    ⟨some 23, .pick (.t 17) (.t 22) (.c (.b false)), none⟩,
    ⟨some 2, .mv (.t 23), none⟩])
  (.ret)))))
theorem is_law23_TemplateSafe : FnIs Try.prog 8 24 [.tmp 2] c_law23_TemplateSafe := ⟨⟨_, _, Try.func8, rfl, rfl, by kernel_rfl, by kernel_rfl⟩⟩
def c_law06_sane : SCode :=
  .seq (.reg [⟨some 0, .mv (.c (.b false)), none⟩])
  (.seq (.reg [⟨some 6, .call 14 [.c (.s [104, 116, 116, 112, 58, 47, 47, 97, 47, 98, 47, 99, 47, 100, 59, 112, 63, 113])], none⟩,
    ⟨some 5, .mv (.t 6), none⟩,
    ⟨some 7, .ext (.t 5) 0, none⟩,
    ⟨some 8, .ext (.t 5) 1, none⟩,
    ⟨some 1, .alloc 23 [.s [], .s [], .s [], .s [], .s [], .b false, .b false, .b false, .b false], none⟩,
    ⟨none, .store 9 (.t 1) (.t 7), none⟩,
    ⟨some 2, .mv (.t 8), none⟩])
  (.seq (.reg [⟨some 10, .call 14 [.c (.s [46, 46, 47, 103])], none⟩,
    ⟨some 9, .mv (.t 10), none⟩,
    ⟨some 11, .ext (.t 9) 0, none⟩,
    ⟨some 12, .ext (.t 9) 1, none⟩,
    ⟨some 3, .alloc 23 [.s [], .s [], .s [], .s [], .s [], .b false, .b false, .b false, .b false], none⟩,
    ⟨none, .store 9 (.t 3) (.t 11), none⟩,
    ⟨some 4, .mv (.t 12), none⟩])
  (.seq (.reg [⟨some 13, .mv (.t 2), none⟩,
    ⟨some 14, .bin .eql (.t 13) (.c (.i .i64 0)), none⟩,
    ⟨some 15, .mv (.t 14), none⟩,
    ⟨some 16, .mv (.t 4), some (15, true)⟩,
    ⟨some 17, .bin .eql (.t 16) (.c (.i .i64 0)), some (15, true)⟩,
    ⟨some 18, .pick (.t 15) (.t 17) (.c (.b false)), none⟩,
    ⟨some 19, .mv (.t 18), none⟩,
    ⟨some 20, .call 12 [.c (.s [47, 97, 47, 98, 47, 99, 47, 46, 47, 46, 46, 47, 46, 46, 47, 103])], some (19, true)⟩,
    ⟨some 21, .bin .eql (.t 20) (.c (.s [47, 97, 47, 103])), some (19, true)⟩,
    ⟨some 22, .pick (.t 19) (.t 21) (.c (.b false)), none⟩,
    ⟨some 23, .mv (.t 22), none⟩,
    ⟨some 24, .call 12 [.c (.s [109, 105, 100, 47, 99, 111, 110, 116, 101, 110, 116, 61, 53, 47, 46, 46, 47, 54])], some (23, true)⟩,
    ⟨some 25, .bin .eql (.t 24) (.c (.s [109, 105, 100, 47, 54])), some (23, true)⟩,
    ⟨some 26, .pick (.t 23) (.t 25) (.c (.b false)), none⟩,
    ⟨some 27, .mv (.t 26), none⟩,
    ⟨some 28, .loadn 9 (.t 1), some (27, true)⟩,
    ⟨some 29, .loadn 9 (.t 3), some (27, true)⟩,
    ⟨some 30, .call 15 [.t 28, .t 29], some (27, true)⟩,
    ⟨some 31, .call 10 [.t 30], some (27, true)⟩,
    ⟨some 32, .bin .eql (.t 31) (.c (.s [104, 116, 116, 112, 58, 47, 47, 97, 47, 98, 47, 103])), some (27, true)⟩,
    ⟨some 33, .pick (.t 27) (.t 32) (.c (.b false)), none⟩,
    ⟨some 0, .mv (.t 33), none⟩])
  (.ret))))
theorem is_law06_sane : FnIs Try.prog 9 34 [.tmp 0] c_law06_sane := ⟨⟨_, _, Try.func9, rfl, rfl, by kernel_rfl, by kernel_rfl⟩⟩
def c_uri_Join : SCode :=
  .seq (.reg [⟨some 1, .box 23 (.t 0), none⟩,
    ⟨some 2, .mv (.c (.s [])), none⟩])
  (.seq (.drw [⟨some 3, .fad 5 (.t 1), none⟩,
    ⟨some 4, .load1 (.t 3), none⟩,
    ⟨some 5, .fad 0 (.t 1), none⟩,
    ⟨some 6, .load1 (.t 5), none⟩,
    ⟨some 7, .bslice 2 [.s [], .s []] [(0, (1, .t 6)), (1, (1, .c (.s [58])))], none⟩,
    ⟨some 8, .call 24 [.t 4, .t 7], none⟩,
    ⟨some 9, .fad 6 (.t 1), none⟩,
    ⟨some 10, .load1 (.t 9), none⟩,
    ⟨some 11, .fad 1 (.t 1), none⟩,
    ⟨some 12, .load1 (.t 11), none⟩,
    ⟨some 13, .bslice 2 [.s [], .s []] [(0, (1, .c (.s [47, 47]))), (1, (1, .t 12))], none⟩,
    ⟨some 14, .call 24 [.t 10, .t 13], none⟩,
    ⟨some 15, .fad 2 (.t 1), none⟩,
    ⟨some 16, .load1 (.t 15), none⟩,
    ⟨some 17, .fad 7 (.t 1), none⟩,
    ⟨some 18, .load1 (.t 17), none⟩,
    ⟨some 19, .fad 3 (.t 1), none⟩,
    ⟨some 20, .load1 (.t 19), none⟩,
    ⟨some 21, .bslice 2 [.s [], .s []] [(0, (1, .c (.s [63]))), (1, (1, .t 20))], none⟩,
    ⟨some 22, .call 24 [.t 18, .t 21], none⟩,
    ⟨some 23, .fad 8 (.t 1), none⟩,
    ⟨some 24, .load1 (.t 23), none⟩,
    ⟨some 25, .fad 4 (.t 1), none⟩,
    ⟨some 26, .load1 (.t 25), none⟩,
    ⟨some 27, .bslice 2 [.s [], .s []] [(0, (1, .c (.s [35]))), (1, (1, .t 26))], none⟩,
    ⟨some 28, .call 24 [.t 24, .t 27], none⟩,
    ⟨some 29, .bslice 5 [.s [], .s [], .s [], .s [], .s []] [(0, (1, .t 8)), (1, (1, .t 14)), (2, (1, .t 16)), (3, (1, .t 22)), (4, (1, .t 28))], none⟩,
    ⟨some 30, .call 23 [.t 29], none⟩,
    ⟨some 2, .mv (.t 30), none⟩] 29 [])
  (.ret))
theorem is_uri_Join : FnIs Try.prog 10 31 [.tmp 2] c_uri_Join := ⟨⟨_, _, Try.func10, rfl, rfl, by kernel_rfl, by kernel_rfl⟩⟩
def c_ref06_Join : SCode :=
  .seq (.reg [⟨some 1, .box 23 (.t 0), none⟩,
    ⟨some 2, .mv (.c (.s [])), none⟩])
  (.seq (.reg [⟨some 3, .mv (.c (.s [])), none⟩])
  (.seq (.seq (.reg [⟨some 4, .fad 5 (.t 1), none⟩,
    ⟨some 5, .load1 (.t 4), none⟩])
  (.cond (.t 5)
   (.reg [⟨some 6, .mv (.t 3), none⟩,
     ⟨some 7, .fad 0 (.t 1), none⟩,
     ⟨some 8, .load1 (.t 7), none⟩,
     ⟨some 9, .bin .add (.t 8) (.c (.s [58])), none⟩,
     ⟨some 10, .bin .add (.t 6) (.t 9), none⟩,
     ⟨some 3, .mv (.t 10), none⟩])
   (.skip)))
  (.seq (.seq (.reg [⟨some 11, .fad 6 (.t 1), none⟩,
    ⟨some 12, .load1 (.t 11), none⟩])
  (.cond (.t 12)
   (.reg [⟨some 13, .mv (.t 3), none⟩,
     ⟨some 14, .fad 1 (.t 1), none⟩,
     ⟨some 15, .load1 (.t 14), none⟩,
     ⟨some 16, .bin .add (.c (.s [47, 47])) (.t 15), none⟩,
     ⟨some 17, .bin .add (.t 13) (.t 16), none⟩,
     ⟨some 3, .mv (.t 17), none⟩])
   (.skip)))
  (.seq (.reg [⟨some 18, .mv (.t 3), none⟩,
    ⟨some 19, .fad 2 (.t 1), none⟩,
    ⟨some 20, .load1 (.t 19), none⟩,
    ⟨some 21, .bin .add (.t 18) (.t 20), none⟩,
    ⟨some 3, .mv (.t 21), none⟩])
  (.seq (.seq (.reg [⟨some 22, .fad 7 (.t 1), none⟩,
    ⟨some 23, .load1 (.t 22), none⟩])
  (.cond (.t 23)
   (.reg [⟨some 24, .mv (.t 3), none⟩,
     ⟨some 25, .fad 3 (.t 1), none⟩,
     ⟨some 26, .load1 (.t 25), none⟩,
     ⟨some 27, .bin .add (.c (.s [63])) (.t 26), none⟩,
     ⟨some 28, .bin .add (.t 24) (.t 27), none⟩,
     ⟨some 3, .mv (.t 28), none⟩])
   (.skip)))
  (.seq (.seq (.reg [⟨some 29, .fad 8 (.t 1), none⟩,
    ⟨some 30, .load1 (.t 29), none⟩])
  (.cond (.t 30)
   (.reg [⟨some 31, .mv (.t 3), none⟩,
     ⟨some 32, .fad 4 (.t 1), none⟩,
     ⟨some 33, .load1 (.t 32), none⟩,
     ⟨some 34, .bin .add (.c (.s [35])) (.t 33), none⟩,
     ⟨some 35, .bin .add (.t 31) (.t 34), none⟩,
     ⟨some 3, .mv (.t 35), none⟩])
   (.skip)))
  (.seq (.reg [⟨some 36, .mv (.t 3), none⟩,
    ⟨some 2, .mv (.t 36), none⟩])
  (.ret))))))))
theorem is_ref06_Join : FnIs Try.prog 11 37 [.tmp 2] c_ref06_Join := ⟨⟨_, _, Try.func11, rfl, rfl, by kernel_rfl, by kernel_rfl⟩⟩
def c_uri_RemoveDots : SCode :=
  .seq (.reg [⟨some 2, .mv (.c (.s [])), none⟩])
  (.seq (.drw [⟨some 6, .mv (.t 0), none⟩,
    ⟨some 7, .mv (.t 0), none⟩,
    ⟨some 8, .lens (.t 7), none⟩,
    ⟨some 9, .mks 5 1 1 (.c (.i .i64 0)) (.t 8), none⟩,
    ⟨some 3, .mv (.t 6), none⟩,
    ⟨some 4, .mv (.t 9), none⟩] 6 [])
  (.seq (.blk 0
   (.loop
    (.seq (.seq (.reg [⟨some 10, .mv (.t 3), none⟩,
      ⟨some 11, .bin .neq (.t 10) (.c (.s [])), none⟩])
    (.cond (.t 11)
     (.skip)
     (.exit 0)))
    (.blk 1
     (.blk 2
      (.seq (.reg [⟨some 26, .mv (.t 3), none⟩,
        ⟨some 27, .call 25 [.t 26, .c (.s [46, 46, 47])], none⟩,
        ⟨some 25, .mv (.t 27), none⟩])
      (.cond (.t 25)
       (.reg [⟨some 28, .mv (.t 3), none⟩,
         ⟨some 29, .slcs (.t 28) (some (.c (.i .i64 3))) none, none⟩,
         ⟨some 3, .mv (.t 29), none⟩])
       (.seq (.seq (.reg [⟨some 31, .mv (.t 3), none⟩,
         ⟨some 32, .call 25 [.t 31, .c (.s [46, 47])], none⟩,
         ⟨some 30, .mv (.t 32), none⟩])
       (.cond (.t 30)
        (.skip)
        (.reg [⟨some 33, .mv (.t 3), none⟩,
          ⟨some 34, .call 25 [.t 33, .c (.s [47, 46, 47])], none⟩,
          ⟨some 30, .mv (.t 34), none⟩])))
       (.cond (.t 30)
        (.reg [⟨some 35, .mv (.t 3), none⟩,
          ⟨some 36, .slcs (.t 35) (some (.c (.i .i64 2))) none, none⟩,
          ⟨some 3, .mv (.t 36), none⟩])
        (.seq (.reg [⟨some 38, .mv (.t 3), none⟩,
          ⟨some 39, .bin .eql (.t 38) (.c (.s [47, 46])), none⟩,
          ⟨some 37, .mv (.t 39), none⟩])
        (.cond (.t 37)
         (.reg [⟨some 3, .mv (.c (.s [47])), none⟩])
         (.seq (.reg [⟨some 41, .mv (.t 3), none⟩,
           ⟨some 42, .call 25 [.t 41, .c (.s [47, 46, 46, 47])], none⟩,
           ⟨some 40, .mv (.t 42), none⟩])
         (.cond (.t 40)
          (.drw [⟨some 43, .mv (.t 3), none⟩,
            ⟨some 44, .slcs (.t 43) (some (.c (.i .i64 3))) none, none⟩,
            ⟨some 45, .mv (.t 4), none⟩,
            ⟨some 46, .call 26 [.t 45], none⟩,
            ⟨some 3, .mv (.t 44), none⟩,
            ⟨some 4, .mv (.t 46), none⟩] 6 [])
          (.seq (.reg [⟨some 48, .mv (.t 3), none⟩,
            ⟨some 49, .bin .eql (.t 48) (.c (.s [47, 46, 46])), none⟩,
            ⟨some 47, .mv (.t 49), none⟩])
          (.cond (.t 47)
           (.reg [⟨some 50, .mv (.t 4), none⟩,
             ⟨some 51, .call 26 [.t 50], none⟩,
             ⟨some 3, .mv (.c (.s [47])), none⟩,
             ⟨some 4, .mv (.t 51), none⟩])
           (.seq (.seq (.reg [⟨some 53, .mv (.t 3), none⟩,
             ⟨some 54, .bin .eql (.t 53) (.c (.s [46])), none⟩,
             ⟨some 52, .mv (.t 54), none⟩])
           (.cond (.t 52)
            (.skip)
            (.reg [⟨some 55, .mv (.t 3), none⟩,
              ⟨some 56, .bin .eql (.t 55) (.c (.s [46, 46])), none⟩,
              ⟨some 52, .mv (.t 56), none⟩])))
           (.cond (.t 52)
            (.reg [⟨some 3, .mv (.c (.s [])), none⟩])
            (.seq (.reg [⟨some 12, .mv (.t 3), none⟩,
              ⟨some 13, .slcs (.t 12) (some (.c (.i .i64 1))) none, none⟩,
              ⟨some 14, .call 27 [.t 13], none⟩,
              ⟨some 15, .lens (.t 14), none⟩,
              ⟨some 16, .bin .add (.c (.i .i64 1)) (.t 15), none⟩,
              ⟨some 5, .mv (.t 16), none⟩])
            (.drw [⟨some 17, .mv (.t 3), none⟩,
              ⟨some 18, .mv (.t 5), none⟩,
              ⟨some 19, .slcs (.t 17) (some (.t 18)) none, none⟩,
              ⟨some 20, .mv (.t 4), none⟩,
              ⟨some 21, .mv (.t 3), none⟩,
              ⟨some 22, .mv (.t 5), none⟩,
              ⟨some 23, .slcs (.t 21) none (some (.t 22)), none⟩,
              ⟨some 24, .apps 5 (.t 20) (.t 23), none⟩,
              ⟨some 3, .mv (.t 19), none⟩,
              ⟨some 4, .mv (.t 24), none⟩] 10 [])))))))))))))))))))
  (.seq (.reg [⟨some 57, .mv (.t 4), none⟩,
    ⟨some 58, .cvbs (.t 57), none⟩,
    ⟨some 2, .mv (.t 58), none⟩])
  (.ret))))
theorem is_uri_RemoveDots : FnIs Try.prog 12 59 [.tmp 2] c_uri_RemoveDots := ⟨⟨_, _, Try.func12, rfl, rfl, by kernel_rfl, by kernel_rfl⟩⟩
def c_ref01_Split : SCode :=
  .seq (.reg [⟨some 4, .mv (.c .nil), none⟩])
  (.seq (.reg [⟨some 5, .mv (.c .nil), none⟩])
  (.seq (.reg [⟨some 6, .mv (.c (.i .i64 0)), none⟩])
  (.seq (.seq (.reg [⟨some 7, .mv (.c (.i .i64 0)), none⟩])
  (.blk 0
   (.loop
    (.seq (.seq (.reg [⟨some 8, .mv (.t 7), none⟩,
      ⟨some 9, .mv (.t 0), none⟩,
      ⟨some 10, .lens (.t 9), none⟩,
      ⟨some 11, .bin .lss (.t 8) (.t 10), none⟩])
    (.cond (.t 11)
     (.skip)
     (.exit 0)))
    (.seq (.blk 1
     (.seq (.reg [⟨some 14, .mv (.t 0), none⟩,
       ⟨some 15, .mv (.t 7), none⟩,
       ⟨some 16, .idx (.t 14) (.t 15), none⟩,
       ⟨some 17, .mv (.t 1), none⟩,
       ⟨some 18, .bin .eql (.t 16) (.t 17), none⟩])
     (.cond (.t 18)
      (.reg [⟨some 19, .mv (.t 5), none⟩,
        ⟨some 20, .mv (.t 0), none⟩,
        ⟨some 21, .mv (.t 6), none⟩,
        ⟨some 22, .mv (.t 7), none⟩,
        ⟨some 23, .slcs (.t 20) (some (.t 21)) (some (.t 22)), none⟩,
        ⟨some 24, .bslice 1 [.s []] [(0, (1, .t 23))], none⟩,
        ⟨some 25, .app 9 1 16 (.t 19) (.t 24), none⟩,
        ⟨some 26, .mv (.t 7), none⟩,
        ⟨some 27, .bin .add (.t 26) (.c (.i .i64 1)), none⟩,
        ⟨some 5, .mv (.t 25), none⟩,
        ⟨some 6, .mv (.t 27), none⟩])
      (.skip))))
    (.reg [⟨some 12, .mv (.t 7), none⟩,
      ⟨some 13, .bin .add (.t 12) (.c (.i .i64 1)), none⟩,
      ⟨some 7, .mv (.t 13), none⟩]))))))
  (.seq (.reg [⟨some 28, .mv (.t 5), none⟩,
    ⟨some 29, .mv (.t 0), none⟩,
    ⟨some 30, .mv (.t 6), none⟩,
    ⟨some 31, .slcs (.t 29) (some (.t 30)) none, none⟩,
    ⟨some 32, .bslice 1 [.s []] [(0, (1, .t 31))], none⟩,
    ⟨some 33, .app 9 1 16 (.t 28) (.t 32), none⟩,
    ⟨some 4, .mv (.t 33), none⟩])
  (.ret)))))
theorem is_ref01_Split : FnIs Try.prog 13 34 [.tmp 4] c_ref01_Split := ⟨⟨_, _, Try.func13, rfl, rfl, by kernel_rfl, by kernel_rfl⟩⟩
def c_uri_Split : SCode :=
  .seq (.reg [⟨some 2, .alloc 23 [.s [], .s [], .s [], .s [], .s [], .b false, .b false, .b false, .b false], none⟩,
    ⟨some 3, .mv (.c (.i .i64 0)), none⟩])
  (.seq (.seq (.reg [⟨some 10, .mv (.t 0), none⟩,
    ⟨some 11, .lens (.t 10), none⟩,
    ⟨some 12, .bin .gtr (.t 11) (.c (.i .i64 16384)), none⟩])
  (.cond (.t 12)
   (.seq (.reg [⟨some 13, .build [.s [], .s [], .s [], .s [], .s [], .b false, .b false, .b false, .b false] [], none⟩,
     ⟨none, .store 9 (.t 2) (.t 13), none⟩,
     ⟨some 3, .mv (.c (.i .i64 5)), none⟩])
   (.ret))
   (.skip)))
  (.seq (.reg [⟨some 14, .mv (.t 0), none⟩,
    ⟨some 4, .alloc 9 [.s []], none⟩,
    ⟨none, .store 1 (.t 4) (.t 14), none⟩])
  (.seq (.reg [⟨some 15, .mkf 28 [] [.t 4], none⟩,
    ⟨some 5, .mv (.t 15), none⟩])
  (.seq (.reg [⟨some 6, .alloc 23 [.s [], .s [], .s [], .s [], .s [], .b false, .b false, .b false, .b false], none⟩])
  (.seq (.reg [⟨some 17, .mv (.t 5), none⟩,
    ⟨some 18, .callv (.t 17) [.c (.i .u8 35)], none⟩,
    ⟨some 16, .mv (.t 18), none⟩,
    ⟨some 19, .ext (.t 16) 0, none⟩,
    ⟨some 20, .ext (.t 16) 1, none⟩,
    ⟨some 21, .fad 4 (.t 6), none⟩,
    ⟨none, .store 1 (.t 21) (.t 19), none⟩,
    ⟨some 22, .fad 8 (.t 6), none⟩,
    ⟨none, .store 1 (.t 22) (.t 20), none⟩])
  (.seq (.reg [⟨some 24, .mv (.t 5), none⟩,
    ⟨some 25, .callv (.t 24) [.c (.i .u8 63)], none⟩,
    ⟨some 23, .mv (.t 25), none⟩,
    ⟨some 26, .ext (.t 23) 0, none⟩,
    ⟨some 27, .ext (.t 23) 1, none⟩,
    ⟨some 28, .fad 3 (.t 6), none⟩,
    ⟨none, .store 1 (.t 28) (.t 26), none⟩,
    ⟨some 29, .fad 7 (.t 6), none⟩,
    ⟨none, .store 1 (.t 29) (.t 27), none⟩])
  (.seq (.seq (.reg [⟨some 30, .load1 (.t 4), none⟩,
    ⟨some 31, .call 30 [.t 30], none⟩,
    ⟨some 7, .mv (.t 31), none⟩])
  (.seq (.reg [⟨some 32, .mv (.t 7), none⟩,
    ⟨some 33, .bin .geq (.t 32) (.c (.i .i64 0)), none⟩])
  (.cond (.t 33)
   (.seq (.seq (.reg [⟨some 34, .load1 (.t 4), none⟩,
     ⟨some 35, .mv (.t 7), none⟩,
     ⟨some 36, .slcs (.t 34) none (some (.t 35)), none⟩,
     ⟨some 37, .call 31 [.t 36], none⟩,
     ⟨some 38, .not (.t 37), none⟩])
   (.cond (.t 38)
    (.seq (.reg [⟨some 39, .build [.s [], .s [], .s [], .s [], .s [], .b false, .b false, .b false, .b false] [], none⟩,
      ⟨none, .store 9 (.t 2) (.t 39), none⟩,
      ⟨some 3, .mv (.c (.i .i64 6)), none⟩])
    (.ret))
    (.skip)))
   (.drw [⟨some 40, .load1 (.t 4), none⟩,
     ⟨some 41, .mv (.t 7), none⟩,
     ⟨some 42, .slcs (.t 40) none (some (.t 41)), none⟩,
     ⟨some 43, .load1 (.t 4), none⟩,
     ⟨some 44, .mv (.t 7), none⟩,
     ⟨some 45, .bin .add (.t 44) (.c (.i .i64 1)), none⟩,
     ⟨some 46, .slcs (.t 43) (some (.t 45)) none, none⟩,
     ⟨some 47, .fad 0 (.t 6), none⟩,
     ⟨none, .store 1 (.t 47) (.t 42), none⟩,
     ⟨some 48, .fad 5 (.t 6), none⟩,
     ⟨none, .store 1 (.t 48) (.c (.b true)), none⟩,
     ⟨none, .store 1 (.t 4) (.t 46), none⟩] 12 [(4, 47), (4, 48)]))
   (.skip))))
  (.seq (.seq (.reg [⟨some 50, .load1 (.t 4), none⟩,
    ⟨some 51, .call 32 [.t 50, .c (.s [47, 47])], none⟩,
    ⟨some 49, .mv (.t 51), none⟩,
    ⟨some 52, .ext (.t 49) 0, none⟩,
    ⟨some 53, .ext (.t 49) 1, none⟩,
    ⟨some 8, .mv (.t 52), none⟩,
    ⟨some 9, .mv (.t 53), none⟩])
  (.seq (.reg [⟨some 54, .mv (.t 9), none⟩])
  (.cond (.t 54)
   (.seq (.reg [⟨some 55, .mv (.t 8), none⟩,
     ⟨some 56, .call 27 [.t 55], none⟩,
     ⟨some 57, .fad 1 (.t 6), none⟩,
     ⟨none, .store 1 (.t 57) (.t 56), none⟩,
     ⟨some 58, .fad 6 (.t 6), none⟩,
     ⟨none, .store 1 (.t 58) (.c (.b true)), none⟩])
   (.reg [⟨some 59, .mv (.t 8), none⟩,
     ⟨some 60, .fad 1 (.t 6), none⟩,
     ⟨some 61, .load1 (.t 60), none⟩,
     ⟨some 62, .lens (.t 61), none⟩,
     ⟨some 63, .slcs (.t 59) (some (.t 62)) none, none⟩,
     ⟨none, .store 1 (.t 4) (.t 63), none⟩]))
   (.skip))))
  (.seq (.reg [⟨some 64, .load1 (.t 4), none⟩,
    ⟨some 65, .fad 2 (.t 6), none⟩,
    ⟨none, .store 1 (.t 65) (.t 64), none⟩])
  (.seq (.reg [⟨some 66, .loadn 9 (.t 6), none⟩,
    ⟨none, .store 9 (.t 2) (.t 66), none⟩,
    ⟨some 3, .mv (.c (.i .i64 0)), none⟩])
  (.ret)))))))))))
theorem is_uri_Split : FnIs Try.prog 14 67 [.celln 2 9, .tmp 3] c_uri_Split := ⟨⟨_, _, Try.func14, rfl, rfl, by kernel_rfl, by kernel_rfl⟩⟩
def c_uri_Resolve : SCode :=
  .seq (.reg [⟨some 2, .box 23 (.t 0), none⟩,
    ⟨some 3, .box 23 (.t 1), none⟩,
    ⟨some 4, .alloc 23 [.s [], .s [], .s [], .s [], .s [], .b false, .b false, .b false, .b false], none⟩])
  (.seq (.reg [⟨some 6, .loadn 9 (.t 3), none⟩,
    ⟨some 5, .alloc 23 [.s [], .s [], .s [], .s [], .s [], .b false, .b false, .b false, .b false], none⟩,
    ⟨none, .store 9 (.t 5) (.t 6), none⟩])
  (.seq (.seq (.reg [⟨some 7, .fad 5 (.t 3), none⟩,
    ⟨some 8, .load1 (.t 7), none⟩])
  (.cond (.t 8)
   (.seq (.reg [⟨some 9, .fad 2 (.t 3), none⟩,
     ⟨some 10, .load1 (.t 9), none⟩,
     ⟨some 11, .call 12 [.t 10], none⟩,
     ⟨some 12, .fad 2 (.t 5), none⟩,
     ⟨none, .store 1 (.t 12) (.t 11), none⟩])
   (.seq (.reg [⟨some 13, .loadn 9 (.t 5), none⟩,
     ⟨none, .store 9 (.t 4) (.t 13), none⟩])
   (.ret)))
   (.skip)))
  (.seq (.drw [⟨some 14, .fad 0 (.t 2), none⟩,
    ⟨some 15, .load1 (.t 14), none⟩,
    ⟨some 16, .fad 5 (.t 2), none⟩,
    ⟨some 17, .load1 (.t 16), none⟩,
    ⟨some 18, .fad 0 (.t 5), none⟩,
    ⟨none, .store 1 (.t 18) (.t 15), none⟩,
    ⟨some 19, .fad 5 (.t 5), none⟩,
    ⟨none, .store 1 (.t 19) (.t 17), none⟩] 8 [(16, 18)])
  (.seq (.seq (.reg [⟨some 20, .fad 6 (.t 3), none⟩,
    ⟨some 21, .load1 (.t 20), none⟩])
  (.cond (.t 21)
   (.seq (.reg [⟨some 22, .fad 2 (.t 3), none⟩,
     ⟨some 23, .load1 (.t 22), none⟩,
     ⟨some 24, .call 12 [.t 23], none⟩,
     ⟨some 25, .fad 2 (.t 5), none⟩,
     ⟨none, .store 1 (.t 25) (.t 24), none⟩])
   (.seq (.reg [⟨some 26, .loadn 9 (.t 5), none⟩,
     ⟨none, .store 9 (.t 4) (.t 26), none⟩])
   (.ret)))
   (.skip)))
  (.seq (.drw [⟨some 27, .fad 1 (.t 2), none⟩,
    ⟨some 28, .load1 (.t 27), none⟩,
    ⟨some 29, .fad 6 (.t 2), none⟩,
    ⟨some 30, .load1 (.t 29), none⟩,
    ⟨some 31, .fad 1 (.t 5), none⟩,
    ⟨none, .store 1 (.t 31) (.t 28), none⟩,
    ⟨some 32, .fad 6 (.t 5), none⟩,
    ⟨none, .store 1 (.t 32) (.t 30), none⟩] 8 [(29, 31)])
  (.seq (.blk 0
   (.seq (.reg [⟨some 40, .fad 2 (.t 3), none⟩,
     ⟨some 41, .load1 (.t 40), none⟩,
     ⟨some 42, .bin .eql (.t 41) (.c (.s [])), none⟩,
     ⟨some 39, .mv (.t 42), none⟩])
   (.cond (.t 39)
    (.seq (.reg [⟨some 43, .fad 2 (.t 2), none⟩,
      ⟨some 44, .load1 (.t 43), none⟩,
      ⟨some 45, .fad 2 (.t 5), none⟩,
      ⟨none, .store 1 (.t 45) (.t 44), none⟩])
    (.seq (.reg [⟨some 46, .fad 7 (.t 3), none⟩,
      ⟨some 47, .load1 (.t 46), none⟩,
      ⟨some 48, .not (.t 47), none⟩])
    (.cond (.t 48)
     (.drw [⟨some 49, .fad 3 (.t 2), none⟩,
       ⟨some 50, .load1 (.t 49), none⟩,
       ⟨some 51, .fad 7 (.t 2), none⟩,
       ⟨some 52, .load1 (.t 51), none⟩,
       ⟨some 53, .fad 3 (.t 5), none⟩,
       ⟨none, .store 1 (.t 53) (.t 50), none⟩,
       ⟨some 54, .fad 7 (.t 5), none⟩,
       ⟨none, .store 1 (.t 54) (.t 52), none⟩] 8 [(51, 53)])
     (.skip))))
    (.seq (.reg [⟨some 56, .fad 2 (.t 3), none⟩,
      ⟨some 57, .load1 (.t 56), none⟩,
      ⟨some 58, .idx (.t 57) (.c (.i .i64 0)), none⟩,
      ⟨some 59, .bin .eql (.t 58) (.c (.i .u8 47)), none⟩,
      ⟨some 55, .mv (.t 59), none⟩])
    (.cond (.t 55)
     (.reg [⟨some 60, .fad 2 (.t 3), none⟩,
       ⟨some 61, .load1 (.t 60), none⟩,
       ⟨some 62, .call 12 [.t 61], none⟩,
       ⟨some 63, .fad 2 (.t 5), none⟩,
       ⟨none, .store 1 (.t 63) (.t 62), none⟩])
     (.reg [⟨some 33, .loadn 9 (.t 2), none⟩,
       ⟨some 34, .fad 2 (.t 3), none⟩,
       ⟨some 35, .load1 (.t 34), none⟩,
       ⟨some 36, .call 33 [.t 33, .t 35], none⟩,
       ⟨some 37, .call 12 [.t 36], none⟩,
       ⟨some 38, .fad 2 (.t 5), none⟩,
       ⟨none, .store 1 (.t 38) (.t 37), none⟩]))))))
  (.seq (.reg [⟨some 64, .loadn 9 (.t 5), none⟩,
    ⟨none, .store 9 (.t 4) (.t 64), none⟩])
  (.ret))))))))
theorem is_uri_Resolve : FnIs Try.prog 15 65 [.celln 4 9] c_uri_Resolve := ⟨⟨_, _, Try.func15, rfl, rfl, by kernel_rfl, by kernel_rfl⟩⟩
def c_law23_sane : SCode :=
  .seq (.reg [⟨some 0, .mv (.c (.b false)), none⟩])
  (.seq (.reg [⟨some 4, .call 17 [.c (.s [104, 116, 116, 112, 115, 58, 47, 47, 97, 46, 101, 120, 97, 109, 112, 108, 101, 47, 120, 63, 114, 61, 123, 117, 114, 105, 125]), .c (.s [97, 99, 99, 116, 58, 98, 64, 99, 46, 101, 120, 97, 109, 112, 108, 101])], none⟩,
    ⟨some 3, .mv (.t 4), none⟩,
    ⟨some 5, .ext (.t 3) 0, none⟩,
    ⟨some 6, .ext (.t 3) 1, none⟩,
    ⟨some 1, .mv (.t 5), none⟩,
    ⟨some 2, .mv (.t 6), none⟩])
  (.seq (.reg [⟨some 7, .mv (.t 2), none⟩,
    ⟨some 8, .bin .eql (.t 7) (.c (.i .i64 0)), none⟩,
    ⟨some 9, .mv (.t 8), none⟩,
    ⟨some 10, .mv (.t 1), some (9, true)⟩,
    ⟨some 11, .bin .eql (.t 10) (.c (.s [104, 116, 116, 112, 115, 58, 47, 47, 97, 46, 101, 120, 97, 109, 112, 108, 101, 47, 120, 63, 114, 61, 97, 99, 99, 116, 37, 51, 65, 98, 37, 52, 48, 99, 46, 101, 120, 97, 109, 112, 108, 101])), some (9, true)⟩,
    ⟨some 12, .pick (.t 9) (.t 11) (.c (.b false)), none⟩,
    ⟨some 13, .mv (.t 12), none⟩,
    ⟨some 14, .call 19 [.c (.s [123, 120, 125])], some (13, true)⟩,
    ⟨some 15, .not (.t 14), some (13, true)⟩,
    ⟨some 16, .pick (.t 13) (.t 15) (.c (.b false)), none⟩,
    ⟨some 17, .mv (.t 16), none⟩,
    ⟨some 18, .call 19 [.c (.s [])], some (17, true)⟩,
    ⟨some 19, .not (.t 18), some (17, true)⟩,
    ⟨some 20, .pick (.t 17) (.t 19) (.c (.b false)), none⟩,
    ⟨some 0, .mv (.t 20), none⟩])
  (.ret)))
theorem is_law23_sane : FnIs Try.prog 16 21 [.tmp 0] c_law23_sane := ⟨⟨_, _, Try.func16, rfl, rfl, by kernel_rfl, by kernel_rfl⟩⟩
def c_template_Expand : SCode :=
  .seq (.reg [⟨some 4, .mv (.c (.s [])), none⟩,
    ⟨some 5, .mv (.c (.i .i64 0)), none⟩])
  (.seq (.seq (.reg [⟨some 10, .mv (.t 0), none⟩,
    ⟨some 11, .lens (.t 10), none⟩,
    ⟨some 12, .bin .gtr (.t 11) (.c (.i .i64 4096)), none⟩])
  (.cond (.t 12)
   (.seq (.reg [⟨some 4, .mv (.c (.s [])), none⟩,
     ⟨some 5, .mv (.c (.i .i64 5)), none⟩])
   (.ret))
   (.skip)))
  (.seq (.reg [⟨some 14, .mv (.t 0), none⟩,
    ⟨some 15, .call 34 [.t 14], none⟩,
    ⟨some 13, .mv (.t 15), none⟩,
    ⟨some 16, .ext (.t 13) 0, none⟩,
    ⟨some 17, .ext (.t 13) 1, none⟩,
    ⟨some 6, .mv (.t 16), none⟩,
    ⟨some 7, .mv (.t 17), none⟩])
  (.seq (.seq (.reg [⟨some 18, .mv (.t 7), none⟩,
    ⟨some 19, .not (.t 18), none⟩])
  (.cond (.t 19)
   (.seq (.reg [⟨some 4, .mv (.c (.s [])), none⟩,
     ⟨some 5, .mv (.c (.i .i64 230)), none⟩])
   (.ret))
   (.skip)))
  (.seq (.reg [⟨some 20, .mv (.t 1), none⟩,
    ⟨some 21, .call 35 [.t 20, .c (.s [])], none⟩,
    ⟨some 8, .mv (.t 21), none⟩])
  (.seq (.reg [⟨some 22, .mv (.t 6), none⟩,
    ⟨some 23, .lenr (.t 22), none⟩,
    ⟨some 24, .bin .sub (.t 23) (.c (.i .i64 1)), none⟩,
    ⟨some 9, .mv (.t 24), none⟩])
  (.seq (.seq (.reg [⟨some 25, .mv (.t 0), none⟩,
    ⟨some 26, .lens (.t 25), none⟩,
    ⟨some 27, .mv (.t 9), none⟩,
    ⟨some 28, .mv (.t 8), none⟩,
    ⟨some 29, .lens (.t 28), none⟩,
    ⟨some 30, .bin .sub (.t 29) (.c (.i .i64 5)), none⟩,
    ⟨some 31, .bin .mul (.t 27) (.t 30), none⟩,
    ⟨some 32, .bin .add (.t 26) (.t 31), none⟩,
    ⟨some 33, .bin .gtr (.t 32) (.c (.i .i64 4096)), none⟩])
  (.cond (.t 33)
   (.seq (.reg [⟨some 4, .mv (.c (.s [])), none⟩,
     ⟨some 5, .mv (.c (.i .i64 5)), none⟩])
   (.ret))
   (.skip)))
  (.seq (.reg [⟨some 34, .mv (.t 6), none⟩,
    ⟨some 35, .mv (.t 8), none⟩,
    ⟨some 36, .call 36 [.t 34, .t 35], none⟩,
    ⟨some 4, .mv (.t 36), none⟩,
    ⟨some 5, .mv (.c (.i .i64 0)), none⟩])
  (.ret))))))))
theorem is_template_Expand : FnIs Try.prog 17 37 [.tmp 4, .tmp 5] c_template_Expand := ⟨⟨_, _, Try.func17, rfl, rfl, by kernel_rfl, by kernel_rfl⟩⟩
def c_ref23_Expand : SCode :=
  .seq (.reg [⟨some 4, .mv (.c (.s [])), none⟩,
    ⟨some 5, .mv (.c (.i .i64 0)), none⟩])
  (.seq (.seq (.reg [⟨some 11, .mv (.t 0), none⟩,
    ⟨some 12, .lens (.t 11), none⟩,
    ⟨some 13, .bin .gtr (.t 12) (.c (.i .i64 4096)), none⟩])
  (.cond (.t 13)
   (.seq (.reg [⟨some 4, .mv (.c (.s [])), none⟩,
     ⟨some 5, .mv (.c (.i .i64 5)), none⟩])
   (.ret))
   (.skip)))
  (.seq (.reg [⟨some 15, .mv (.t 0), none⟩,
    ⟨some 16, .call 37 [.t 15], none⟩,
    ⟨some 14, .mv (.t 16), none⟩,
    ⟨some 17, .ext (.t 14) 0, none⟩,
    ⟨some 18, .ext (.t 14) 1, none⟩,
    ⟨some 6, .mv (.t 17), none⟩,
    ⟨some 7, .mv (.t 18), none⟩])
  (.seq (.seq (.reg [⟨some 19, .mv (.t 7), none⟩,
    ⟨some 20, .not (.t 19), none⟩])
  (.cond (.t 20)
   (.seq (.reg [⟨some 4, .mv (.c (.s [])), none⟩,
     ⟨some 5, .mv (.c (.i .i64 230)), none⟩])
   (.ret))
   (.skip)))
  (.seq (.reg [⟨some 8, .mv (.c (.s [])), none⟩])
  (.seq (.seq (.reg [⟨some 21, .mv (.t 6), none⟩,
    ⟨some 22, .lenr (.t 21), none⟩,
    ⟨some 23, .mv (.c (.i .i64 0)), none⟩])
  (.blk 0
   (.loop
    (.seq (.reg [⟨some 24, .bin .lss (.t 23) (.t 22), none⟩])
    (.seq (.cond (.t 24)
     (.skip)
     (.exit 0))
    (.seq (.blk 1
     (.seq (.reg [⟨some 25, .mv (.t 23), none⟩,
       ⟨some 26, .iad 1 (.t 21) (.t 23), none⟩,
       ⟨some 27, .load1 (.t 26), none⟩,
       ⟨some 9, .mv (.t 25), none⟩,
       ⟨some 10, .mv (.t 27), none⟩])
     (.seq (.seq (.reg [⟨some 28, .mv (.t 9), none⟩,
       ⟨some 29, .bin .gtr (.t 28) (.c (.i .i64 0)), none⟩])
     (.cond (.t 29)
      (.seq (.reg [⟨some 30, .mv (.t 8), none⟩,
        ⟨some 31, .mv (.t 1), none⟩,
        ⟨some 32, .call 38 [.t 31, .c (.s [])], none⟩,
        ⟨some 33, .bin .add (.t 30) (.t 32), none⟩,
        ⟨some 8, .mv (.t 33), none⟩])
      (.seq (.reg [⟨some 34, .mv (.t 8), none⟩,
        ⟨some 35, .lens (.t 34), none⟩,
        ⟨some 36, .bin .gtr (.t 35) (.c (.i .i64 4096)), none⟩])
      (.cond (.t 36)
       (.seq (.reg [⟨some 4, .mv (.c (.s [])), none⟩,
         ⟨some 5, .mv (.c (.i .i64 5)), none⟩])
       (.ret))
       (.skip))))
      (.skip)))
     (.reg [⟨some 37, .mv (.t 8), none⟩,
       ⟨some 38, .mv (.t 10), none⟩,
       ⟨some 39, .bin .add (.t 37) (.t 38), none⟩,
       ⟨some 8, .mv (.t 39), none⟩]))))
    (.reg [⟨some 40, .bin .add (.t 23) (.c (.i .i64 1)), none⟩,
      ⟨some 23, .mv (.t 40), none⟩])))))))
  (.seq (.seq (.reg [⟨some 41, .mv (.t 8), none⟩,
    ⟨some 42, .lens (.t 41), none⟩,
    ⟨some 43, .bin .gtr (.t 42) (.c (.i .i64 4096)), none⟩])
  (.cond (.t 43)
   (.seq (.reg [⟨some 4, .mv (.c (.s [])), none⟩,
     ⟨some 5, .mv (.c (.i .i64 5)), none⟩])
   (.ret))
   (.skip)))
  (.seq (.reg [⟨some 44, .mv (.t 8), none⟩,
    ⟨some 4, .mv (.t 44), none⟩,
    ⟨some 5, .mv (.c (.i .i64 0)), none⟩])
  (.ret))))))))
theorem is_ref23_Expand : FnIs Try.prog 18 45 [.tmp 4, .tmp 5] c_ref23_Expand := ⟨⟨_, _, Try.func18, rfl, rfl, by kernel_rfl, by kernel_rfl⟩⟩
def c_template_Valid : SCode :=
  .seq (.reg [⟨some 2, .mv (.c (.b false)), none⟩])
  (.seq (.reg [⟨some 6, .mv (.t 0), none⟩,
    ⟨some 7, .call 34 [.t 6], none⟩,
    ⟨some 5, .mv (.t 7), none⟩,
    ⟨some 8, .ext (.t 5) 0, none⟩,
    ⟨some 9, .ext (.t 5) 1, none⟩,
    ⟨some 3, .mv (.t 8), none⟩,
    ⟨some 4, .mv (.t 9), none⟩])
  (.seq (.reg [⟨some 10, .mv (.t 4), none⟩,
    ⟨some 2, .mv (.t 10), none⟩])
  (.ret)))
theorem is_template_Valid : FnIs Try.prog 19 11 [.tmp 2] c_template_Valid := ⟨⟨_, _, Try.func19, rfl, rfl, by kernel_rfl, by kernel_rfl⟩⟩
def c_ref23_Valid : SCode :=
  .seq (.reg [⟨some 2, .mv (.c (.b false)), none⟩])
  (.seq (.reg [⟨some 6, .mv (.t 0), none⟩,
    ⟨some 7, .call 37 [.t 6], none⟩,
    ⟨some 5, .mv (.t 7), none⟩,
    ⟨some 8, .ext (.t 5) 0, none⟩,
    ⟨some 9, .ext (.t 5) 1, none⟩,
    ⟨some 3, .mv (.t 8), none⟩,
    ⟨some 4, .mv (.t 9), none⟩])
  (.seq (.reg [⟨some 10, .mv (.t 4), none⟩,
    ⟨some 2, .mv (.t 10), none⟩])
  (.ret)))
theorem is_ref23_Valid : FnIs Try.prog 20 11 [.tmp 2] c_ref23_Valid := ⟨⟨_, _, Try.func20, rfl, rfl, by kernel_rfl, by kernel_rfl⟩⟩
def c_ref01_Index : SCode :=
  .seq (.reg [⟨some 4, .mv (.c (.i .i64 0)), none⟩])
  (.seq (.seq (.reg [⟨some 5, .mv (.c (.i .i64 0)), none⟩])
  (.blk 0
   (.loop
    (.seq (.seq (.reg [⟨some 6, .mv (.t 5), none⟩,
      ⟨some 7, .mv (.t 0), none⟩,
      ⟨some 8, .lens (.t 7), none⟩,
      ⟨some 9, .bin .lss (.t 6) (.t 8), none⟩])
    (.cond (.t 9)
     (.skip)
     (.exit 0)))
    (.seq (.blk 1
     (.seq (.reg [⟨some 12, .mv (.t 0), none⟩,
       ⟨some 13, .mv (.t 5), none⟩,
       ⟨some 14, .idx (.t 12) (.t 13), none⟩,
       ⟨some 15, .mv (.t 1), none⟩,
       ⟨some 16, .call 39 [.t 14, .t 15], none⟩])
     (.cond (.t 16)
      (.seq (.reg [⟨some 17, .mv (.t 5), none⟩,
        ⟨some 4, .mv (.t 17), none⟩])
      (.ret))
      (.skip))))
    (.reg [⟨some 10, .mv (.t 5), none⟩,
      ⟨some 11, .bin .add (.t 10) (.c (.i .i64 1)), none⟩,
      ⟨some 5, .mv (.t 11), none⟩]))))))
  (.seq (.reg [⟨some 18, .mv (.t 0), none⟩,
    ⟨some 19, .lens (.t 18), none⟩,
    ⟨some 4, .mv (.t 19), none⟩])
  (.ret)))
theorem is_ref01_Index : FnIs Try.prog 21 20 [.tmp 4] c_ref01_Index := ⟨⟨_, _, Try.func21, rfl, rfl, by kernel_rfl, by kernel_rfl⟩⟩
def c_ref03_Decode : SCode :=
  .seq (.reg [⟨some 2, .mv (.c (.s [])), none⟩,
    ⟨some 3, .mv (.c (.i .i64 0)), none⟩])
  (.seq (.seq (.reg [⟨some 9, .mv (.t 0), none⟩,
    ⟨some 10, .lens (.t 9), none⟩,
    ⟨some 11, .bin .gtr (.t 10) (.c (.i .i64 16384)), none⟩])
  (.cond (.t 11)
   (.seq (.reg [⟨some 2, .mv (.c (.s [])), none⟩,
     ⟨some 3, .mv (.c (.i .i64 5)), none⟩])
   (.ret))
   (.skip)))
  (.seq (.reg [⟨some 4, .mv (.c .nil), none⟩])
  (.seq (.seq (.reg [⟨some 5, .mv (.c (.i .i64 0)), none⟩])
  (.blk 0
   (.loop
    (.seq (.seq (.reg [⟨some 12, .mv (.t 5), none⟩,
      ⟨some 13, .mv (.t 0), none⟩,
      ⟨some 14, .lens (.t 13), none⟩,
      ⟨some 15, .bin .lss (.t 12) (.t 14), none⟩])
    (.cond (.t 15)
     (.skip)
     (.exit 0)))
    (.seq (.blk 1
     (.seq (.reg [⟨some 18, .mv (.t 0), none⟩,
       ⟨some 19, .mv (.t 5), none⟩,
       ⟨some 20, .idx (.t 18) (.t 19), none⟩,
       ⟨some 6, .mv (.t 20), none⟩])
     (.seq (.seq (.reg [⟨some 21, .mv (.t 6), none⟩,
       ⟨some 22, .bin .eql (.t 21) (.c (.i .u8 37)), none⟩])
     (.cond (.t 22)
      (.seq (.reg [⟨some 24, .mv (.t 0), none⟩,
        ⟨some 25, .mv (.t 5), none⟩,
        ⟨some 26, .call 40 [.t 24, .t 25], none⟩,
        ⟨some 23, .mv (.t 26), none⟩,
        ⟨some 27, .ext (.t 23) 0, none⟩,
        ⟨some 28, .ext (.t 23) 1, none⟩,
        ⟨some 7, .mv (.t 27), none⟩,
        ⟨some 8, .mv (.t 28), none⟩])
      (.seq (.seq (.reg [⟨some 29, .mv (.t 8), none⟩,
        ⟨some 30, .not (.t 29), none⟩])
      (.cond (.t 30)
       (.seq (.reg [⟨some 2, .mv (.c (.s [])), none⟩,
         ⟨some 3, .mv (.c (.i .i64 2)), none⟩])
       (.ret))
       (.skip)))
      (.reg [⟨some 31, .mv (.t 7), none⟩,
        ⟨some 32, .mv (.t 5), none⟩,
        ⟨some 33, .bin .add (.t 32) (.c (.i .i64 2)), none⟩,
        ⟨some 6, .mv (.t 31), none⟩,
        ⟨some 5, .mv (.t 33), none⟩])))
      (.skip)))
     (.reg [⟨some 34, .mv (.t 4), none⟩,
       ⟨some 35, .mv (.t 6), none⟩,
       ⟨some 36, .bslice 1 [.i .u8 0] [(0, (1, .t 35))], none⟩,
       ⟨some 37, .app 5 1 1 (.t 34) (.t 36), none⟩,
       ⟨some 4, .mv (.t 37), none⟩]))))
    (.reg [⟨some 16, .mv (.t 5), none⟩,
      ⟨some 17, .bin .add (.t 16) (.c (.i .i64 1)), none⟩,
      ⟨some 5, .mv (.t 17), none⟩]))))))
  (.seq (.reg [⟨some 38, .mv (.t 4), none⟩,
    ⟨some 39, .cvbs (.t 38), none⟩,
    ⟨some 2, .mv (.t 39), none⟩,
    ⟨some 3, .mv (.c (.i .i64 0)), none⟩])
  (.ret)))))
theorem is_ref03_Decode : FnIs Try.prog 22 40 [.tmp 2, .tmp 3] c_ref03_Decode := ⟨⟨_, _, Try.func22, rfl, rfl, by kernel_rfl, by kernel_rfl⟩⟩
def c_uri_concat : SCode :=
  .seq (.reg [⟨some 2, .mv (.c (.s [])), none⟩])
  (.seq (.reg [⟨some 3, .mv (.t 0), none⟩,
    ⟨some 4, .call 36 [.t 3, .c (.s [])], none⟩,
    ⟨some 2, .mv (.t 4), none⟩])
  (.ret))
theorem is_uri_concat : FnIs Try.prog 23 5 [.tmp 2] c_uri_concat := ⟨⟨_, _, Try.func23, rfl, rfl, by kernel_rfl, by kernel_rfl⟩⟩
def c_uri_given : SCode :=
  .seq (.reg [⟨some 4, .mv (.c (.s [])), none⟩])
  (.seq (.seq (.reg [⟨some 5, .mv (.t 0), none⟩,
    ⟨some 6, .not (.t 5), none⟩])
  (.cond (.t 6)
   (.seq (.reg [⟨some 4, .mv (.c (.s [])), none⟩])
   (.ret))
   (.skip)))
  (.seq (.reg [⟨some 7, .mv (.t 1), none⟩,
    ⟨some 8, .call 23 [.t 7], none⟩,
    ⟨some 4, .mv (.t 8), none⟩])
  (.ret)))
theorem is_uri_given : FnIs Try.prog 24 9 [.tmp 4] c_uri_given := ⟨⟨_, _, Try.func24, rfl, rfl, by kernel_rfl, by kernel_rfl⟩⟩
def c_uri_firstPart : SCode :=
  .seq (.reg [⟨some 2, .mv (.c (.s [])), none⟩])
  (.seq (.reg [⟨some 7, .mv (.t 0), none⟩,
    ⟨some 8, .call 42 [.t 7, .c (.s [47])], none⟩,
    ⟨some 6, .mv (.t 8), none⟩,
    ⟨some 9, .ext (.t 6) 0, none⟩,
    ⟨some 10, .ext (.t 6) 1, none⟩,
    ⟨some 11, .ext (.t 6) 2, none⟩,
    ⟨some 3, .mv (.t 9), none⟩,
    ⟨some 4, .mv (.t 10), none⟩,
    ⟨some 5, .mv (.t 11), none⟩])
  (.seq (.reg [⟨some 12, .mv (.t 3), none⟩,
    ⟨some 2, .mv (.t 12), none⟩])
  (.ret)))
theorem is_uri_firstPart : FnIs Try.prog 27 13 [.tmp 2] c_uri_firstPart := ⟨⟨_, _, Try.func27, rfl, rfl, by kernel_rfl, by kernel_rfl⟩⟩
def c_uri_Split_1 : SCode :=
  .seq (.reg [⟨some 3, .mv (.c (.s [])), none⟩,
    ⟨some 4, .mv (.c (.b false)), none⟩])
  (.seq (.reg [⟨some 7, .load1 (.t 1), none⟩,
    ⟨some 8, .mv (.t 0), none⟩,
    ⟨some 9, .call 29 [.t 7, .t 8], none⟩,
    ⟨some 5, .mv (.t 9), none⟩])
  (.seq (.seq (.reg [⟨some 10, .mv (.t 5), none⟩,
    ⟨some 11, .bin .lss (.t 10) (.c (.i .i64 0)), none⟩])
  (.cond (.t 11)
   (.seq (.reg [⟨some 3, .mv (.c (.s [])), none⟩,
     ⟨some 4, .mv (.c (.b false)), none⟩])
   (.ret))
   (.skip)))
  (.seq (.reg [⟨some 12, .load1 (.t 1), none⟩,
    ⟨some 13, .mv (.t 5), none⟩,
    ⟨some 14, .bin .add (.t 13) (.c (.i .i64 1)), none⟩,
    ⟨some 15, .slcs (.t 12) (some (.t 14)) none, none⟩,
    ⟨some 6, .mv (.t 15), none⟩])
  (.seq (.reg [⟨some 16, .load1 (.t 1), none⟩,
    ⟨some 17, .mv (.t 5), none⟩,
    ⟨some 18, .slcs (.t 16) none (some (.t 17)), none⟩,
    ⟨none, .store 1 (.t 1) (.t 18), none⟩])
  (.seq (.reg [⟨some 19, .mv (.t 6), none⟩,
    ⟨some 3, .mv (.t 19), none⟩,
    ⟨some 4, .mv (.c (.b true)), none⟩])
  (.ret))))))
theorem is_uri_Split_1 : FnIs Try.prog 28 20 [.tmp 3, .tmp 4] c_uri_Split_1 := ⟨⟨_, _, Try.func28, rfl, rfl, by kernel_rfl, by kernel_rfl⟩⟩
def c_uri_schemeEnd : SCode :=
  .seq (.reg [⟨some 2, .mv (.c (.i .i64 0)), none⟩])
  (.seq (.reg [⟨some 3, .mv (.t 0), none⟩,
    ⟨some 4, .call 27 [.t 3], none⟩,
    ⟨some 5, .call 29 [.t 4, .c (.i .u8 58)], none⟩,
    ⟨some 2, .mv (.t 5), none⟩])
  (.ret))
theorem is_uri_schemeEnd : FnIs Try.prog 30 6 [.tmp 2] c_uri_schemeEnd := ⟨⟨_, _, Try.func30, rfl, rfl, by kernel_rfl, by kernel_rfl⟩⟩
def c_uri_isScheme : SCode :=
  .seq (.reg [⟨some 2, .mv (.c (.b false)), none⟩])
  (.seq (.seq (.reg [⟨some 4, .mv (.t 0), none⟩,
    ⟨some 5, .lens (.t 4), none⟩,
    ⟨some 6, .mv (.c (.i .i64 0)), none⟩])
  (.blk 0
   (.loop
    (.seq (.reg [⟨some 7, .bin .lss (.t 6) (.t 5), none⟩])
    (.seq (.cond (.t 7)
     (.skip)
     (.exit 0))
    (.seq (.blk 1
     (.seq (.reg [⟨some 8, .mv (.t 6), none⟩,
       ⟨some 3, .mv (.t 8), none⟩])
     (.seq (.reg [⟨some 9, .mv (.t 0), none⟩,
       ⟨some 10, .mv (.t 3), none⟩,
       ⟨some 11, .idx (.t 9) (.t 10), none⟩,
       ⟨some 12, .call 44 [.t 11], none⟩,
       ⟨some 13, .not (.t 12), none⟩,
       ⟨some 14, .mv (.t 13), none⟩,
       ⟨some 15, .mv (.t 3), some (14, true)⟩,
       ⟨some 16, .bin .eql (.t 15) (.c (.i .i64 0)), some (14, true)⟩,
       ⟨some 17, .mv (.t 16), some (14, true)⟩,
       ⟨some 18, .mv (.t 0), some (17, false)⟩,
       ⟨some 19, .mv (.t 3), some (17, false)⟩,
       ⟨some 20, .idx (.t 18) (.t 19), some (17, false)⟩,
       ⟨some 21, .call 45 [.t 20], some (17, false)⟩,
       ⟨some 22, .not (.t 21), some (17, false)⟩,
       ⟨some 23, .mv (.t 22), some (17, false)⟩,
       ⟨some 24, .mv (.t 0), some (23, true)⟩,
       ⟨some 25, .mv (.t 3), some (23, true)⟩,
       ⟨some 26, .idx (.t 24) (.t 25), some (23, true)⟩,
       ⟨some 27, .call 29 [.c (.s [43, 45, 46]), .t 26], some (23, true)⟩,
       ⟨some 28, .bin .lss (.t 27) (.c (.i .i64 0)), some (23, true)⟩,
       ⟨some 29, .pick (.t 23) (.t 28) (.c (.b false)), some (17, false)⟩,
       ⟨some 30, .pick (.t 17) (.c (.b true)) (.t 29), some (14, true)⟩,
       ⟨some 31, .pick (.t 14) (.t 30) (.c (.b false)), none⟩])
     (.cond (.t 31)
      (.seq (.reg [⟨some 2, .mv (.c (.b false)), none⟩])
      (.ret))
      (.skip)))))
    (.reg [⟨some 32, .bin .add (.t 6) (.c (.i .i64 1)), none⟩,
      ⟨some 6, .mv (.t 32), none⟩])))))))
  (.seq (.reg [⟨some 33, .mv (.t 0), none⟩,
    ⟨some 34, .bin .neq (.t 33) (.c (.s [])), none⟩,
    ⟨some 2, .mv (.t 34), none⟩])
  (.ret)))
theorem is_uri_isScheme : FnIs Try.prog 31 35 [.tmp 2] c_uri_isScheme := ⟨⟨_, _, Try.func31, rfl, rfl, by kernel_rfl, by kernel_rfl⟩⟩
def c_uri_merge : SCode :=
  .seq (.reg [⟨some 2, .box 23 (.t 0), none⟩,
    ⟨some 4, .mv (.c (.s [])), none⟩])
  (.seq (.seq (.reg [⟨some 5, .fad 6 (.t 2), none⟩,
    ⟨some 6, .load1 (.t 5), none⟩,
    ⟨some 7, .mv (.t 6), none⟩,
    ⟨some 8, .fad 2 (.t 2), some (7, true)⟩,
    ⟨some 9, .load1 (.t 8), some (7, true)⟩,
    ⟨some 10, .bin .eql (.t 9) (.c (.s [])), some (7, true)⟩,
    ⟨some 11, .pick (.t 7) (.t 10) (.c (.b false)), none⟩])
  (.cond (.t 11)
   (.seq (.reg [⟨some 12, .mv (.t 1), none⟩,
     ⟨some 13, .bin .add (.c (.s [47])) (.t 12), none⟩,
     ⟨some 4, .mv (.t 13), none⟩])
   (.ret))
   (.skip)))
  (.seq (.drw [⟨some 14, .fad 2 (.t 2), none⟩,
    ⟨some 15, .load1 (.t 14), none⟩,
    ⟨some 16, .fad 2 (.t 2), none⟩,
    ⟨some 17, .load1 (.t 16), none⟩,
    ⟨some 18, .call 47 [.t 17, .c (.i .u8 47)], none⟩,
    ⟨some 19, .bin .add (.t 18) (.c (.i .i64 1)), none⟩,
    ⟨some 20, .slcs (.t 15) none (some (.t 19)), none⟩,
    ⟨some 21, .mv (.t 1), none⟩,
    ⟨some 22, .bin .add (.t 20) (.t 21), none⟩,
    ⟨some 4, .mv (.t 22), none⟩] 10 [])
  (.ret)))
theorem is_uri_merge : FnIs Try.prog 33 23 [.tmp 4] c_uri_merge := ⟨⟨_, _, Try.func33, rfl, rfl, by kernel_rfl, by kernel_rfl⟩⟩
def c_template_literals : SCode :=
  .seq (.reg [⟨some 2, .mv (.c .nil), none⟩,
    ⟨some 3, .mv (.c (.b false)), none⟩])
  (.seq (.reg [⟨some 9, .mv (.t 0), none⟩,
    ⟨some 4, .alloc 9 [.s []], none⟩,
    ⟨some 5, .alloc 4 [.b false], none⟩,
    ⟨none, .store 1 (.t 4) (.t 9), none⟩,
    ⟨none, .store 1 (.t 5) (.c (.b true)), none⟩])
  (.seq (.reg [⟨some 10, .mkf 48 [] [.t 4, .t 5], none⟩,
    ⟨some 6, .mv (.t 10), none⟩])
  (.seq (.reg [⟨some 7, .mv (.c .nil), none⟩])
  (.seq (.blk 0
   (.loop
    (.seq (.seq (.reg [⟨some 11, .load1 (.t 5), none⟩])
    (.cond (.t 11)
     (.skip)
     (.exit 0)))
    (.blk 1
     (.seq (.reg [⟨some 12, .mv (.t 6), none⟩,
       ⟨some 13, .callv (.t 12) [], none⟩,
       ⟨some 8, .mv (.t 13), none⟩])
     (.seq (.seq (.reg [⟨some 14, .mv (.t 8), none⟩,
       ⟨some 15, .call 49 [.t 14, .c (.s [123, 125])], none⟩])
     (.cond (.t 15)
      (.seq (.reg [⟨some 2, .mv (.c .nil), none⟩,
        ⟨some 3, .mv (.c (.b false)), none⟩])
      (.ret))
      (.skip)))
     (.reg [⟨some 16, .mv (.t 7), none⟩,
       ⟨some 17, .mv (.t 8), none⟩,
       ⟨some 18, .bslice 1 [.s []] [(0, (1, .t 17))], none⟩,
       ⟨some 19, .app 9 1 16 (.t 16) (.t 18), none⟩,
       ⟨some 7, .mv (.t 19), none⟩])))))))
  (.seq (.reg [⟨some 20, .mv (.t 7), none⟩,
    ⟨some 21, .mv (.t 7), none⟩,
    ⟨some 22, .lenr (.t 21), none⟩,
    ⟨some 23, .bin .gtr (.t 22) (.c (.i .i64 1)), none⟩,
    ⟨some 2, .mv (.t 20), none⟩,
    ⟨some 3, .mv (.t 23), none⟩])
  (.ret))))))
theorem is_template_literals : FnIs Try.prog 34 24 [.tmp 2, .tmp 3] c_template_literals := ⟨⟨_, _, Try.func34, rfl, rfl, by kernel_rfl, by kernel_rfl⟩⟩
def c_percent_Encode : SCode :=
  .seq (.reg [⟨some 4, .mv (.c (.s [])), none⟩])
  (.seq (.reg [⟨some 7, .mv (.t 0), none⟩,
    ⟨some 8, .lens (.t 7), none⟩,
    ⟨some 9, .mks 5 1 1 (.c (.i .i64 0)) (.t 8), none⟩,
    ⟨some 5, .mv (.t 9), none⟩])
  (.seq (.seq (.reg [⟨some 10, .mv (.t 0), none⟩,
    ⟨some 11, .lens (.t 10), none⟩,
    ⟨some 12, .mv (.c (.i .i64 0)), none⟩])
  (.blk 0
   (.loop
    (.seq (.reg [⟨some 13, .bin .lss (.t 12) (.t 11), none⟩])
    (.seq (.cond (.t 13)
     (.skip)
     (.exit 0))
    (.seq (.blk 1
     (.seq (.reg [⟨some 14, .mv (.t 12), none⟩,
       ⟨some 6, .mv (.t 14), none⟩])
     (.seq (.reg [⟨some 15, .mv (.t 0), none⟩,
       ⟨some 16, .mv (.t 6), none⟩,
       ⟨some 17, .idx (.t 15) (.t 16), none⟩,
       ⟨some 18, .mv (.t 1), none⟩,
       ⟨some 19, .call 50 [.t 17, .t 18], none⟩])
     (.cond (.t 19)
      (.reg [⟨some 20, .mv (.t 5), none⟩,
        ⟨some 21, .mv (.t 0), none⟩,
        ⟨some 22, .mv (.t 6), none⟩,
        ⟨some 23, .idx (.t 21) (.t 22), none⟩,
        ⟨some 24, .bslice 1 [.i .u8 0] [(0, (1, .t 23))], none⟩,
        ⟨some 25, .app 5 1 1 (.t 20) (.t 24), none⟩,
        ⟨some 5, .mv (.t 25), none⟩])
      (.reg [⟨some 26, .mv (.t 5), none⟩,
        ⟨some 27, .mv (.t 0), none⟩,
        ⟨some 28, .mv (.t 6), none⟩,
        ⟨some 29, .idx (.t 27) (.t 28), none⟩,
        ⟨some 30, .call 51 [.t 26, .t 29], none⟩,
        ⟨some 5, .mv (.t 30), none⟩])))))
    (.reg [⟨some 31, .bin .add (.t 12) (.c (.i .i64 1)), none⟩,
      ⟨some 12, .mv (.t 31), none⟩])))))))
  (.seq (.reg [⟨some 32, .mv (.t 5), none⟩,
    ⟨some 33, .cvbs (.t 32), none⟩,
    ⟨some 4, .mv (.t 33), none⟩])
  (.ret))))
theorem is_percent_Encode : FnIs Try.prog 35 34 [.tmp 4] c_percent_Encode := ⟨⟨_, _, Try.func35, rfl, rfl, by kernel_rfl, by kernel_rfl⟩⟩
def c_ref23_parts : SCode :=
  .seq (.reg [⟨some 2, .mv (.c .nil), none⟩,
    ⟨some 3, .mv (.c (.b false)), none⟩])
  (.seq (.reg [⟨some 4, .mv (.c .nil), none⟩])
  (.seq (.reg [⟨some 5, .mv (.c (.i .i64 0)), none⟩])
  (.seq (.seq (.reg [⟨some 6, .mv (.c (.i .i64 0)), none⟩])
  (.blk 0
   (.loop
    (.seq (.seq (.reg [⟨some 7, .mv (.t 6), none⟩,
      ⟨some 8, .mv (.t 0), none⟩,
      ⟨some 9, .lens (.t 8), none⟩,
      ⟨some 10, .bin .lss (.t 7) (.t 9), none⟩])
    (.cond (.t 10)
     (.skip)
     (.exit 0)))
    (.seq (.blk 1
     (.seq (.reg [⟨some 13, .mv (.t 0), none⟩,
       ⟨some 14, .mv (.t 6), none⟩,
       ⟨some 15, .slcs (.t 13) (some (.t 14)) none, none⟩,
       ⟨some 16, .call 55 [.t 15, .c (.s [123, 117, 114, 105, 125])], none⟩])
     (.cond (.t 16)
      (.reg [⟨some 17, .mv (.t 4), none⟩,
        ⟨some 18, .mv (.t 0), none⟩,
        ⟨some 19, .mv (.t 5), none⟩,
        ⟨some 20, .mv (.t 6), none⟩,
        ⟨some 21, .slcs (.t 18) (some (.t 19)) (some (.t 20)), none⟩,
        ⟨some 22, .bslice 1 [.s []] [(0, (1, .t 21))], none⟩,
        ⟨some 23, .app 9 1 16 (.t 17) (.t 22), none⟩,
        ⟨some 24, .mv (.t 6), none⟩,
        ⟨some 25, .bin .add (.t 24) (.c (.i .i64 5)), none⟩,
        ⟨some 26, .mv (.t 6), none⟩,
        ⟨some 27, .bin .add (.t 26) (.c (.i .i64 4)), none⟩,
        ⟨some 4, .mv (.t 23), none⟩,
        ⟨some 5, .mv (.t 25), none⟩,
        ⟨some 6, .mv (.t 27), none⟩])
      (.seq (.reg [⟨some 28, .mv (.t 0), none⟩,
        ⟨some 29, .mv (.t 6), none⟩,
        ⟨some 30, .idx (.t 28) (.t 29), none⟩,
        ⟨some 31, .bin .eql (.t 30) (.c (.i .u8 123)), none⟩,
        ⟨some 32, .mv (.t 31), none⟩,
        ⟨some 33, .mv (.t 0), some (32, false)⟩,
        ⟨some 34, .mv (.t 6), some (32, false)⟩,
        ⟨some 35, .idx (.t 33) (.t 34), some (32, false)⟩,
        ⟨some 36, .bin .eql (.t 35) (.c (.i .u8 125)), some (32, false)⟩,
        ⟨some 37, .pick (.t 32) (.c (.b true)) (.t 36), none⟩])
      (.cond (.t 37)
       (.seq (.reg [⟨some 2, .mv (.c .nil), none⟩,
         ⟨some 3, .mv (.c (.b false)), none⟩])
       (.ret))
       (.skip))))))
    (.reg [⟨some 11, .mv (.t 6), none⟩,
      ⟨some 12, .bin .add (.t 11) (.c (.i .i64 1)), none⟩,
      ⟨some 6, .mv (.t 12), none⟩]))))))
  (.seq (.reg [⟨some 38, .mv (.t 4), none⟩,
    ⟨some 39, .mv (.t 0), none⟩,
    ⟨some 40, .mv (.t 5), none⟩,
    ⟨some 41, .slcs (.t 39) (some (.t 40)) none, none⟩,
    ⟨some 42, .bslice 1 [.s []] [(0, (1, .t 41))], none⟩,
    ⟨some 43, .app 9 1 16 (.t 38) (.t 42), none⟩,
    ⟨some 44, .mv (.t 4), none⟩,
    ⟨some 45, .lenr (.t 44), none⟩,
    ⟨some 46, .bin .gtr (.t 45) (.c (.i .i64 0)), none⟩,
    ⟨some 2, .mv (.t 43), none⟩,
    ⟨some 3, .mv (.t 46), none⟩])
  (.ret)))))
theorem is_ref23_parts : FnIs Try.prog 37 47 [.tmp 2, .tmp 3] c_ref23_parts := ⟨⟨_, _, Try.func37, rfl, rfl, by kernel_rfl, by kernel_rfl⟩⟩
def c_ref03_Encode : SCode :=
  .seq (.reg [⟨some 4, .mv (.c (.s [])), none⟩])
  (.seq (.reg [⟨some 5, .mv (.c (.s [])), none⟩])
  (.seq (.seq (.reg [⟨some 6, .mv (.c (.i .i64 0)), none⟩])
  (.blk 0
   (.loop
    (.seq (.seq (.reg [⟨some 7, .mv (.t 6), none⟩,
      ⟨some 8, .mv (.t 0), none⟩,
      ⟨some 9, .lens (.t 8), none⟩,
      ⟨some 10, .bin .lss (.t 7) (.t 9), none⟩])
    (.cond (.t 10)
     (.skip)
     (.exit 0)))
    (.seq (.blk 1
     (.seq (.reg [⟨some 13, .mv (.t 0), none⟩,
       ⟨some 14, .mv (.t 6), none⟩,
       ⟨some 15, .idx (.t 13) (.t 14), none⟩,
       ⟨some 16, .call 56 [.t 15], none⟩,
       ⟨some 17, .mv (.t 16), none⟩,
       ⟨some 18, .mv (.t 0), some (17, false)⟩,
       ⟨some 19, .mv (.t 6), some (17, false)⟩,
       ⟨some 20, .idx (.t 18) (.t 19), some (17, false)⟩,
       ⟨some 21, .bin .neq (.t 20) (.c (.i .u8 37)), some (17, false)⟩,
       ⟨some 22, .mv (.t 21), some (17, false)⟩,
       ⟨some 23, .mv (.t 0), some (22, true)⟩,
       ⟨some 24, .mv (.t 6), some (22, true)⟩,
       ⟨some 25, .idx (.t 23) (.t 24), some (22, true)⟩,
       ⟨some 26, .mv (.t 1), some (22, true)⟩,
       ⟨some 27, .call 39 [.t 25, .t 26], some (22, true)⟩,
       ⟨some 28, .pick (.t 22) (.t 27) (.c (.b false)), some (17, false)⟩,
       ⟨some 29, .pick (.t 17) (.c (.b true)) (.t 28), none⟩])
     (.cond (.t 29)
      (.reg [⟨some 30, .mv (.t 5), none⟩,
        ⟨some 31, .mv (.t 0), none⟩,
        ⟨some 32, .mv (.t 6), none⟩,
        ⟨some 33, .mv (.t 6), none⟩,
        ⟨some 34, .bin .add (.t 33) (.c (.i .i64 1)), none⟩,
        ⟨some 35, .slcs (.t 31) (some (.t 32)) (some (.t 34)), none⟩,
        ⟨some 36, .bin .add (.t 30) (.t 35), none⟩,
        ⟨some 5, .mv (.t 36), none⟩])
      (.reg [⟨some 37, .mv (.t 5), none⟩,
        ⟨some 38, .mv (.t 0), none⟩,
        ⟨some 39, .mv (.t 6), none⟩,
        ⟨some 40, .idx (.t 38) (.t 39), none⟩,
        ⟨some 41, .call 57 [.t 40], none⟩,
        ⟨some 42, .bin .add (.t 37) (.t 41), none⟩,
        ⟨some 5, .mv (.t 42), none⟩]))))
    (.reg [⟨some 11, .mv (.t 6), none⟩,
      ⟨some 12, .bin .add (.t 11) (.c (.i .i64 1)), none⟩,
      ⟨some 6, .mv (.t 12), none⟩]))))))
  (.seq (.reg [⟨some 43, .mv (.t 5), none⟩,
    ⟨some 4, .mv (.t 43), none⟩])
  (.ret))))
theorem is_ref03_Encode : FnIs Try.prog 38 44 [.tmp 4] c_ref03_Encode := ⟨⟨_, _, Try.func38, rfl, rfl, by kernel_rfl, by kernel_rfl⟩⟩
def c_ref01_In : SCode :=
  .seq (.reg [⟨some 4, .mv (.c (.b false)), none⟩])
  (.seq (.seq (.reg [⟨some 5, .mv (.c (.i .i64 0)), none⟩])
  (.blk 0
   (.loop
    (.seq (.seq (.reg [⟨some 6, .mv (.t 5), none⟩,
      ⟨some 7, .mv (.t 1), none⟩,
      ⟨some 8, .lens (.t 7), none⟩,
      ⟨some 9, .bin .lss (.t 6) (.t 8), none⟩])
    (.cond (.t 9)
     (.skip)
     (.exit 0)))
    (.seq (.blk 1
     (.seq (.reg [⟨some 12, .mv (.t 1), none⟩,
       ⟨some 13, .mv (.t 5), none⟩,
       ⟨some 14, .idx (.t 12) (.t 13), none⟩,
       ⟨some 15, .mv (.t 0), none⟩,
       ⟨some 16, .bin .eql (.t 14) (.t 15), none⟩])
     (.cond (.t 16)
      (.seq (.reg [⟨some 4, .mv (.c (.b true)), none⟩])
      (.ret))
      (.skip))))
    (.reg [⟨some 10, .mv (.t 5), none⟩,
      ⟨some 11, .bin .add (.t 10) (.c (.i .i64 1)), none⟩,
      ⟨some 5, .mv (.t 11), none⟩]))))))
  (.seq (.reg [⟨some 4, .mv (.c (.b false)), none⟩])
  (.ret)))
theorem is_ref01_In : FnIs Try.prog 39 17 [.tmp 4] c_ref01_In := ⟨⟨_, _, Try.func39, rfl, rfl, by kernel_rfl, by kernel_rfl⟩⟩
def c_ref03_escape : SCode :=
  .seq (.reg [⟨some 4, .mv (.c (.i .u8 0)), none⟩,
    ⟨some 5, .mv (.c (.b false)), none⟩])
  (.seq (.seq (.reg [⟨some 6, .mv (.t 1), none⟩,
    ⟨some 7, .bin .add (.t 6) (.c (.i .i64 2)), none⟩,
    ⟨some 8, .mv (.t 0), none⟩,
    ⟨some 9, .lens (.t 8), none⟩,
    ⟨some 10, .bin .geq (.t 7) (.t 9), none⟩,
    ⟨some 11, .mv (.t 10), none⟩,
    ⟨some 12, .mv (.t 0), some (11, false)⟩,
    ⟨some 13, .mv (.t 1), some (11, false)⟩,
    ⟨some 14, .idx (.t 12) (.t 13), some (11, false)⟩,
    ⟨some 15, .bin .neq (.t 14) (.c (.i .u8 37)), some (11, false)⟩,
    ⟨some 16, .pick (.t 11) (.c (.b true)) (.t 15), none⟩,
    ⟨some 17, .mv (.t 16), none⟩,
    ⟨some 18, .mv (.t 0), some (17, false)⟩,
    ⟨some 19, .mv (.t 1), some (17, false)⟩,
    ⟨some 20, .bin .add (.t 19) (.c (.i .i64 1)), some (17, false)⟩,
    ⟨some 21, .idx (.t 18) (.t 20), some (17, false)⟩,
    ⟨some 22, .call 58 [.t 21], some (17, false)⟩,
    ⟨some 23, .not (.t 22), some (17, false)⟩,
    ⟨some 24, .pick (.t 17) (.c (.b true)) (.t 23), none⟩,
    ⟨some 25, .mv (.t 24), none⟩,
    ⟨some 26, .mv (.t 0), some (25, false)⟩,
    ⟨some 27, .mv (.t 1), some (25, false)⟩,
    ⟨some 28, .bin .add (.t 27) (.c (.i .i64 2)), some (25, false)⟩,
    ⟨some 29, .idx (.t 26) (.t 28), some (25, false)⟩,
    ⟨some 30, .call 58 [.t 29], some (25, false)⟩,
    ⟨some 31, .not (.t 30), some (25, false)⟩,
    ⟨some 32, .pick (.t 25) (.c (.b true)) (.t 31), none⟩])
  (.cond (.t 32)
   (.seq (.reg [⟨some 4, .mv (.c (.i .u8 0)), none⟩,
     ⟨some 5, .mv (.c (.b false)), none⟩])
   (.ret))
   (.skip)))
  (.seq (.drw [⟨some 33, .mv (.t 0), none⟩,
    ⟨some 34, .mv (.t 1), none⟩,
    ⟨some 35, .bin .add (.t 34) (.c (.i .i64 1)), none⟩,
    ⟨some 36, .idx (.t 33) (.t 35), none⟩,
    ⟨some 37, .call 59 [.t 36], none⟩,
    ⟨some 38, .bin .mul (.c (.i .u8 16)) (.t 37), none⟩,
    ⟨some 39, .mv (.t 0), none⟩,
    ⟨some 40, .mv (.t 1), none⟩,
    ⟨some 41, .bin .add (.t 40) (.c (.i .i64 2)), none⟩,
    ⟨some 42, .idx (.t 39) (.t 41), none⟩,
    ⟨some 43, .call 59 [.t 42], none⟩,
    ⟨some 44, .bin .add (.t 38) (.t 43), none⟩,
    ⟨some 4, .mv (.t 44), none⟩,
    ⟨some 5, .mv (.c (.b true)), none⟩] 14 [])
  (.ret)))
theorem is_ref03_escape : FnIs Try.prog 40 45 [.tmp 4, .tmp 5] c_ref03_escape := ⟨⟨_, _, Try.func40, rfl, rfl, by kernel_rfl, by kernel_rfl⟩⟩
def c_ascii_IsAlpha : SCode :=
  .seq (.reg [⟨some 2, .mv (.c (.b false)), none⟩])
  (.seq (.reg [⟨some 3, .mv (.t 0), none⟩,
    ⟨some 4, .bin .geq (.t 3) (.c (.i .u8 97)), none⟩,
    ⟨some 5, .mv (.t 4), none⟩,
    ⟨some 6, .mv (.t 0), some (5, true)⟩,
    ⟨some 7, .bin .leq (.t 6) (.c (.i .u8 122)), some (5, true)⟩,
    ⟨some 8, .pick (.t 5) (.t 7) (.c (.b false)), none⟩,
    ⟨some 9, .mv (.t 8), none⟩,
    ⟨some 10, .mv (.t 0), some (9, false)⟩,
    ⟨some 11, .call 62 [.t 10], some (9, false)⟩,
    ⟨some 12, .pick (.t 9) (.c (.b true)) (.t 11), none⟩,
    ⟨some 2, .mv (.t 12), none⟩])
  (.ret))
theorem is_ascii_IsAlpha : FnIs Try.prog 44 13 [.tmp 2] c_ascii_IsAlpha := ⟨⟨_, _, Try.func44, rfl, rfl, by kernel_rfl, by kernel_rfl⟩⟩
def c_ascii_IsDigit : SCode :=
  .seq (.reg [⟨some 2, .mv (.c (.b false)), none⟩])
  (.seq (.reg [⟨some 3, .mv (.t 0), none⟩,
    ⟨some 4, .bin .geq (.t 3) (.c (.i .u8 48)), none⟩,
    ⟨some 5, .mv (.t 4), none⟩,
    ⟨some 6, .mv (.t 0), some (5, true)⟩,
    ⟨some 7, .bin .leq (.t 6) (.c (.i .u8 57)), some (5, true)⟩,
    ⟨some 8, .pick (.t 5) (.t 7) (.c (.b false)), none⟩,
    ⟨some 2, .mv (.t 8), none⟩])
  (.ret))
theorem is_ascii_IsDigit : FnIs Try.prog 45 9 [.tmp 2] c_ascii_IsDigit := ⟨⟨_, _, Try.func45, rfl, rfl, by kernel_rfl, by kernel_rfl⟩⟩
def c_template_literals_1 : SCode :=
  .seq (.reg [⟨some 2, .mv (.c (.s [])), none⟩])
  (.seq (.reg [⟨some 3, .mv (.c (.s [])), none⟩])
  (.seq (.reg [⟨some 5, .load1 (.t 0), none⟩,
    ⟨some 6, .call 42 [.t 5, .c (.s [123, 117, 114, 105, 125])], none⟩,
    ⟨some 4, .mv (.t 6), none⟩,
    ⟨some 7, .ext (.t 4) 0, none⟩,
    ⟨some 8, .ext (.t 4) 1, none⟩,
    ⟨some 9, .ext (.t 4) 2, none⟩,
    ⟨some 3, .mv (.t 7), none⟩,
    ⟨none, .store 1 (.t 0) (.t 8), none⟩,
    ⟨none, .store 1 (.t 1) (.t 9), none⟩])
  (.seq (.reg [⟨some 10, .mv (.t 3), none⟩,
    ⟨some 2, .mv (.t 10), none⟩])
  (.ret))))
theorem is_template_literals_1 : FnIs Try.prog 48 11 [.tmp 2] c_template_literals_1 := ⟨⟨_, _, Try.func48, rfl, rfl, by kernel_rfl, by kernel_rfl⟩⟩
def c_percent_isPlain : SCode :=
  .seq (.reg [⟨some 4, .mv (.c (.b false)), none⟩])
  (.seq (.reg [⟨some 5, .mv (.t 0), none⟩,
    ⟨some 6, .call 65 [.t 5], none⟩,
    ⟨some 7, .mv (.t 6), none⟩,
    ⟨some 8, .mv (.t 0), some (7, false)⟩,
    ⟨some 9, .bin .neq (.t 8) (.c (.i .u8 37)), some (7, false)⟩,
    ⟨some 10, .mv (.t 9), some (7, false)⟩,
    ⟨some 11, .mv (.t 1), some (10, true)⟩,
    ⟨some 12, .mv (.t 0), some (10, true)⟩,
    ⟨some 13, .call 29 [.t 11, .t 12], some (10, true)⟩,
    ⟨some 14, .bin .geq (.t 13) (.c (.i .i64 0)), some (10, true)⟩,
    ⟨some 15, .pick (.t 10) (.t 14) (.c (.b false)), some (7, false)⟩,
    ⟨some 16, .pick (.t 7) (.c (.b true)) (.t 15), none⟩,
    ⟨some 4, .mv (.t 16), none⟩])
  (.ret))
theorem is_percent_isPlain : FnIs Try.prog 50 17 [.tmp 4] c_percent_isPlain := ⟨⟨_, _, Try.func50, rfl, rfl, by kernel_rfl, by kernel_rfl⟩⟩
def c_percent_appendEscape : SCode :=
  .seq (.reg [⟨some 4, .mv (.c .nil), none⟩])
  (.seq (.drw [⟨some 5, .mv (.t 0), none⟩,
    ⟨some 6, .mv (.t 1), none⟩,
    ⟨some 7, .bin .shr (.t 6) (.c (.i .u64 4)), none⟩,
    ⟨some 8, .idx (.c (.s [48, 49, 50, 51, 52, 53, 54, 55, 56, 57, 65, 66, 67, 68, 69, 70])) (.t 7), none⟩,
    ⟨some 9, .mv (.t 1), none⟩,
    ⟨some 10, .bin .and (.t 9) (.c (.i .u8 15)), none⟩,
    ⟨some 11, .idx (.c (.s [48, 49, 50, 51, 52, 53, 54, 55, 56, 57, 65, 66, 67, 68, 69, 70])) (.t 10), none⟩,
    ⟨some 12, .bslice 3 [.i .u8 0, .i .u8 0, .i .u8 0] [(0, (1, .c (.i .u8 37))), (1, (1, .t 8)), (2, (1, .t 11))], none⟩,
    ⟨some 13, .app 5 1 1 (.t 5) (.t 12), none⟩,
    ⟨some 4, .mv (.t 13), none⟩] 8 [])
  (.ret))
theorem is_percent_appendEscape : FnIs Try.prog 51 14 [.tmp 4] c_percent_appendEscape := ⟨⟨_, _, Try.func51, rfl, rfl, by kernel_rfl, by kernel_rfl⟩⟩
def c_ref01_Prefix : SCode :=
  .seq (.reg [⟨some 4, .mv (.c (.b false)), none⟩])
  (.seq (.reg [⟨some 5, .mv (.t 0), none⟩,
    ⟨some 6, .lens (.t 5), none⟩,
    ⟨some 7, .mv (.t 1), none⟩,
    ⟨some 8, .lens (.t 7), none⟩,
    ⟨some 9, .bin .geq (.t 6) (.t 8), none⟩,
    ⟨some 10, .mv (.t 9), none⟩,
    ⟨some 11, .mv (.t 0), some (10, true)⟩,
    ⟨some 12, .mv (.t 1), some (10, true)⟩,
    ⟨some 13, .lens (.t 12), some (10, true)⟩,
    ⟨some 14, .slcs (.t 11) none (some (.t 13)), some (10, true)⟩,
    ⟨some 15, .mv (.t 1), some (10, true)⟩,
    ⟨some 16, .bin .eql (.t 14) (.t 15), some (10, true)⟩,
    ⟨some 17, .pick (.t 10) (.t 16) (.c (.b false)), none⟩,
    ⟨some 4, .mv (.t 17), none⟩])
  (.ret))
theorem is_ref01_Prefix : FnIs Try.prog 55 18 [.tmp 4] c_ref01_Prefix := ⟨⟨_, _, Try.func55, rfl, rfl, by kernel_rfl, by kernel_rfl⟩⟩
def c_ref01_IsUnreserved : SCode :=
  .seq (.reg [⟨some 2, .mv (.c (.b false)), none⟩])
  (.seq (.reg [⟨some 3, .mv (.t 0), none⟩,
    ⟨some 4, .call 68 [.t 3], none⟩,
    ⟨some 5, .mv (.t 4), none⟩,
    ⟨some 6, .mv (.t 0), some (5, false)⟩,
    ⟨some 7, .call 69 [.t 6], some (5, false)⟩,
    ⟨some 8, .pick (.t 5) (.c (.b true)) (.t 7), none⟩,
    ⟨some 9, .mv (.t 8), none⟩,
    ⟨some 10, .mv (.t 0), some (9, false)⟩,
    ⟨some 11, .call 39 [.t 10, .c (.s [45, 46, 95, 126])], some (9, false)⟩,
    ⟨some 12, .pick (.t 9) (.c (.b true)) (.t 11), none⟩,
    ⟨some 2, .mv (.t 12), none⟩])
  (.ret))
theorem is_ref01_IsUnreserved : FnIs Try.prog 56 13 [.tmp 2] c_ref01_IsUnreserved := ⟨⟨_, _, Try.func56, rfl, rfl, by kernel_rfl, by kernel_rfl⟩⟩
def c_ref03_Escape : SCode :=
  .seq (.reg [⟨some 2, .mv (.c (.s [])), none⟩])
  (.seq (.drw [⟨some 3, .mv (.t 0), none⟩,
    ⟨some 4, .bin .quo (.t 3) (.c (.i .u8 16)), none⟩,
    ⟨some 5, .idx (.c (.s [48, 49, 50, 51, 52, 53, 54, 55, 56, 57, 65, 66, 67, 68, 69, 70])) (.t 4), none⟩,
    ⟨some 6, .mv (.t 0), none⟩,
    ⟨some 7, .bin .rem (.t 6) (.c (.i .u8 16)), none⟩,
    ⟨some 8, .idx (.c (.s [48, 49, 50, 51, 52, 53, 54, 55, 56, 57, 65, 66, 67, 68, 69, 70])) (.t 7), none⟩,
    ⟨some 9, .bslice 3 [.i .u8 0, .i .u8 0, .i .u8 0] [(0, (1, .c (.i .u8 37))), (1, (1, .t 5)), (2, (1, .t 8))], none⟩,
    ⟨some 10, .cvbs (.t 9), none⟩,
    ⟨some 2, .mv (.t 10), none⟩] 9 [])
  (.ret))
theorem is_ref03_Escape : FnIs Try.prog 57 11 [.tmp 2] c_ref03_Escape := ⟨⟨_, _, Try.func57, rfl, rfl, by kernel_rfl, by kernel_rfl⟩⟩
def c_ref01_IsHex : SCode :=
  .seq (.reg [⟨some 2, .mv (.c (.b false)), none⟩])
  (.seq (.reg [⟨some 3, .mv (.t 0), none⟩,
    ⟨some 4, .call 69 [.t 3], none⟩,
    ⟨some 5, .mv (.t 4), none⟩,
    ⟨some 6, .mv (.t 0), some (5, false)⟩,
    ⟨some 7, .bin .geq (.t 6) (.c (.i .u8 65)), some (5, false)⟩,
    ⟨some 8, .mv (.t 7), some (5, false)⟩,
    ⟨some 9, .mv (.t 0), some (8, true)⟩,
    ⟨some 10, .bin .leq (.t 9) (.c (.i .u8 70)), some (8, true)⟩,
    ⟨some 11, .pick (.t 8) (.t 10) (.c (.b false)), some (5, false)⟩,
    ⟨some 12, .pick (.t 5) (.c (.b true)) (.t 11), none⟩,
    ⟨some 13, .mv (.t 12), none⟩,
    ⟨some 14, .mv (.t 0), some (13, false)⟩,
    ⟨some 15, .bin .geq (.t 14) (.c (.i .u8 97)), some (13, false)⟩,
    ⟨some 16, .mv (.t 15), some (13, false)⟩,
    ⟨some 17, .mv (.t 0), some (16, true)⟩,
    ⟨some 18, .bin .leq (.t 17) (.c (.i .u8 102)), some (16, true)⟩,
    ⟨some 19, .pick (.t 16) (.t 18) (.c (.b false)), some (13, false)⟩,
    ⟨some 20, .pick (.t 13) (.c (.b true)) (.t 19), none⟩,
    ⟨some 2, .mv (.t 20), none⟩])
  (.ret))
theorem is_ref01_IsHex : FnIs Try.prog 58 21 [.tmp 2] c_ref01_IsHex := ⟨⟨_, _, Try.func58, rfl, rfl, by kernel_rfl, by kernel_rfl⟩⟩
def c_ref03_digit : SCode :=
  .seq (.reg [⟨some 2, .mv (.c (.i .u8 0)), none⟩])
  (.seq (.blk 0
   (.seq (.reg [⟨some 4, .mv (.t 0), none⟩,
     ⟨some 5, .bin .leq (.t 4) (.c (.i .u8 57)), none⟩,
     ⟨some 3, .mv (.t 5), none⟩])
   (.cond (.t 3)
    (.seq (.reg [⟨some 6, .mv (.t 0), none⟩,
      ⟨some 7, .bin .sub (.t 6) (.c (.i .u8 48)), none⟩,
      ⟨some 2, .mv (.t 7), none⟩])
    (.ret))
    (.seq (.reg [⟨some 9, .mv (.t 0), none⟩,
      ⟨some 10, .bin .leq (.t 9) (.c (.i .u8 70)), none⟩,
      ⟨some 8, .mv (.t 10), none⟩])
    (.cond (.t 8)
     (.seq (.reg [⟨some 11, .mv (.t 0), none⟩,
       ⟨some 12, .bin .sub (.t 11) (.c (.i .u8 65)), none⟩,
       ⟨some 13, .bin .add (.t 12) (.c (.i .u8 10)), none⟩,
       ⟨some 2, .mv (.t 13), none⟩])
     (.ret))
     (.skip))))))
  (.seq (.reg [⟨some 14, .mv (.t 0), none⟩,
    ⟨some 15, .bin .sub (.t 14) (.c (.i .u8 97)), none⟩,
    ⟨some 16, .bin .add (.t 15) (.c (.i .u8 10)), none⟩,
    ⟨some 2, .mv (.t 16), none⟩])
  (.ret)))
theorem is_ref03_digit : FnIs Try.prog 59 17 [.tmp 2] c_ref03_digit := ⟨⟨_, _, Try.func59, rfl, rfl, by kernel_rfl, by kernel_rfl⟩⟩
def c_ascii_isCapital : SCode :=
  .seq (.reg [⟨some 2, .mv (.c (.b false)), none⟩])
  (.seq (.reg [⟨some 3, .mv (.t 0), none⟩,
    ⟨some 4, .bin .geq (.t 3) (.c (.i .u8 65)), none⟩,
    ⟨some 5, .mv (.t 4), none⟩,
    ⟨some 6, .mv (.t 0), some (5, true)⟩,
    ⟨some 7, .bin .leq (.t 6) (.c (.i .u8 90)), some (5, true)⟩,
    ⟨some 8, .pick (.t 5) (.t 7) (.c (.b false)), none⟩,
    ⟨some 2, .mv (.t 8), none⟩])
  (.ret))
theorem is_ascii_isCapital : FnIs Try.prog 62 9 [.tmp 2] c_ascii_isCapital := ⟨⟨_, _, Try.func62, rfl, rfl, by kernel_rfl, by kernel_rfl⟩⟩
def c_ascii_IsUnreserved : SCode :=
  .seq (.reg [⟨some 2, .mv (.c (.b false)), none⟩])
  (.seq (.reg [⟨some 3, .mv (.t 0), none⟩,
    ⟨some 4, .call 75 [.t 3], none⟩,
    ⟨some 5, .mv (.t 4), none⟩,
    ⟨some 6, .mv (.t 0), some (5, false)⟩,
    ⟨some 7, .call 76 [.t 6, .c (.s [45, 46, 95, 126])], some (5, false)⟩,
    ⟨some 8, .pick (.t 5) (.c (.b true)) (.t 7), none⟩,
    ⟨some 2, .mv (.t 8), none⟩])
  (.ret))
theorem is_ascii_IsUnreserved : FnIs Try.prog 65 9 [.tmp 2] c_ascii_IsUnreserved := ⟨⟨_, _, Try.func65, rfl, rfl, by kernel_rfl, by kernel_rfl⟩⟩
def c_ref01_IsAlpha : SCode :=
  .seq (.reg [⟨some 2, .mv (.c (.b false)), none⟩])
  (.seq (.reg [⟨some 3, .mv (.t 0), none⟩,
    ⟨some 4, .bin .geq (.t 3) (.c (.i .u8 65)), none⟩,
    ⟨some 5, .mv (.t 4), none⟩,
    ⟨some 6, .mv (.t 0), some (5, true)⟩,
    ⟨some 7, .bin .leq (.t 6) (.c (.i .u8 90)), some (5, true)⟩,
    ⟨some 8, .pick (.t 5) (.t 7) (.c (.b false)), none⟩,
    ⟨some 9, .mv (.t 8), none⟩,
    ⟨some 10, .mv (.t 0), some (9, false)⟩,
    ⟨some 11, .bin .geq (.t 10) (.c (.i .u8 97)), some (9, false)⟩,
    ⟨some 12, .mv (.t 11), some (9, false)⟩,
    ⟨some 13, .mv (.t 0), some (12, true)⟩,
    ⟨some 14, .bin .leq (.t 13) (.c (.i .u8 122)), some (12, true)⟩,
    ⟨some 15, .pick (.t 12) (.t 14) (.c (.b false)), some (9, false)⟩,
    ⟨some 16, .pick (.t 9) (.c (.b true)) (.t 15), none⟩,
    ⟨some 2, .mv (.t 16), none⟩])
  (.ret))
theorem is_ref01_IsAlpha : FnIs Try.prog 68 17 [.tmp 2] c_ref01_IsAlpha := ⟨⟨_, _, Try.func68, rfl, rfl, by kernel_rfl, by kernel_rfl⟩⟩
def c_ref01_IsDigit : SCode :=
  .seq (.reg [⟨some 2, .mv (.c (.b false)), none⟩])
  (.seq (.reg [⟨some 3, .mv (.t 0), none⟩,
    ⟨some 4, .bin .geq (.t 3) (.c (.i .u8 48)), none⟩,
    ⟨some 5, .mv (.t 4), none⟩,
    ⟨some 6, .mv (.t 0), some (5, true)⟩,
    ⟨some 7, .bin .leq (.t 6) (.c (.i .u8 57)), some (5, true)⟩,
    ⟨some 8, .pick (.t 5) (.t 7) (.c (.b false)), none⟩,
    ⟨some 2, .mv (.t 8), none⟩])
  (.ret))
theorem is_ref01_IsDigit : FnIs Try.prog 69 9 [.tmp 2] c_ref01_IsDigit := ⟨⟨_, _, Try.func69, rfl, rfl, by kernel_rfl, by kernel_rfl⟩⟩
def c_ascii_isLetterOrDigit : SCode :=
  .seq (.reg [⟨some 2, .mv (.c (.b false)), none⟩])
  (.seq (.reg [⟨some 3, .mv (.t 0), none⟩,
    ⟨some 4, .call 44 [.t 3], none⟩,
    ⟨some 5, .mv (.t 4), none⟩,
    ⟨some 6, .mv (.t 0), some (5, false)⟩,
    ⟨some 7, .call 45 [.t 6], some (5, false)⟩,
    ⟨some 8, .pick (.t 5) (.c (.b true)) (.t 7), none⟩,
    ⟨some 2, .mv (.t 8), none⟩])
  (.ret))
theorem is_ascii_isLetterOrDigit : FnIs Try.prog 75 9 [.tmp 2] c_ascii_isLetterOrDigit := ⟨⟨_, _, Try.func75, rfl, rfl, by kernel_rfl, by kernel_rfl⟩⟩
def c_ascii_isOneOf : SCode :=
  .seq (.reg [⟨some 4, .mv (.c (.b false)), none⟩])
  (.seq (.reg [⟨some 5, .mv (.t 1), none⟩,
    ⟨some 6, .mv (.t 0), none⟩,
    ⟨some 7, .call 29 [.t 5, .t 6], none⟩,
    ⟨some 8, .bin .geq (.t 7) (.c (.i .i64 0)), none⟩,
    ⟨some 4, .mv (.t 8), none⟩])
  (.ret))
theorem is_ascii_isOneOf : FnIs Try.prog 76 9 [.tmp 4] c_ascii_isOneOf := ⟨⟨_, _, Try.func76, rfl, rfl, by kernel_rfl, by kernel_rfl⟩⟩
end Go.Proofs.Ytkokcmpgebjiaaa.Sx
