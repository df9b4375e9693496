/- The functions of the seat's program in the short form: made by program, and compared with the program's text by the kernel. -/
import Derived.Test.YtdominegknnbhaaSxc
import Derived.Test.YtdominegknnbhaaProg
namespace Go.Proofs.Ytdominegknnbhaa.Sx
open Go.RowKit
set_option linter.unusedVariables false
set_option maxRecDepth 100000

def c_law08_AcctParses : SCode :=
  .seq (.reg [⟨some 2, .mv (.c (.b false)), none⟩])
  (.seq (.seq (.reg [⟨some 7, .call 11 [], none⟩,
    ⟨some 8, .not (.t 7), none⟩])
  (.cond (.t 8)
   (.seq (.reg [⟨some 2, .mv (.c (.b false)), none⟩])
   (.ret))
   (.skip)))
  (.seq (.seq (.reg [⟨some 9, .mv (.t 0), none⟩,
    ⟨some 10, .lens (.t 9), none⟩,
    ⟨some 11, .bin .gtr (.t 10) (.c (.i .i64 3000)), none⟩,
    ⟨some 12, .mv (.t 11), none⟩,
    ⟨some 13, .mv (.t 0), some (12, true)⟩,
    ⟨some 14, .lens (.t 13), some (12, true)⟩,
    ⟨some 15, .bin .leq (.t 14) (.c (.i .i64 4096)), some (12, true)⟩,
    ⟨some 16, .pick (.t 12) (.t 15) (.c (.b false)), none⟩])
  (.cond (.t 16)
   (.seq (.reg [⟨some 2, .mv (.c (.b true)), none⟩])
   (.ret))
   (.skip)))
  (.seq (.reg [⟨some 18, .mv (.t 0), none⟩,
    ⟨some 19, .call 12 [.t 18], none⟩,
    ⟨some 17, .mv (.t 19), none⟩,
    ⟨some 20, .ext (.t 17) 0, none⟩,
    ⟨some 21, .ext (.t 17) 1, none⟩,
    ⟨some 3, .alloc 24 [.s [], .s []], none⟩,
    ⟨none, .store 2 (.t 3) (.t 20), none⟩,
    ⟨some 4, .mv (.t 21), none⟩])
  (.seq (.reg [⟨some 23, .mv (.t 0), none⟩,
    ⟨some 24, .call 13 [.t 23], none⟩,
    ⟨some 22, .mv (.t 24), none⟩,
    ⟨some 25, .ext (.t 22) 0, none⟩,
    ⟨some 26, .ext (.t 22) 1, none⟩,
    ⟨some 5, .alloc 24 [.s [], .s []], none⟩,
    ⟨none, .store 2 (.t 5) (.t 25), none⟩,
    ⟨some 6, .mv (.t 26), none⟩])
  (.seq (.reg [⟨some 27, .loadn 2 (.t 3), none⟩,
    ⟨some 28, .loadn 2 (.t 5), none⟩,
    ⟨some 29, .eqs false (.str [(0, (none, .ts)), (1, (none, .ts))]) (.t 27) (.t 28), none⟩,
    ⟨some 30, .mv (.t 29), none⟩,
    ⟨some 31, .mv (.t 4), some (30, true)⟩,
    ⟨some 32, .mv (.t 6), some (30, true)⟩,
    ⟨some 33, .bin .eql (.t 31) (.t 32), some (30, true)⟩,
    ⟨some 34, .pick (.t 30) (.t 33) (.c (.b false)), none⟩,
    ⟨some 2, .mv (.t 34), none⟩])
  (.ret))))))
theorem is_law08_AcctParses : FnIs Try.prog 3 35 [.tmp 2] c_law08_AcctParses := ⟨⟨_, _, Try.func3, rfl, rfl, by kernel_rfl, by kernel_rfl⟩⟩
def c_law08_AcctBack : SCode :=
  .seq (.reg [⟨some 3, .box 24 (.t 1), none⟩,
    ⟨some 4, .mv (.c (.b false)), none⟩])
  (.seq (.seq (.reg [⟨some 9, .call 11 [], none⟩,
    ⟨some 10, .not (.t 9), none⟩])
  (.cond (.t 10)
   (.seq (.reg [⟨some 4, .mv (.c (.b false)), none⟩])
   (.ret))
   (.skip)))
  (.seq (.seq (.reg [⟨some 11, .mv (.t 0), none⟩,
    ⟨some 12, .lens (.t 11), none⟩,
    ⟨some 13, .bin .gtr (.t 12) (.c (.i .i64 1000)), none⟩])
  (.cond (.t 13)
   (.seq (.reg [⟨some 4, .mv (.c (.b true)), none⟩])
   (.ret))
   (.skip)))
  (.seq (.seq (.drw [⟨some 14, .loadn 2 (.t 3), none⟩,
    ⟨some 15, .call 14 [.t 14], none⟩,
    ⟨some 16, .loadn 2 (.t 3), none⟩,
    ⟨some 17, .call 15 [.t 16], none⟩,
    ⟨some 18, .bin .neq (.t 15) (.t 17), none⟩] 5)
  (.cond (.t 18)
   (.seq (.reg [⟨some 4, .mv (.c (.b false)), none⟩])
   (.ret))
   (.skip)))
  (.seq (.reg [⟨some 20, .mv (.t 0), none⟩,
    ⟨some 21, .call 12 [.t 20], none⟩,
    ⟨some 19, .mv (.t 21), none⟩,
    ⟨some 22, .ext (.t 19) 0, none⟩,
    ⟨some 23, .ext (.t 19) 1, none⟩,
    ⟨some 5, .alloc 24 [.s [], .s []], none⟩,
    ⟨none, .store 2 (.t 5) (.t 22), none⟩,
    ⟨some 6, .mv (.t 23), none⟩])
  (.seq (.seq (.reg [⟨some 24, .mv (.t 6), none⟩,
    ⟨some 25, .bin .neq (.t 24) (.c (.i .i64 0)), none⟩])
  (.cond (.t 25)
   (.seq (.reg [⟨some 26, .loadn 2 (.t 5), none⟩,
     ⟨some 27, .build [.s [], .s []] [], none⟩,
     ⟨some 28, .eqs false (.str [(0, (none, .ts)), (1, (none, .ts))]) (.t 26) (.t 27), none⟩,
     ⟨some 4, .mv (.t 28), none⟩])
   (.ret))
   (.skip)))
  (.seq (.reg [⟨some 30, .loadn 2 (.t 5), none⟩,
    ⟨some 31, .call 14 [.t 30], none⟩,
    ⟨some 32, .call 12 [.t 31], none⟩,
    ⟨some 29, .mv (.t 32), none⟩,
    ⟨some 33, .ext (.t 29) 0, none⟩,
    ⟨some 34, .ext (.t 29) 1, none⟩,
    ⟨some 7, .alloc 24 [.s [], .s []], none⟩,
    ⟨none, .store 2 (.t 7) (.t 33), none⟩,
    ⟨some 8, .mv (.t 34), none⟩])
  (.seq (.reg [⟨some 35, .mv (.t 8), none⟩,
    ⟨some 36, .bin .eql (.t 35) (.c (.i .i64 0)), none⟩,
    ⟨some 37, .mv (.t 36), none⟩,
    ⟨some 38, .loadn 2 (.t 7), some (37, true)⟩,
    ⟨some 39, .loadn 2 (.t 5), some (37, true)⟩,
    ⟨some 40, .eqs false (.str [(0, (none, .ts)), (1, (none, .ts))]) (.t 38) (.t 39), some (37, true)⟩,
    ⟨some 41, .pick (.t 37) (.t 40) (.c (.b false)), none⟩,
    ⟨some 42, .mv (.t 41), none⟩,
    ⟨some 43, .loadn 2 (.t 5), some (42, true)⟩,
    ⟨some 44, .call 14 [.t 43], some (42, true)⟩,
    ⟨some 45, .lens (.t 44), some (42, true)⟩,
    ⟨some 46, .mv (.t 0), some (42, true)⟩,
    ⟨some 47, .lens (.t 46), some (42, true)⟩,
    ⟨some 48, .bin .leq (.t 45) (.t 47), some (42, true)⟩,
    ⟨some 49, .pick (.t 42) (.t 48) (.c (.b false)), none⟩,
    ⟨some 4, .mv (.t 49), none⟩])
  (.ret))))))))
theorem is_law08_AcctBack : FnIs Try.prog 4 50 [.tmp 4] c_law08_AcctBack := ⟨⟨_, _, Try.func4, rfl, rfl, by kernel_rfl, by kernel_rfl⟩⟩
def c_law09_MailParses : SCode :=
  .seq (.reg [⟨some 2, .mv (.c (.b false)), none⟩])
  (.seq (.seq (.reg [⟨some 7, .call 16 [], none⟩,
    ⟨some 8, .not (.t 7), none⟩])
  (.cond (.t 8)
   (.seq (.reg [⟨some 2, .mv (.c (.b false)), none⟩])
   (.ret))
   (.skip)))
  (.seq (.seq (.reg [⟨some 9, .mv (.t 0), none⟩,
    ⟨some 10, .lens (.t 9), none⟩,
    ⟨some 11, .bin .gtr (.t 10) (.c (.i .i64 3000)), none⟩,
    ⟨some 12, .mv (.t 11), none⟩,
    ⟨some 13, .mv (.t 0), some (12, true)⟩,
    ⟨some 14, .lens (.t 13), some (12, true)⟩,
    ⟨some 15, .bin .leq (.t 14) (.c (.i .i64 4096)), some (12, true)⟩,
    ⟨some 16, .pick (.t 12) (.t 15) (.c (.b false)), none⟩])
  (.cond (.t 16)
   (.seq (.reg [⟨some 2, .mv (.c (.b true)), none⟩])
   (.ret))
   (.skip)))
  (.seq (.reg [⟨some 18, .mv (.t 0), none⟩,
    ⟨some 19, .call 17 [.t 18], none⟩,
    ⟨some 17, .mv (.t 19), none⟩,
    ⟨some 20, .ext (.t 17) 0, none⟩,
    ⟨some 21, .ext (.t 17) 1, none⟩,
    ⟨some 3, .alloc 32 [.s [], .s []], none⟩,
    ⟨none, .store 2 (.t 3) (.t 20), none⟩,
    ⟨some 4, .mv (.t 21), none⟩])
  (.seq (.reg [⟨some 23, .mv (.t 0), none⟩,
    ⟨some 24, .call 18 [.t 23], none⟩,
    ⟨some 22, .mv (.t 24), none⟩,
    ⟨some 25, .ext (.t 22) 0, none⟩,
    ⟨some 26, .ext (.t 22) 1, none⟩,
    ⟨some 5, .alloc 32 [.s [], .s []], none⟩,
    ⟨none, .store 2 (.t 5) (.t 25), none⟩,
    ⟨some 6, .mv (.t 26), none⟩])
  (.seq (.reg [⟨some 27, .loadn 2 (.t 3), none⟩,
    ⟨some 28, .loadn 2 (.t 5), none⟩,
    ⟨some 29, .eqs false (.str [(0, (none, .ts)), (1, (none, .ts))]) (.t 27) (.t 28), none⟩,
    ⟨some 30, .mv (.t 29), none⟩,
    ⟨some 31, .mv (.t 4), some (30, true)⟩,
    ⟨some 32, .mv (.t 6), some (30, true)⟩,
    ⟨some 33, .bin .eql (.t 31) (.t 32), some (30, true)⟩,
    ⟨some 34, .pick (.t 30) (.t 33) (.c (.b false)), none⟩,
    ⟨some 2, .mv (.t 34), none⟩])
  (.ret))))))
theorem is_law09_MailParses : FnIs Try.prog 5 35 [.tmp 2] c_law09_MailParses := ⟨⟨_, _, Try.func5, rfl, rfl, by kernel_rfl, by kernel_rfl⟩⟩
def c_law09_MailLocals : SCode :=
  .seq (.reg [⟨some 3, .box 32 (.t 1), none⟩,
    ⟨some 4, .mv (.c (.b false)), none⟩])
  (.seq (.seq (.reg [⟨some 5, .call 16 [], none⟩,
    ⟨some 6, .not (.t 5), none⟩])
  (.cond (.t 6)
   (.seq (.reg [⟨some 4, .mv (.c (.b false)), none⟩])
   (.ret))
   (.skip)))
  (.seq (.drw [⟨some 7, .mv (.t 0), none⟩,
    ⟨some 8, .lens (.t 7), none⟩,
    ⟨some 9, .bin .gtr (.t 8) (.c (.i .i64 1000)), none⟩,
    ⟨some 10, .mv (.t 9), none⟩,
    ⟨some 11, .fad 0 (.t 3), some (10, false)⟩,
    ⟨some 12, .load1 (.t 11), some (10, false)⟩,
    ⟨some 13, .lens (.t 12), some (10, false)⟩,
    ⟨some 14, .bin .gtr (.t 13) (.c (.i .i64 1000)), some (10, false)⟩,
    ⟨some 15, .pick (.t 10) (.c (.b true)) (.t 14), none⟩,
    ⟨some 16, .mv (.t 15), none⟩,
    ⟨some 17, .mv (.t 0), some (16, false)⟩,
    ⟨some 18, .call 19 [.t 17], some (16, false)⟩,
    ⟨some 19, .mv (.t 0), some (16, false)⟩,
    ⟨some 20, .call 20 [.t 19], some (16, false)⟩,
    ⟨some 21, .beq false (.t 18) (.t 20), some (16, false)⟩,
    ⟨some 22, .mv (.t 21), some (16, false)⟩,
    ⟨some 23, .loadn 2 (.t 3), some (22, true)⟩,
    ⟨some 24, .call 21 [.t 23], some (22, true)⟩,
    ⟨some 25, .loadn 2 (.t 3), some (22, true)⟩,
    ⟨some 26, .call 22 [.t 25], some (22, true)⟩,
    ⟨some 27, .bin .eql (.t 24) (.t 26), some (22, true)⟩,
    ⟨some 28, .pick (.t 22) (.t 27) (.c (.b false)), some (16, false)⟩,
    ⟨some 29, .pick (.t 16) (.c (.b true)) (.t 28), none⟩,
    ⟨some 4, .mv (.t 29), none⟩] 24)
  (.ret)))
theorem is_law09_MailLocals : FnIs Try.prog 6 30 [.tmp 4] c_law09_MailLocals := ⟨⟨_, _, Try.func6, rfl, rfl, by kernel_rfl, by kernel_rfl⟩⟩
def c_law09_MailBack : SCode :=
  .seq (.reg [⟨some 4, .mv (.c (.b false)), none⟩])
  (.seq (.seq (.reg [⟨some 12, .call 16 [], none⟩,
    ⟨some 13, .not (.t 12), none⟩])
  (.cond (.t 13)
   (.seq (.reg [⟨some 4, .mv (.c (.b false)), none⟩])
   (.ret))
   (.skip)))
  (.seq (.seq (.reg [⟨some 14, .mv (.t 0), none⟩,
    ⟨some 15, .lens (.t 14), none⟩,
    ⟨some 16, .bin .gtr (.t 15) (.c (.i .i64 1000)), none⟩,
    ⟨some 17, .mv (.t 16), none⟩,
    ⟨some 18, .mv (.t 1), some (17, false)⟩,
    ⟨some 19, .lens (.t 18), some (17, false)⟩,
    ⟨some 20, .bin .gtr (.t 19) (.c (.i .i64 100)), some (17, false)⟩,
    ⟨some 21, .pick (.t 17) (.c (.b true)) (.t 20), none⟩])
  (.cond (.t 21)
   (.seq (.reg [⟨some 4, .mv (.c (.b true)), none⟩])
   (.ret))
   (.skip)))
  (.seq (.seq (.reg [⟨some 22, .mv (.t 1), none⟩,
    ⟨some 23, .call 19 [.t 22], none⟩])
  (.cond (.t 23)
   (.seq (.reg [⟨some 24, .mv (.t 1), none⟩,
     ⟨some 25, .build [.s [], .s []] [(0, (1, .t 24)), (1, (1, .c (.s [97, 46, 101, 120, 97, 109, 112, 108, 101])))], none⟩,
     ⟨some 5, .alloc 32 [.s [], .s []], none⟩,
     ⟨none, .store 2 (.t 5) (.t 25), none⟩])
   (.seq (.reg [⟨some 27, .loadn 2 (.t 5), none⟩,
     ⟨some 28, .call 21 [.t 27], none⟩,
     ⟨some 29, .call 17 [.t 28], none⟩,
     ⟨some 26, .mv (.t 29), none⟩,
     ⟨some 30, .ext (.t 26) 0, none⟩,
     ⟨some 31, .ext (.t 26) 1, none⟩,
     ⟨some 6, .alloc 32 [.s [], .s []], none⟩,
     ⟨none, .store 2 (.t 6) (.t 30), none⟩,
     ⟨some 7, .mv (.t 31), none⟩])
   (.seq (.reg [⟨some 32, .mv (.t 7), none⟩,
     ⟨some 33, .bin .neq (.t 32) (.c (.i .i64 0)), none⟩,
     ⟨some 34, .mv (.t 33), none⟩,
     ⟨some 35, .loadn 2 (.t 6), some (34, false)⟩,
     ⟨some 36, .loadn 2 (.t 5), some (34, false)⟩,
     ⟨some 37, .eqs true (.str [(0, (none, .ts)), (1, (none, .ts))]) (.t 35) (.t 36), some (34, false)⟩,
     ⟨some 38, .pick (.t 34) (.c (.b true)) (.t 37), none⟩])
   (.cond (.t 38)
    (.seq (.reg [⟨some 4, .mv (.c (.b false)), none⟩])
    (.ret))
    (.skip)))))
   (.skip)))
  (.seq (.reg [⟨some 40, .mv (.t 0), none⟩,
    ⟨some 41, .call 17 [.t 40], none⟩,
    ⟨some 39, .mv (.t 41), none⟩,
    ⟨some 42, .ext (.t 39) 0, none⟩,
    ⟨some 43, .ext (.t 39) 1, none⟩,
    ⟨some 8, .alloc 32 [.s [], .s []], none⟩,
    ⟨none, .store 2 (.t 8) (.t 42), none⟩,
    ⟨some 9, .mv (.t 43), none⟩])
  (.seq (.seq (.reg [⟨some 44, .mv (.t 9), none⟩,
    ⟨some 45, .bin .neq (.t 44) (.c (.i .i64 0)), none⟩])
  (.cond (.t 45)
   (.seq (.reg [⟨some 46, .loadn 2 (.t 8), none⟩,
     ⟨some 47, .build [.s [], .s []] [], none⟩,
     ⟨some 48, .eqs false (.str [(0, (none, .ts)), (1, (none, .ts))]) (.t 46) (.t 47), none⟩,
     ⟨some 4, .mv (.t 48), none⟩])
   (.ret))
   (.skip)))
  (.seq (.reg [⟨some 50, .loadn 2 (.t 8), none⟩,
    ⟨some 51, .call 21 [.t 50], none⟩,
    ⟨some 52, .call 17 [.t 51], none⟩,
    ⟨some 49, .mv (.t 52), none⟩,
    ⟨some 53, .ext (.t 49) 0, none⟩,
    ⟨some 54, .ext (.t 49) 1, none⟩,
    ⟨some 10, .alloc 32 [.s [], .s []], none⟩,
    ⟨none, .store 2 (.t 10) (.t 53), none⟩,
    ⟨some 11, .mv (.t 54), none⟩])
  (.seq (.reg [⟨some 55, .mv (.t 11), none⟩,
    ⟨some 56, .bin .eql (.t 55) (.c (.i .i64 0)), none⟩,
    ⟨some 57, .mv (.t 56), none⟩,
    ⟨some 58, .loadn 2 (.t 10), some (57, true)⟩,
    ⟨some 59, .loadn 2 (.t 8), some (57, true)⟩,
    ⟨some 60, .eqs false (.str [(0, (none, .ts)), (1, (none, .ts))]) (.t 58) (.t 59), some (57, true)⟩,
    ⟨some 61, .pick (.t 57) (.t 60) (.c (.b false)), none⟩,
    ⟨some 62, .mv (.t 61), none⟩,
    ⟨some 63, .fad 0 (.t 8), some (62, true)⟩,
    ⟨some 64, .load1 (.t 63), some (62, true)⟩,
    ⟨some 65, .call 19 [.t 64], some (62, true)⟩,
    ⟨some 66, .pick (.t 62) (.t 65) (.c (.b false)), none⟩,
    ⟨some 4, .mv (.t 66), none⟩])
  (.ret))))))))
theorem is_law09_MailBack : FnIs Try.prog 7 67 [.tmp 4] c_law09_MailBack := ⟨⟨_, _, Try.func7, rfl, rfl, by kernel_rfl, by kernel_rfl⟩⟩
def c_law23_TemplateExpands : SCode :=
  .seq (.reg [⟨some 4, .mv (.c (.b false)), none⟩])
  (.seq (.seq (.reg [⟨some 9, .call 23 [], none⟩,
    ⟨some 10, .not (.t 9), none⟩])
  (.cond (.t 10)
   (.seq (.reg [⟨some 4, .mv (.c (.b false)), none⟩])
   (.ret))
   (.skip)))
  (.seq (.seq (.reg [⟨some 11, .mv (.t 0), none⟩,
    ⟨some 12, .lens (.t 11), none⟩,
    ⟨some 13, .bin .gtr (.t 12) (.c (.i .i64 500)), none⟩,
    ⟨some 14, .mv (.t 13), none⟩,
    ⟨some 15, .mv (.t 0), some (14, true)⟩,
    ⟨some 16, .lens (.t 15), some (14, true)⟩,
    ⟨some 17, .bin .leq (.t 16) (.c (.i .i64 4096)), some (14, true)⟩,
    ⟨some 18, .pick (.t 14) (.t 17) (.c (.b false)), none⟩,
    ⟨some 19, .mv (.t 18), none⟩,
    ⟨some 20, .mv (.t 1), some (19, false)⟩,
    ⟨some 21, .lens (.t 20), some (19, false)⟩,
    ⟨some 22, .bin .gtr (.t 21) (.c (.i .i64 1500)), some (19, false)⟩,
    ⟨some 23, .pick (.t 19) (.c (.b true)) (.t 22), none⟩])
  (.cond (.t 23)
   (.seq (.reg [⟨some 4, .mv (.c (.b true)), none⟩])
   (.ret))
   (.skip)))
  (.seq (.reg [⟨some 25, .mv (.t 0), none⟩,
    ⟨some 26, .mv (.t 1), none⟩,
    ⟨some 27, .call 24 [.t 25, .t 26], none⟩,
    ⟨some 24, .mv (.t 27), none⟩,
    ⟨some 28, .ext (.t 24) 0, none⟩,
    ⟨some 29, .ext (.t 24) 1, none⟩,
    ⟨some 5, .mv (.t 28), none⟩,
    ⟨some 6, .mv (.t 29), none⟩])
  (.seq (.reg [⟨some 31, .mv (.t 0), none⟩,
    ⟨some 32, .mv (.t 1), none⟩,
    ⟨some 33, .call 25 [.t 31, .t 32], none⟩,
    ⟨some 30, .mv (.t 33), none⟩,
    ⟨some 34, .ext (.t 30) 0, none⟩,
    ⟨some 35, .ext (.t 30) 1, none⟩,
    ⟨some 7, .mv (.t 34), none⟩,
    ⟨some 8, .mv (.t 35), none⟩])
  (.seq (.reg [⟨some 36, .mv (.t 0), none⟩,
    ⟨some 37, .call 26 [.t 36], none⟩,
    ⟨some 38, .mv (.t 0), none⟩,
    ⟨some 39, .call 27 [.t 38], none⟩,
    ⟨some 40, .beq false (.t 37) (.t 39), none⟩,
    ⟨some 41, .mv (.t 40), none⟩,
    ⟨some 42, .mv (.t 5), some (41, true)⟩,
    ⟨some 43, .mv (.t 7), some (41, true)⟩,
    ⟨some 44, .bin .eql (.t 42) (.t 43), some (41, true)⟩,
    ⟨some 45, .pick (.t 41) (.t 44) (.c (.b false)), none⟩,
    ⟨some 46, .mv (.t 45), none⟩,
    ⟨some 47, .mv (.t 6), some (46, true)⟩,
    ⟨some 48, .mv (.t 8), some (46, true)⟩,
    ⟨some 49, .bin .eql (.t 47) (.t 48), some (46, true)⟩,
    ⟨some 50, .pick (.t 46) (.t 49) (.c (.b false)), none⟩,
    ⟨some 4, .mv (.t 50), none⟩])
  (.ret))))))
theorem is_law23_TemplateExpands : FnIs Try.prog 8 51 [.tmp 4] c_law23_TemplateExpands := ⟨⟨_, _, Try.func8, rfl, rfl, by kernel_rfl, by kernel_rfl⟩⟩
def c_law23_TemplateKeeps : SCode :=
  .seq (.reg [⟨some 6, .mv (.c (.b false)), none⟩])
  (.seq (.seq (.reg [⟨some 11, .call 23 [], none⟩,
    ⟨some 12, .not (.t 11), none⟩])
  (.cond (.t 12)
   (.seq (.reg [⟨some 6, .mv (.c (.b false)), none⟩])
   (.ret))
   (.skip)))
  (.seq (.seq (.reg [⟨some 13, .mv (.t 0), none⟩,
    ⟨some 14, .lens (.t 13), none⟩,
    ⟨some 15, .bin .gtr (.t 14) (.c (.i .i64 200)), none⟩,
    ⟨some 16, .mv (.t 15), none⟩,
    ⟨some 17, .mv (.t 1), some (16, false)⟩,
    ⟨some 18, .lens (.t 17), some (16, false)⟩,
    ⟨some 19, .bin .gtr (.t 18) (.c (.i .i64 200)), some (16, false)⟩,
    ⟨some 20, .pick (.t 16) (.c (.b true)) (.t 19), none⟩,
    ⟨some 21, .mv (.t 20), none⟩,
    ⟨some 22, .mv (.t 2), some (21, false)⟩,
    ⟨some 23, .lens (.t 22), some (21, false)⟩,
    ⟨some 24, .bin .gtr (.t 23) (.c (.i .i64 500)), some (21, false)⟩,
    ⟨some 25, .pick (.t 21) (.c (.b true)) (.t 24), none⟩,
    ⟨some 26, .mv (.t 25), none⟩,
    ⟨some 27, .mv (.t 0), some (26, false)⟩,
    ⟨some 28, .mv (.t 1), some (26, false)⟩,
    ⟨some 29, .bin .add (.t 27) (.t 28), some (26, false)⟩,
    ⟨some 30, .call 28 [.t 29, .c (.s [123, 125])], some (26, false)⟩,
    ⟨some 31, .mv (.t 0), some (26, false)⟩,
    ⟨some 32, .mv (.t 1), some (26, false)⟩,
    ⟨some 33, .bin .add (.t 31) (.t 32), some (26, false)⟩,
    ⟨some 34, .lens (.t 33), some (26, false)⟩,
    ⟨some 35, .bin .lss (.t 30) (.t 34), some (26, false)⟩,
    ⟨some 36, .pick (.t 26) (.c (.b true)) (.t 35), none⟩])
  (.cond (.t 36)
   (.seq (.reg [⟨some 6, .mv (.c (.b true)), none⟩])
   (.ret))
   (.skip)))
  (.seq (.reg [⟨some 38, .mv (.t 0), none⟩,
    ⟨some 39, .bin .add (.t 38) (.c (.s [123, 117, 114, 105, 125])), none⟩,
    ⟨some 40, .mv (.t 1), none⟩,
    ⟨some 41, .bin .add (.t 39) (.t 40), none⟩,
    ⟨some 42, .mv (.t 2), none⟩,
    ⟨some 43, .call 24 [.t 41, .t 42], none⟩,
    ⟨some 37, .mv (.t 43), none⟩,
    ⟨some 44, .ext (.t 37) 0, none⟩,
    ⟨some 45, .ext (.t 37) 1, none⟩,
    ⟨some 7, .mv (.t 44), none⟩,
    ⟨some 8, .mv (.t 45), none⟩])
  (.seq (.seq (.reg [⟨some 46, .mv (.t 8), none⟩,
    ⟨some 47, .bin .neq (.t 46) (.c (.i .i64 0)), none⟩,
    ⟨some 48, .mv (.t 47), none⟩,
    ⟨some 49, .mv (.t 7), some (48, false)⟩,
    ⟨some 50, .lens (.t 49), some (48, false)⟩,
    ⟨some 51, .mv (.t 0), some (48, false)⟩,
    ⟨some 52, .lens (.t 51), some (48, false)⟩,
    ⟨some 53, .mv (.t 1), some (48, false)⟩,
    ⟨some 54, .lens (.t 53), some (48, false)⟩,
    ⟨some 55, .bin .add (.t 52) (.t 54), some (48, false)⟩,
    ⟨some 56, .bin .lss (.t 50) (.t 55), some (48, false)⟩,
    ⟨some 57, .pick (.t 48) (.c (.b true)) (.t 56), none⟩,
    ⟨some 58, .mv (.t 57), none⟩,
    ⟨some 59, .mv (.t 7), some (58, false)⟩,
    ⟨some 60, .mv (.t 0), some (58, false)⟩,
    ⟨some 61, .lens (.t 60), some (58, false)⟩,
    ⟨some 62, .slcs (.t 59) none (some (.t 61)), some (58, false)⟩,
    ⟨some 63, .mv (.t 0), some (58, false)⟩,
    ⟨some 64, .bin .neq (.t 62) (.t 63), some (58, false)⟩,
    ⟨some 65, .pick (.t 58) (.c (.b true)) (.t 64), none⟩,
    ⟨some 66, .mv (.t 65), none⟩,
    ⟨some 67, .mv (.t 7), some (66, false)⟩,
    ⟨some 68, .mv (.t 7), some (66, false)⟩,
    ⟨some 69, .lens (.t 68), some (66, false)⟩,
    ⟨some 70, .mv (.t 1), some (66, false)⟩,
    ⟨some 71, .lens (.t 70), some (66, false)⟩,
    ⟨some 72, .bin .sub (.t 69) (.t 71), some (66, false)⟩,
    ⟨some 73, .slcs (.t 67) (some (.t 72)) none, some (66, false)⟩,
    ⟨some 74, .mv (.t 1), some (66, false)⟩,
    ⟨some 75, .bin .neq (.t 73) (.t 74), some (66, false)⟩,
    ⟨some 76, .pick (.t 66) (.c (.b true)) (.t 75), none⟩])
  (.cond (.t 76)
   (.seq (.reg [⟨some 6, .mv (.c (.b false)), none⟩])
   (.ret))
   (.skip)))
  (.seq (.reg [⟨some 78, .mv (.t 7), none⟩,
    ⟨some 79, .mv (.t 0), none⟩,
    ⟨some 80, .lens (.t 79), none⟩,
    ⟨some 81, .mv (.t 7), none⟩,
    ⟨some 82, .lens (.t 81), none⟩,
    ⟨some 83, .mv (.t 1), none⟩,
    ⟨some 84, .lens (.t 83), none⟩,
    ⟨some 85, .bin .sub (.t 82) (.t 84), none⟩,
    ⟨some 86, .slcs (.t 78) (some (.t 80)) (some (.t 85)), none⟩,
    ⟨some 87, .call 29 [.t 86], none⟩,
    ⟨some 77, .mv (.t 87), none⟩,
    ⟨some 88, .ext (.t 77) 0, none⟩,
    ⟨some 89, .ext (.t 77) 1, none⟩,
    ⟨some 9, .mv (.t 88), none⟩,
    ⟨some 10, .mv (.t 89), none⟩])
  (.seq (.reg [⟨some 90, .mv (.t 10), none⟩,
    ⟨some 91, .bin .eql (.t 90) (.c (.i .i64 0)), none⟩,
    ⟨some 92, .mv (.t 91), none⟩,
    ⟨some 93, .mv (.t 9), some (92, true)⟩,
    ⟨some 94, .mv (.t 2), some (92, true)⟩,
    ⟨some 95, .bin .eql (.t 93) (.t 94), some (92, true)⟩,
    ⟨some 96, .pick (.t 92) (.t 95) (.c (.b false)), none⟩,
    ⟨some 6, .mv (.t 96), none⟩])
  (.ret)))))))
theorem is_law23_TemplateKeeps : FnIs Try.prog 9 97 [.tmp 6] c_law23_TemplateKeeps := ⟨⟨_, _, Try.func9, rfl, rfl, by kernel_rfl, by kernel_rfl⟩⟩
def c_law23_TemplateSafe : SCode :=
  .seq (.reg [⟨some 2, .mv (.c (.b false)), none⟩])
  (.seq (.seq (.reg [⟨some 5, .call 23 [], none⟩,
    ⟨some 6, .not (.t 5), none⟩])
  (.cond (.t 6)
   (.seq (.reg [⟨some 2, .mv (.c (.b false)), none⟩])
   (.ret))
   (.skip)))
  (.seq (.seq (.reg [⟨some 7, .mv (.t 0), none⟩,
    ⟨some 8, .lens (.t 7), none⟩,
    ⟨some 9, .bin .gtr (.t 8) (.c (.i .i64 500)), none⟩])
  (.cond (.t 9)
   (.seq (.reg [⟨some 2, .mv (.c (.b true)), none⟩])
   (.ret))
   (.skip)))
  (.seq (.reg [⟨some 11, .mv (.t 0), none⟩,
    ⟨some 12, .call 24 [.c (.s [123, 117, 114, 105, 125]), .t 11], none⟩,
    ⟨some 10, .mv (.t 12), none⟩,
    ⟨some 13, .ext (.t 10) 0, none⟩,
    ⟨some 14, .ext (.t 10) 1, none⟩,
    ⟨some 3, .mv (.t 13), none⟩,
    ⟨some 4, .mv (.t 14), none⟩])
  (.seq (.reg [⟨some 15, .mv (.t 4), none⟩,
    ⟨some 16, .bin .eql (.t 15) (.c (.i .i64 0)), none⟩,
    ⟨some 17, .mv (.t 16), none⟩,
    ⟨some 18, .mv (.t 3), some (17, true)⟩,
    ⟨some 19, .call 28 [.t 18, .c (.s [47, 63, 35, 38, 61, 58, 64, 123, 125, 91, 93, 32, 43])], some (17, true)⟩,
    ⟨some 20, .mv (.t 3), some (17, true)⟩,
    ⟨some 21, .lens (.t 20), some (17, true)⟩,
    ⟨some 22, .bin .eql (.t 19) (.t 21), some (17, true)⟩,
    ⟨some 23, .pick (.t 17) (.t 22) (.c (.b false)), none⟩,
    ⟨some 2, .mv (.t 23), none⟩])
  (.ret)))))
theorem is_law23_TemplateSafe : FnIs Try.prog 10 24 [.tmp 2] c_law23_TemplateSafe := ⟨⟨_, _, Try.func10, rfl, rfl, by kernel_rfl, by kernel_rfl⟩⟩
def c_law08_sane : SCode :=
  .seq (.reg [⟨some 0, .mv (.c (.b false)), none⟩])
  (.seq (.reg [⟨some 4, .call 12 [.c (.s [65, 67, 67, 84, 58, 74, 117, 108, 105, 101, 116, 37, 52, 48, 99, 97, 112, 117, 108, 101, 116, 46, 101, 120, 97, 109, 112, 108, 101, 64, 83, 104, 111, 112, 112, 105, 110, 103, 46, 101, 120, 97, 109, 112, 108, 101])], none⟩,
    ⟨some 3, .mv (.t 4), none⟩,
    ⟨some 5, .ext (.t 3) 0, none⟩,
    ⟨some 6, .ext (.t 3) 1, none⟩,
    ⟨some 1, .alloc 24 [.s [], .s []], none⟩,
    ⟨none, .store 2 (.t 1) (.t 5), none⟩,
    ⟨some 2, .mv (.t 6), none⟩])
  (.seq (.reg [⟨some 7, .mv (.t 2), none⟩,
    ⟨some 8, .bin .eql (.t 7) (.c (.i .i64 0)), none⟩,
    ⟨some 9, .mv (.t 8), none⟩,
    ⟨some 10, .fad 0 (.t 1), some (9, true)⟩,
    ⟨some 11, .load1 (.t 10), some (9, true)⟩,
    ⟨some 12, .bin .eql (.t 11) (.c (.s [74, 117, 108, 105, 101, 116, 37, 52, 48, 99, 97, 112, 117, 108, 101, 116, 46, 101, 120, 97, 109, 112, 108, 101])), some (9, true)⟩,
    ⟨some 13, .pick (.t 9) (.t 12) (.c (.b false)), none⟩,
    ⟨some 14, .mv (.t 13), none⟩,
    ⟨some 15, .fad 1 (.t 1), some (14, true)⟩,
    ⟨some 16, .load1 (.t 15), some (14, true)⟩,
    ⟨some 17, .bin .eql (.t 16) (.c (.s [115, 104, 111, 112, 112, 105, 110, 103, 46, 101, 120, 97, 109, 112, 108, 101])), some (14, true)⟩,
    ⟨some 18, .pick (.t 14) (.t 17) (.c (.b false)), none⟩,
    ⟨some 19, .mv (.t 18), none⟩,
    ⟨some 20, .loadn 2 (.t 1), some (19, true)⟩,
    ⟨some 21, .call 14 [.t 20], some (19, true)⟩,
    ⟨some 22, .bin .eql (.t 21) (.c (.s [97, 99, 99, 116, 58, 74, 117, 108, 105, 101, 116, 37, 52, 48, 99, 97, 112, 117, 108, 101, 116, 46, 101, 120, 97, 109, 112, 108, 101, 64, 115, 104, 111, 112, 112, 105, 110, 103, 46, 101, 120, 97, 109, 112, 108, 101])), some (19, true)⟩,
    ⟨some 23, .pick (.t 19) (.t 22) (.c (.b false)), none⟩,
    ⟨some 0, .mv (.t 23), none⟩])
  (.ret)))
theorem is_law08_sane : FnIs Try.prog 11 24 [.tmp 0] c_law08_sane := ⟨⟨_, _, Try.func11, rfl, rfl, by kernel_rfl, by kernel_rfl⟩⟩
def c_acct_Parse : SCode :=
  .seq (.reg [⟨some 2, .alloc 24 [.s [], .s []], none⟩,
    ⟨some 3, .mv (.c (.i .i64 0)), none⟩])
  (.seq (.seq (.reg [⟨some 8, .mv (.t 0), none⟩,
    ⟨some 9, .lens (.t 8), none⟩,
    ⟨some 10, .bin .gtr (.t 9) (.c (.i .i64 4096)), none⟩])
  (.cond (.t 10)
   (.seq (.reg [⟨some 11, .build [.s [], .s []] [], none⟩,
     ⟨none, .store 2 (.t 2) (.t 11), none⟩,
     ⟨some 3, .mv (.c (.i .i64 5)), none⟩])
   (.ret))
   (.skip)))
  (.seq (.seq (.reg [⟨some 12, .mv (.t 0), none⟩,
    ⟨some 13, .lens (.t 12), none⟩,
    ⟨some 14, .bin .lss (.t 13) (.c (.i .i64 5)), none⟩,
    ⟨some 15, .mv (.t 14), none⟩,
    ⟨some 16, .mv (.t 0), some (15, false)⟩,
    ⟨some 17, .slcs (.t 16) none (some (.c (.i .i64 5))), some (15, false)⟩,
    ⟨some 18, .call 30 [.t 17, .c (.s [97, 99, 99, 116, 58])], some (15, false)⟩,
    ⟨some 19, .not (.t 18), some (15, false)⟩,
    ⟨some 20, .pick (.t 15) (.c (.b true)) (.t 19), none⟩])
  (.cond (.t 20)
   (.seq (.reg [⟨some 21, .build [.s [], .s []] [], none⟩,
     ⟨none, .store 2 (.t 2) (.t 21), none⟩,
     ⟨some 3, .mv (.c (.i .i64 60)), none⟩])
   (.ret))
   (.skip)))
  (.seq (.reg [⟨some 23, .mv (.t 0), none⟩,
    ⟨some 24, .slcs (.t 23) (some (.c (.i .i64 5))) none, none⟩,
    ⟨some 25, .call 31 [.t 24], none⟩,
    ⟨some 22, .mv (.t 25), none⟩,
    ⟨some 26, .ext (.t 22) 0, none⟩,
    ⟨some 27, .ext (.t 22) 1, none⟩,
    ⟨some 28, .ext (.t 22) 2, none⟩,
    ⟨some 4, .mv (.t 26), none⟩,
    ⟨some 5, .mv (.t 27), none⟩,
    ⟨some 6, .mv (.t 28), none⟩])
  (.seq (.seq (.reg [⟨some 29, .mv (.t 6), none⟩,
    ⟨some 30, .not (.t 29), none⟩])
  (.cond (.t 30)
   (.seq (.reg [⟨some 31, .build [.s [], .s []] [], none⟩,
     ⟨none, .store 2 (.t 2) (.t 31), none⟩,
     ⟨some 3, .mv (.c (.i .i64 6)), none⟩])
   (.ret))
   (.skip)))
  (.seq (.reg [⟨some 33, .mv (.t 4), none⟩,
    ⟨some 34, .call 32 [.t 33, .c (.s [33, 36, 38, 39, 40, 41, 42, 43, 44, 59, 61])], none⟩,
    ⟨some 32, .mv (.t 34), none⟩,
    ⟨some 35, .ext (.t 32) 0, none⟩,
    ⟨some 36, .ext (.t 32) 1, none⟩,
    ⟨some 4, .mv (.t 35), none⟩,
    ⟨some 7, .mv (.t 36), none⟩])
  (.seq (.seq (.reg [⟨some 37, .mv (.t 7), none⟩,
    ⟨some 38, .bin .neq (.t 37) (.c (.i .i64 0)), none⟩,
    ⟨some 39, .mv (.t 38), none⟩,
    ⟨some 40, .mv (.t 4), some (39, false)⟩,
    ⟨some 41, .bin .eql (.t 40) (.c (.s [])), some (39, false)⟩,
    ⟨some 42, .pick (.t 39) (.c (.b true)) (.t 41), none⟩,
    ⟨some 43, .mv (.t 42), none⟩,
    ⟨some 44, .mv (.t 4), some (43, false)⟩,
    ⟨some 45, .idx (.t 44) (.c (.i .i64 0)), some (43, false)⟩,
    ⟨some 46, .bin .eql (.t 45) (.c (.i .u8 37)), some (43, false)⟩,
    ⟨some 47, .pick (.t 43) (.c (.b true)) (.t 46), none⟩])
  (.cond (.t 47)
   (.seq (.reg [⟨some 48, .build [.s [], .s []] [], none⟩,
     ⟨none, .store 2 (.t 2) (.t 48), none⟩,
     ⟨some 3, .mv (.c (.i .i64 80)), none⟩])
   (.ret))
   (.skip)))
  (.seq (.reg [⟨some 50, .mv (.t 5), none⟩,
    ⟨some 51, .call 33 [.t 50], none⟩,
    ⟨some 49, .mv (.t 51), none⟩,
    ⟨some 52, .ext (.t 49) 0, none⟩,
    ⟨some 53, .ext (.t 49) 1, none⟩,
    ⟨some 5, .mv (.t 52), none⟩,
    ⟨some 7, .mv (.t 53), none⟩])
  (.seq (.seq (.reg [⟨some 54, .mv (.t 7), none⟩,
    ⟨some 55, .bin .neq (.t 54) (.c (.i .i64 0)), none⟩])
  (.cond (.t 55)
   (.seq (.reg [⟨some 56, .build [.s [], .s []] [], none⟩,
     ⟨some 57, .mv (.t 7), none⟩,
     ⟨none, .store 2 (.t 2) (.t 56), none⟩,
     ⟨some 3, .mv (.t 57), none⟩])
   (.ret))
   (.skip)))
  (.seq (.reg [⟨some 58, .mv (.t 4), none⟩,
    ⟨some 59, .mv (.t 5), none⟩,
    ⟨some 60, .build [.s [], .s []] [(0, (1, .t 58)), (1, (1, .t 59))], none⟩,
    ⟨none, .store 2 (.t 2) (.t 60), none⟩,
    ⟨some 3, .mv (.c (.i .i64 0)), none⟩])
  (.ret))))))))))
theorem is_acct_Parse : FnIs Try.prog 12 61 [.celln 2 2, .tmp 3] c_acct_Parse := ⟨⟨_, _, Try.func12, rfl, rfl, by kernel_rfl, by kernel_rfl⟩⟩
def c_ref08_Parse : SCode :=
  .seq (.reg [⟨some 2, .alloc 24 [.s [], .s []], none⟩,
    ⟨some 3, .mv (.c (.i .i64 0)), none⟩])
  (.seq (.blk 0
   (.seq (.reg [⟨some 9, .mv (.t 0), none⟩,
     ⟨some 10, .lens (.t 9), none⟩,
     ⟨some 11, .bin .gtr (.t 10) (.c (.i .i64 4096)), none⟩,
     ⟨some 8, .mv (.t 11), none⟩])
   (.cond (.t 8)
    (.seq (.reg [⟨some 12, .build [.s [], .s []] [], none⟩,
      ⟨none, .store 2 (.t 2) (.t 12), none⟩,
      ⟨some 3, .mv (.c (.i .i64 5)), none⟩])
    (.ret))
    (.seq (.reg [⟨some 14, .mv (.t 0), none⟩,
      ⟨some 15, .lens (.t 14), none⟩,
      ⟨some 16, .bin .lss (.t 15) (.c (.i .i64 5)), none⟩,
      ⟨some 17, .mv (.t 16), none⟩,
      ⟨some 18, .mv (.t 0), some (17, false)⟩,
      ⟨some 19, .slcs (.t 18) none (some (.c (.i .i64 5))), some (17, false)⟩,
      ⟨some 20, .call 34 [.t 19, .c (.s [97, 99, 99, 116, 58])], some (17, false)⟩,
      ⟨some 21, .not (.t 20), some (17, false)⟩,
      ⟨some 22, .pick (.t 17) (.c (.b true)) (.t 21), none⟩,
      ⟨some 13, .mv (.t 22), none⟩])
    (.cond (.t 13)
     (.seq (.reg [⟨some 23, .build [.s [], .s []] [], none⟩,
       ⟨none, .store 2 (.t 2) (.t 23), none⟩,
       ⟨some 3, .mv (.c (.i .i64 60)), none⟩])
     (.ret))
     (.skip))))))
  (.seq (.reg [⟨some 24, .mv (.t 0), none⟩,
    ⟨some 25, .slcs (.t 24) (some (.c (.i .i64 5))) none, none⟩,
    ⟨some 0, .mv (.t 25), none⟩])
  (.seq (.reg [⟨some 26, .mv (.t 0), none⟩,
    ⟨some 27, .call 28 [.t 26, .c (.s [64])], none⟩,
    ⟨some 4, .mv (.t 27), none⟩])
  (.seq (.seq (.reg [⟨some 28, .mv (.t 4), none⟩,
    ⟨some 29, .mv (.t 0), none⟩,
    ⟨some 30, .lens (.t 29), none⟩,
    ⟨some 31, .bin .eql (.t 28) (.t 30), none⟩])
  (.cond (.t 31)
   (.seq (.reg [⟨some 32, .build [.s [], .s []] [], none⟩,
     ⟨none, .store 2 (.t 2) (.t 32), none⟩,
     ⟨some 3, .mv (.c (.i .i64 6)), none⟩])
   (.ret))
   (.skip)))
  (.seq (.reg [⟨some 34, .mv (.t 0), none⟩,
    ⟨some 35, .mv (.t 4), none⟩,
    ⟨some 36, .slcs (.t 34) none (some (.t 35)), none⟩,
    ⟨some 37, .call 35 [.t 36, .c (.s [33, 36, 38, 39, 40, 41, 42, 43, 44, 59, 61])], none⟩,
    ⟨some 33, .mv (.t 37), none⟩,
    ⟨some 38, .ext (.t 33) 0, none⟩,
    ⟨some 39, .ext (.t 33) 1, none⟩,
    ⟨some 5, .mv (.t 38), none⟩,
    ⟨some 6, .mv (.t 39), none⟩])
  (.seq (.seq (.reg [⟨some 40, .mv (.t 6), none⟩,
    ⟨some 41, .bin .neq (.t 40) (.c (.i .i64 0)), none⟩,
    ⟨some 42, .mv (.t 41), none⟩,
    ⟨some 43, .mv (.t 5), some (42, false)⟩,
    ⟨some 44, .bin .eql (.t 43) (.c (.s [])), some (42, false)⟩,
    ⟨some 45, .pick (.t 42) (.c (.b true)) (.t 44), none⟩,
    ⟨some 46, .mv (.t 45), none⟩,
    ⟨some 47, .mv (.t 5), some (46, false)⟩,
    ⟨some 48, .idx (.t 47) (.c (.i .i64 0)), some (46, false)⟩,
    ⟨some 49, .bin .eql (.t 48) (.c (.i .u8 37)), some (46, false)⟩,
    ⟨some 50, .pick (.t 46) (.c (.b true)) (.t 49), none⟩])
  (.cond (.t 50)
   (.seq (.reg [⟨some 51, .build [.s [], .s []] [], none⟩,
     ⟨none, .store 2 (.t 2) (.t 51), none⟩,
     ⟨some 3, .mv (.c (.i .i64 80)), none⟩])
   (.ret))
   (.skip)))
  (.seq (.reg [⟨some 53, .mv (.t 0), none⟩,
    ⟨some 54, .mv (.t 4), none⟩,
    ⟨some 55, .bin .add (.t 54) (.c (.i .i64 1)), none⟩,
    ⟨some 56, .slcs (.t 53) (some (.t 55)) none, none⟩,
    ⟨some 57, .call 36 [.t 56], none⟩,
    ⟨some 52, .mv (.t 57), none⟩,
    ⟨some 58, .ext (.t 52) 0, none⟩,
    ⟨some 59, .ext (.t 52) 1, none⟩,
    ⟨some 7, .mv (.t 58), none⟩,
    ⟨some 6, .mv (.t 59), none⟩])
  (.seq (.seq (.reg [⟨some 60, .mv (.t 6), none⟩,
    ⟨some 61, .bin .neq (.t 60) (.c (.i .i64 0)), none⟩])
  (.cond (.t 61)
   (.seq (.reg [⟨some 62, .build [.s [], .s []] [], none⟩,
     ⟨some 63, .mv (.t 6), none⟩,
     ⟨none, .store 2 (.t 2) (.t 62), none⟩,
     ⟨some 3, .mv (.t 63), none⟩])
   (.ret))
   (.skip)))
  (.seq (.reg [⟨some 64, .mv (.t 5), none⟩,
    ⟨some 65, .mv (.t 7), none⟩,
    ⟨some 66, .build [.s [], .s []] [(0, (1, .t 64)), (1, (1, .t 65))], none⟩,
    ⟨none, .store 2 (.t 2) (.t 66), none⟩,
    ⟨some 3, .mv (.c (.i .i64 0)), none⟩])
  (.ret))))))))))
theorem is_ref08_Parse : FnIs Try.prog 13 67 [.celln 2 2, .tmp 3] c_ref08_Parse := ⟨⟨_, _, Try.func13, rfl, rfl, by kernel_rfl, by kernel_rfl⟩⟩
def c_acct_Format : SCode :=
  .seq (.reg [⟨some 1, .box 24 (.t 0), none⟩,
    ⟨some 2, .mv (.c (.s [])), none⟩])
  (.seq (.reg [⟨some 3, .fad 0 (.t 1), none⟩,
    ⟨some 4, .load1 (.t 3), none⟩,
    ⟨some 5, .bin .add (.c (.s [97, 99, 99, 116, 58])) (.t 4), none⟩,
    ⟨some 6, .bin .add (.t 5) (.c (.s [64])), none⟩,
    ⟨some 7, .fad 1 (.t 1), none⟩,
    ⟨some 8, .load1 (.t 7), none⟩,
    ⟨some 9, .bin .add (.t 6) (.t 8), none⟩,
    ⟨some 2, .mv (.t 9), none⟩])
  (.ret))
theorem is_acct_Format : FnIs Try.prog 14 10 [.tmp 2] c_acct_Format := ⟨⟨_, _, Try.func14, rfl, rfl, by kernel_rfl, by kernel_rfl⟩⟩
def c_ref08_Format : SCode :=
  .seq (.reg [⟨some 1, .box 24 (.t 0), none⟩,
    ⟨some 2, .mv (.c (.s [])), none⟩])
  (.seq (.reg [⟨some 3, .fad 0 (.t 1), none⟩,
    ⟨some 4, .load1 (.t 3), none⟩,
    ⟨some 5, .bin .add (.c (.s [97, 99, 99, 116, 58])) (.t 4), none⟩,
    ⟨some 6, .bin .add (.t 5) (.c (.s [64])), none⟩,
    ⟨some 7, .fad 1 (.t 1), none⟩,
    ⟨some 8, .load1 (.t 7), none⟩,
    ⟨some 9, .bin .add (.t 6) (.t 8), none⟩,
    ⟨some 2, .mv (.t 9), none⟩])
  (.ret))
theorem is_ref08_Format : FnIs Try.prog 15 10 [.tmp 2] c_ref08_Format := ⟨⟨_, _, Try.func15, rfl, rfl, by kernel_rfl, by kernel_rfl⟩⟩
def c_law09_sane : SCode :=
  .seq (.reg [⟨some 0, .mv (.c (.b false)), none⟩])
  (.seq (.reg [⟨some 6, .call 17 [.c (.s [109, 97, 105, 108, 116, 111, 58, 37, 54, 49, 46, 98, 37, 50, 66, 99, 64, 69, 120, 97, 109, 112, 108, 101, 46, 111, 114, 103])], none⟩,
    ⟨some 5, .mv (.t 6), none⟩,
    ⟨some 7, .ext (.t 5) 0, none⟩,
    ⟨some 8, .ext (.t 5) 1, none⟩,
    ⟨some 1, .alloc 32 [.s [], .s []], none⟩,
    ⟨none, .store 2 (.t 1) (.t 7), none⟩,
    ⟨some 2, .mv (.t 8), none⟩])
  (.seq (.reg [⟨some 10, .call 17 [.c (.s [109, 97, 105, 108, 116, 111, 58, 97, 46, 46, 98, 64, 99, 46, 101, 120, 97, 109, 112, 108, 101])], none⟩,
    ⟨some 9, .mv (.t 10), none⟩,
    ⟨some 11, .ext (.t 9) 0, none⟩,
    ⟨some 12, .ext (.t 9) 1, none⟩,
    ⟨some 3, .alloc 32 [.s [], .s []], none⟩,
    ⟨none, .store 2 (.t 3) (.t 11), none⟩,
    ⟨some 4, .mv (.t 12), none⟩])
  (.seq (.reg [⟨some 13, .mv (.t 2), none⟩,
    ⟨some 14, .bin .eql (.t 13) (.c (.i .i64 0)), none⟩,
    ⟨some 15, .mv (.t 14), none⟩,
    ⟨some 16, .fad 0 (.t 1), some (15, true)⟩,
    ⟨some 17, .load1 (.t 16), some (15, true)⟩,
    ⟨some 18, .bin .eql (.t 17) (.c (.s [97, 46, 98, 43, 99])), some (15, true)⟩,
    ⟨some 19, .pick (.t 15) (.t 18) (.c (.b false)), none⟩,
    ⟨some 20, .mv (.t 19), none⟩,
    ⟨some 21, .loadn 2 (.t 1), some (20, true)⟩,
    ⟨some 22, .call 21 [.t 21], some (20, true)⟩,
    ⟨some 23, .bin .eql (.t 22) (.c (.s [109, 97, 105, 108, 116, 111, 58, 97, 46, 98, 43, 99, 64, 101, 120, 97, 109, 112, 108, 101, 46, 111, 114, 103])), some (20, true)⟩,
    ⟨some 24, .pick (.t 20) (.t 23) (.c (.b false)), none⟩,
    ⟨some 25, .mv (.t 24), none⟩,
    ⟨some 26, .mv (.t 4), some (25, true)⟩,
    ⟨some 27, .bin .eql (.t 26) (.c (.i .i64 80)), some (25, true)⟩,
    ⟨some 28, .pick (.t 25) (.t 27) (.c (.b false)), none⟩,
    ⟨some 0, .mv (.t 28), none⟩])
  (.ret))))
theorem is_law09_sane : FnIs Try.prog 16 29 [.tmp 0] c_law09_sane := ⟨⟨_, _, Try.func16, rfl, rfl, by kernel_rfl, by kernel_rfl⟩⟩
def c_mail_Parse : SCode :=
  .seq (.reg [⟨some 2, .alloc 32 [.s [], .s []], none⟩,
    ⟨some 3, .mv (.c (.i .i64 0)), none⟩])
  (.seq (.seq (.reg [⟨some 8, .mv (.t 0), none⟩,
    ⟨some 9, .lens (.t 8), none⟩,
    ⟨some 10, .bin .gtr (.t 9) (.c (.i .i64 4096)), none⟩])
  (.cond (.t 10)
   (.seq (.reg [⟨some 11, .build [.s [], .s []] [], none⟩,
     ⟨none, .store 2 (.t 2) (.t 11), none⟩,
     ⟨some 3, .mv (.c (.i .i64 5)), none⟩])
   (.ret))
   (.skip)))
  (.seq (.seq (.reg [⟨some 12, .mv (.t 0), none⟩,
    ⟨some 13, .lens (.t 12), none⟩,
    ⟨some 14, .bin .lss (.t 13) (.c (.i .i64 7)), none⟩,
    ⟨some 15, .mv (.t 14), none⟩,
    ⟨some 16, .mv (.t 0), some (15, false)⟩,
    ⟨some 17, .slcs (.t 16) none (some (.c (.i .i64 7))), some (15, false)⟩,
    ⟨some 18, .call 30 [.t 17, .c (.s [109, 97, 105, 108, 116, 111, 58])], some (15, false)⟩,
    ⟨some 19, .not (.t 18), some (15, false)⟩,
    ⟨some 20, .pick (.t 15) (.c (.b true)) (.t 19), none⟩])
  (.cond (.t 20)
   (.seq (.reg [⟨some 21, .build [.s [], .s []] [], none⟩,
     ⟨none, .store 2 (.t 2) (.t 21), none⟩,
     ⟨some 3, .mv (.c (.i .i64 60)), none⟩])
   (.ret))
   (.skip)))
  (.seq (.reg [⟨some 23, .mv (.t 0), none⟩,
    ⟨some 24, .slcs (.t 23) (some (.c (.i .i64 7))) none, none⟩,
    ⟨some 25, .call 37 [.t 24, .c (.s [64])], none⟩,
    ⟨some 22, .mv (.t 25), none⟩,
    ⟨some 26, .ext (.t 22) 0, none⟩,
    ⟨some 27, .ext (.t 22) 1, none⟩,
    ⟨some 28, .ext (.t 22) 2, none⟩,
    ⟨some 4, .mv (.t 26), none⟩,
    ⟨some 5, .mv (.t 27), none⟩,
    ⟨some 6, .mv (.t 28), none⟩])
  (.seq (.seq (.reg [⟨some 29, .mv (.t 6), none⟩,
    ⟨some 30, .not (.t 29), none⟩,
    ⟨some 31, .mv (.t 30), none⟩,
    ⟨some 32, .mv (.t 0), some (31, false)⟩,
    ⟨some 33, .call 38 [.t 32, .c (.s [63, 35])], some (31, false)⟩,
    ⟨some 34, .pick (.t 31) (.c (.b true)) (.t 33), none⟩])
  (.cond (.t 34)
   (.seq (.reg [⟨some 35, .build [.s [], .s []] [], none⟩,
     ⟨none, .store 2 (.t 2) (.t 35), none⟩,
     ⟨some 3, .mv (.c (.i .i64 6)), none⟩])
   (.ret))
   (.skip)))
  (.seq (.reg [⟨some 37, .mv (.t 4), none⟩,
    ⟨some 38, .call 39 [.t 37], none⟩,
    ⟨some 36, .mv (.t 38), none⟩,
    ⟨some 39, .ext (.t 36) 0, none⟩,
    ⟨some 40, .ext (.t 36) 1, none⟩,
    ⟨some 4, .mv (.t 39), none⟩,
    ⟨some 7, .mv (.t 40), none⟩])
  (.seq (.seq (.reg [⟨some 41, .mv (.t 7), none⟩,
    ⟨some 42, .bin .neq (.t 41) (.c (.i .i64 0)), none⟩])
  (.cond (.t 42)
   (.seq (.reg [⟨some 43, .build [.s [], .s []] [], none⟩,
     ⟨some 44, .mv (.t 7), none⟩,
     ⟨none, .store 2 (.t 2) (.t 43), none⟩,
     ⟨some 3, .mv (.t 44), none⟩])
   (.ret))
   (.skip)))
  (.seq (.reg [⟨some 46, .mv (.t 5), none⟩,
    ⟨some 47, .call 33 [.t 46], none⟩,
    ⟨some 45, .mv (.t 47), none⟩,
    ⟨some 48, .ext (.t 45) 0, none⟩,
    ⟨some 49, .ext (.t 45) 1, none⟩,
    ⟨some 5, .mv (.t 48), none⟩,
    ⟨some 7, .mv (.t 49), none⟩])
  (.seq (.seq (.reg [⟨some 50, .mv (.t 7), none⟩,
    ⟨some 51, .bin .neq (.t 50) (.c (.i .i64 0)), none⟩])
  (.cond (.t 51)
   (.seq (.reg [⟨some 52, .build [.s [], .s []] [], none⟩,
     ⟨some 53, .mv (.t 7), none⟩,
     ⟨none, .store 2 (.t 2) (.t 52), none⟩,
     ⟨some 3, .mv (.t 53), none⟩])
   (.ret))
   (.skip)))
  (.seq (.seq (.reg [⟨some 54, .mv (.t 5), none⟩,
    ⟨some 55, .call 40 [.t 54], none⟩])
  (.cond (.t 55)
   (.seq (.reg [⟨some 56, .build [.s [], .s []] [], none⟩,
     ⟨none, .store 2 (.t 2) (.t 56), none⟩,
     ⟨some 3, .mv (.c (.i .i64 50)), none⟩])
   (.ret))
   (.skip)))
  (.seq (.reg [⟨some 57, .mv (.t 4), none⟩,
    ⟨some 58, .mv (.t 5), none⟩,
    ⟨some 59, .build [.s [], .s []] [(0, (1, .t 57)), (1, (1, .t 58))], none⟩,
    ⟨none, .store 2 (.t 2) (.t 59), none⟩,
    ⟨some 3, .mv (.c (.i .i64 0)), none⟩])
  (.ret)))))))))))
theorem is_mail_Parse : FnIs Try.prog 17 60 [.celln 2 2, .tmp 3] c_mail_Parse := ⟨⟨_, _, Try.func17, rfl, rfl, by kernel_rfl, by kernel_rfl⟩⟩
def c_ref09_Parse : SCode :=
  .seq (.reg [⟨some 2, .alloc 32 [.s [], .s []], none⟩,
    ⟨some 3, .mv (.c (.i .i64 0)), none⟩])
  (.seq (.blk 0
   (.seq (.reg [⟨some 10, .mv (.t 0), none⟩,
     ⟨some 11, .lens (.t 10), none⟩,
     ⟨some 12, .bin .gtr (.t 11) (.c (.i .i64 4096)), none⟩,
     ⟨some 9, .mv (.t 12), none⟩])
   (.cond (.t 9)
    (.seq (.reg [⟨some 13, .build [.s [], .s []] [], none⟩,
      ⟨none, .store 2 (.t 2) (.t 13), none⟩,
      ⟨some 3, .mv (.c (.i .i64 5)), none⟩])
    (.ret))
    (.seq (.reg [⟨some 15, .mv (.t 0), none⟩,
      ⟨some 16, .lens (.t 15), none⟩,
      ⟨some 17, .bin .lss (.t 16) (.c (.i .i64 7)), none⟩,
      ⟨some 18, .mv (.t 17), none⟩,
      ⟨some 19, .mv (.t 0), some (18, false)⟩,
      ⟨some 20, .slcs (.t 19) none (some (.c (.i .i64 7))), some (18, false)⟩,
      ⟨some 21, .call 34 [.t 20, .c (.s [109, 97, 105, 108, 116, 111, 58])], some (18, false)⟩,
      ⟨some 22, .not (.t 21), some (18, false)⟩,
      ⟨some 23, .pick (.t 18) (.c (.b true)) (.t 22), none⟩,
      ⟨some 14, .mv (.t 23), none⟩])
    (.cond (.t 14)
     (.seq (.reg [⟨some 24, .build [.s [], .s []] [], none⟩,
       ⟨none, .store 2 (.t 2) (.t 24), none⟩,
       ⟨some 3, .mv (.c (.i .i64 60)), none⟩])
     (.ret))
     (.skip))))))
  (.seq (.reg [⟨some 25, .mv (.t 0), none⟩,
    ⟨some 26, .slcs (.t 25) (some (.c (.i .i64 7))) none, none⟩,
    ⟨some 0, .mv (.t 26), none⟩])
  (.seq (.reg [⟨some 27, .mv (.t 0), none⟩,
    ⟨some 28, .call 28 [.t 27, .c (.s [64])], none⟩,
    ⟨some 4, .mv (.t 28), none⟩])
  (.seq (.seq (.reg [⟨some 29, .mv (.t 4), none⟩,
    ⟨some 30, .mv (.t 0), none⟩,
    ⟨some 31, .lens (.t 30), none⟩,
    ⟨some 32, .bin .eql (.t 29) (.t 31), none⟩,
    ⟨some 33, .mv (.t 32), none⟩,
    ⟨some 34, .mv (.t 0), some (33, false)⟩,
    ⟨some 35, .call 28 [.t 34, .c (.s [63, 35])], some (33, false)⟩,
    ⟨some 36, .mv (.t 0), some (33, false)⟩,
    ⟨some 37, .lens (.t 36), some (33, false)⟩,
    ⟨some 38, .bin .lss (.t 35) (.t 37), some (33, false)⟩,
    ⟨some 39, .pick (.t 33) (.c (.b true)) (.t 38), none⟩])
  (.cond (.t 39)
   (.seq (.reg [⟨some 40, .build [.s [], .s []] [], none⟩,
     ⟨none, .store 2 (.t 2) (.t 40), none⟩,
     ⟨some 3, .mv (.c (.i .i64 6)), none⟩])
   (.ret))
   (.skip)))
  (.seq (.seq (.reg [⟨some 5, .mv (.c (.i .i64 0)), none⟩])
  (.blk 1
   (.loop
    (.seq (.seq (.reg [⟨some 41, .mv (.t 5), none⟩,
      ⟨some 42, .mv (.t 4), none⟩,
      ⟨some 43, .bin .lss (.t 41) (.t 42), none⟩])
    (.cond (.t 43)
     (.skip)
     (.exit 1)))
    (.seq (.blk 2
     (.seq (.reg [⟨some 46, .mv (.t 0), none⟩,
       ⟨some 47, .mv (.t 5), none⟩,
       ⟨some 48, .idx (.t 46) (.t 47), none⟩,
       ⟨some 49, .call 41 [.t 48], none⟩,
       ⟨some 50, .not (.t 49), none⟩,
       ⟨some 51, .mv (.t 50), none⟩,
       ⟨some 52, .mv (.t 0), some (51, true)⟩,
       ⟨some 53, .mv (.t 5), some (51, true)⟩,
       ⟨some 54, .idx (.t 52) (.t 53), some (51, true)⟩,
       ⟨some 55, .call 42 [.t 54, .c (.s [37, 33, 36, 39, 42, 43])], some (51, true)⟩,
       ⟨some 56, .not (.t 55), some (51, true)⟩,
       ⟨some 57, .pick (.t 51) (.t 56) (.c (.b false)), none⟩])
     (.cond (.t 57)
      (.seq (.reg [⟨some 58, .build [.s [], .s []] [], none⟩,
        ⟨none, .store 2 (.t 2) (.t 58), none⟩,
        ⟨some 3, .mv (.c (.i .i64 1)), none⟩])
      (.ret))
      (.skip))))
    (.reg [⟨some 44, .mv (.t 5), none⟩,
      ⟨some 45, .bin .add (.t 44) (.c (.i .i64 1)), none⟩,
      ⟨some 5, .mv (.t 45), none⟩]))))))
  (.seq (.reg [⟨some 60, .mv (.t 0), none⟩,
    ⟨some 61, .mv (.t 4), none⟩,
    ⟨some 62, .slcs (.t 60) none (some (.t 61)), none⟩,
    ⟨some 63, .call 29 [.t 62], none⟩,
    ⟨some 59, .mv (.t 63), none⟩,
    ⟨some 64, .ext (.t 59) 0, none⟩,
    ⟨some 65, .ext (.t 59) 1, none⟩,
    ⟨some 6, .mv (.t 64), none⟩,
    ⟨some 7, .mv (.t 65), none⟩])
  (.seq (.seq (.reg [⟨some 66, .mv (.t 7), none⟩,
    ⟨some 67, .bin .neq (.t 66) (.c (.i .i64 0)), none⟩])
  (.cond (.t 67)
   (.seq (.reg [⟨some 68, .build [.s [], .s []] [], none⟩,
     ⟨some 69, .mv (.t 7), none⟩,
     ⟨none, .store 2 (.t 2) (.t 68), none⟩,
     ⟨some 3, .mv (.t 69), none⟩])
   (.ret))
   (.skip)))
  (.seq (.seq (.reg [⟨some 70, .mv (.t 6), none⟩,
    ⟨some 71, .call 20 [.t 70], none⟩,
    ⟨some 72, .not (.t 71), none⟩])
  (.cond (.t 72)
   (.seq (.reg [⟨some 73, .build [.s [], .s []] [], none⟩,
     ⟨none, .store 2 (.t 2) (.t 73), none⟩,
     ⟨some 3, .mv (.c (.i .i64 80)), none⟩])
   (.ret))
   (.skip)))
  (.seq (.reg [⟨some 75, .mv (.t 0), none⟩,
    ⟨some 76, .mv (.t 4), none⟩,
    ⟨some 77, .bin .add (.t 76) (.c (.i .i64 1)), none⟩,
    ⟨some 78, .slcs (.t 75) (some (.t 77)) none, none⟩,
    ⟨some 79, .call 36 [.t 78], none⟩,
    ⟨some 74, .mv (.t 79), none⟩,
    ⟨some 80, .ext (.t 74) 0, none⟩,
    ⟨some 81, .ext (.t 74) 1, none⟩,
    ⟨some 8, .mv (.t 80), none⟩,
    ⟨some 7, .mv (.t 81), none⟩])
  (.seq (.seq (.reg [⟨some 82, .mv (.t 7), none⟩,
    ⟨some 83, .bin .neq (.t 82) (.c (.i .i64 0)), none⟩])
  (.cond (.t 83)
   (.seq (.reg [⟨some 84, .build [.s [], .s []] [], none⟩,
     ⟨some 85, .mv (.t 7), none⟩,
     ⟨none, .store 2 (.t 2) (.t 84), none⟩,
     ⟨some 3, .mv (.t 85), none⟩])
   (.ret))
   (.skip)))
  (.seq (.seq (.reg [⟨some 86, .mv (.t 8), none⟩,
    ⟨some 87, .call 43 [.t 86], none⟩])
  (.cond (.t 87)
   (.seq (.reg [⟨some 88, .build [.s [], .s []] [], none⟩,
     ⟨none, .store 2 (.t 2) (.t 88), none⟩,
     ⟨some 3, .mv (.c (.i .i64 50)), none⟩])
   (.ret))
   (.skip)))
  (.seq (.reg [⟨some 89, .mv (.t 6), none⟩,
    ⟨some 90, .mv (.t 8), none⟩,
    ⟨some 91, .build [.s [], .s []] [(0, (1, .t 89)), (1, (1, .t 90))], none⟩,
    ⟨none, .store 2 (.t 2) (.t 91), none⟩,
    ⟨some 3, .mv (.c (.i .i64 0)), none⟩])
  (.ret)))))))))))))
theorem is_ref09_Parse : FnIs Try.prog 18 92 [.celln 2 2, .tmp 3] c_ref09_Parse := ⟨⟨_, _, Try.func18, rfl, rfl, by kernel_rfl, by kernel_rfl⟩⟩
def c_mail_Local : SCode :=
  .seq (.reg [⟨some 2, .mv (.c (.b false)), none⟩])
  (.seq (.seq (.reg [⟨some 6, .mv (.t 0), none⟩,
    ⟨some 7, .lens (.t 6), none⟩,
    ⟨some 8, .bin .gtr (.t 7) (.c (.i .i64 64)), none⟩])
  (.cond (.t 8)
   (.seq (.reg [⟨some 2, .mv (.c (.b false)), none⟩])
   (.ret))
   (.skip)))
  (.seq (.reg [⟨some 3, .mv (.c (.b true)), none⟩])
  (.seq (.seq (.reg [⟨some 9, .mv (.t 0), none⟩,
    ⟨some 10, .lens (.t 9), none⟩,
    ⟨some 11, .mv (.c (.i .i64 0)), none⟩])
  (.blk 0
   (.loop
    (.seq (.reg [⟨some 12, .bin .lss (.t 11) (.t 10), none⟩])
    (.seq (.cond (.t 12)
     (.skip)
     (.exit 0))
    (.seq (.blk 1
     (.seq (.reg [⟨some 13, .mv (.t 11), none⟩,
       ⟨some 4, .mv (.t 13), none⟩])
     (.seq (.reg [⟨some 14, .mv (.t 0), none⟩,
       ⟨some 15, .mv (.t 4), none⟩,
       ⟨some 16, .idx (.t 14) (.t 15), none⟩,
       ⟨some 17, .bin .eql (.t 16) (.c (.i .u8 46)), none⟩,
       ⟨some 5, .mv (.t 17), none⟩])
     (.seq (.seq (.reg [⟨some 18, .mv (.t 5), none⟩,
       ⟨some 19, .mv (.t 18), none⟩,
       ⟨some 20, .mv (.t 3), some (19, true)⟩,
       ⟨some 21, .pick (.t 19) (.t 20) (.c (.b false)), none⟩,
       ⟨some 22, .mv (.t 21), none⟩,
       ⟨some 23, .mv (.t 5), some (22, false)⟩,
       ⟨some 24, .not (.t 23), some (22, false)⟩,
       ⟨some 25, .mv (.t 24), some (22, false)⟩,
       ⟨some 26, .mv (.t 0), some (25, true)⟩,
       ⟨some 27, .mv (.t 4), some (25, true)⟩,
       ⟨some 28, .idx (.t 26) (.t 27), some (25, true)⟩,
       ⟨some 29, .call 44 [.t 28], some (25, true)⟩,
       ⟨some 30, .not (.t 29), some (25, true)⟩,
       ⟨some 31, .pick (.t 25) (.t 30) (.c (.b false)), some (22, false)⟩,
       ⟨some 32, .pick (.t 22) (.c (.b true)) (.t 31), none⟩])
     (.cond (.t 32)
      (.seq (.reg [⟨some 2, .mv (.c (.b false)), none⟩])
      (.ret))
      (.skip)))
     (.reg [⟨some 33, .mv (.t 5), none⟩,
       ⟨some 3, .mv (.t 33), none⟩])))))
    (.reg [⟨some 34, .bin .add (.t 11) (.c (.i .i64 1)), none⟩,
      ⟨some 11, .mv (.t 34), none⟩])))))))
  (.seq (.reg [⟨some 35, .mv (.t 3), none⟩,
    ⟨some 36, .not (.t 35), none⟩,
    ⟨some 2, .mv (.t 36), none⟩])
  (.ret)))))
theorem is_mail_Local : FnIs Try.prog 19 37 [.tmp 2] c_mail_Local := ⟨⟨_, _, Try.func19, rfl, rfl, by kernel_rfl, by kernel_rfl⟩⟩
def c_ref09_Local : SCode :=
  .seq (.reg [⟨some 2, .mv (.c (.b false)), none⟩])
  (.seq (.seq (.reg [⟨some 6, .mv (.t 0), none⟩,
    ⟨some 7, .bin .eql (.t 6) (.c (.s [])), none⟩,
    ⟨some 8, .mv (.t 7), none⟩,
    ⟨some 9, .mv (.t 0), some (8, false)⟩,
    ⟨some 10, .lens (.t 9), some (8, false)⟩,
    ⟨some 11, .bin .gtr (.t 10) (.c (.i .i64 64)), some (8, false)⟩,
    ⟨some 12, .pick (.t 8) (.c (.b true)) (.t 11), none⟩])
  (.cond (.t 12)
   (.seq (.reg [⟨some 2, .mv (.c (.b false)), none⟩])
   (.ret))
   (.skip)))
  (.seq (.seq (.reg [⟨some 13, .mv (.t 0), none⟩,
    ⟨some 14, .call 45 [.t 13, .c (.i .u8 46)], none⟩,
    ⟨some 15, .lenr (.t 14), none⟩,
    ⟨some 16, .mv (.c (.i .i64 0)), none⟩])
  (.blk 0
   (.loop
    (.seq (.reg [⟨some 17, .bin .lss (.t 16) (.t 15), none⟩])
    (.seq (.cond (.t 17)
     (.skip)
     (.exit 0))
    (.seq (.blk 1
     (.seq (.reg [⟨some 18, .iad 1 (.t 14) (.t 16), none⟩,
       ⟨some 19, .load1 (.t 18), none⟩,
       ⟨some 4, .mv (.t 19), none⟩])
     (.seq (.seq (.reg [⟨some 20, .mv (.t 4), none⟩,
       ⟨some 21, .bin .eql (.t 20) (.c (.s [])), none⟩])
     (.cond (.t 21)
      (.seq (.reg [⟨some 2, .mv (.c (.b false)), none⟩])
      (.ret))
      (.skip)))
     (.seq (.reg [⟨some 5, .mv (.c (.i .i64 0)), none⟩])
     (.blk 2
      (.loop
       (.seq (.seq (.reg [⟨some 22, .mv (.t 5), none⟩,
         ⟨some 23, .mv (.t 4), none⟩,
         ⟨some 24, .lens (.t 23), none⟩,
         ⟨some 25, .bin .lss (.t 22) (.t 24), none⟩])
       (.cond (.t 25)
        (.skip)
        (.exit 2)))
       (.seq (.blk 3
        (.seq (.reg [⟨some 28, .mv (.t 4), none⟩,
          ⟨some 29, .mv (.t 5), none⟩,
          ⟨some 30, .idx (.t 28) (.t 29), none⟩,
          ⟨some 31, .call 46 [.t 30], none⟩,
          ⟨some 32, .not (.t 31), none⟩])
        (.cond (.t 32)
         (.seq (.reg [⟨some 2, .mv (.c (.b false)), none⟩])
         (.ret))
         (.skip))))
       (.reg [⟨some 26, .mv (.t 5), none⟩,
         ⟨some 27, .bin .add (.t 26) (.c (.i .i64 1)), none⟩,
         ⟨some 5, .mv (.t 27), none⟩])))))))))
    (.reg [⟨some 33, .bin .add (.t 16) (.c (.i .i64 1)), none⟩,
      ⟨some 16, .mv (.t 33), none⟩])))))))
  (.seq (.reg [⟨some 2, .mv (.c (.b true)), none⟩])
  (.ret))))
theorem is_ref09_Local : FnIs Try.prog 20 34 [.tmp 2] c_ref09_Local := ⟨⟨_, _, Try.func20, rfl, rfl, by kernel_rfl, by kernel_rfl⟩⟩
def c_mail_Format : SCode :=
  .seq (.reg [⟨some 1, .box 32 (.t 0), none⟩,
    ⟨some 2, .mv (.c (.s [])), none⟩])
  (.seq (.drw [⟨some 3, .fad 0 (.t 1), none⟩,
    ⟨some 4, .load1 (.t 3), none⟩,
    ⟨some 5, .call 47 [.t 4, .c (.s [33, 36, 39, 42, 43])], none⟩,
    ⟨some 6, .bin .add (.c (.s [109, 97, 105, 108, 116, 111, 58])) (.t 5), none⟩,
    ⟨some 7, .bin .add (.t 6) (.c (.s [64])), none⟩,
    ⟨some 8, .fad 1 (.t 1), none⟩,
    ⟨some 9, .load1 (.t 8), none⟩,
    ⟨some 10, .bin .add (.t 7) (.t 9), none⟩,
    ⟨some 2, .mv (.t 10), none⟩] 9)
  (.ret))
theorem is_mail_Format : FnIs Try.prog 21 11 [.tmp 2] c_mail_Format := ⟨⟨_, _, Try.func21, rfl, rfl, by kernel_rfl, by kernel_rfl⟩⟩
def c_ref09_Format : SCode :=
  .seq (.reg [⟨some 1, .box 32 (.t 0), none⟩,
    ⟨some 2, .mv (.c (.s [])), none⟩])
  (.seq (.drw [⟨some 3, .fad 0 (.t 1), none⟩,
    ⟨some 4, .load1 (.t 3), none⟩,
    ⟨some 5, .call 48 [.t 4, .c (.s [33, 36, 39, 42, 43])], none⟩,
    ⟨some 6, .bin .add (.c (.s [109, 97, 105, 108, 116, 111, 58])) (.t 5), none⟩,
    ⟨some 7, .bin .add (.t 6) (.c (.s [64])), none⟩,
    ⟨some 8, .fad 1 (.t 1), none⟩,
    ⟨some 9, .load1 (.t 8), none⟩,
    ⟨some 10, .bin .add (.t 7) (.t 9), none⟩,
    ⟨some 2, .mv (.t 10), none⟩] 9)
  (.ret))
theorem is_ref09_Format : FnIs Try.prog 22 11 [.tmp 2] c_ref09_Format := ⟨⟨_, _, Try.func22, rfl, rfl, by kernel_rfl, by kernel_rfl⟩⟩
def c_law23_sane : SCode :=
  .seq (.reg [⟨some 0, .mv (.c (.b false)), none⟩])
  (.seq (.reg [⟨some 4, .call 24 [.c (.s [104, 116, 116, 112, 115, 58, 47, 47, 97, 46, 101, 120, 97, 109, 112, 108, 101, 47, 120, 63, 114, 61, 123, 117, 114, 105, 125]), .c (.s [97, 99, 99, 116, 58, 98, 64, 99, 46, 101, 120, 97, 109, 112, 108, 101])], none⟩,
    ⟨some 3, .mv (.t 4), none⟩,
    ⟨some 5, .ext (.t 3) 0, none⟩,
    ⟨some 6, .ext (.t 3) 1, none⟩,
    ⟨some 1, .mv (.t 5), none⟩,
    ⟨some 2, .mv (.t 6), none⟩])
  (.seq (.reg [⟨some 7, .mv (.t 2), none⟩,
    ⟨some 8, .bin .eql (.t 7) (.c (.i .i64 0)), none⟩,
    ⟨some 9, .mv (.t 8), none⟩,
    ⟨some 10, .mv (.t 1), some (9, true)⟩,
    ⟨some 11, .bin .eql (.t 10) (.c (.s [104, 116, 116, 112, 115, 58, 47, 47, 97, 46, 101, 120, 97, 109, 112, 108, 101, 47, 120, 63, 114, 61, 97, 99, 99, 116, 37, 51, 65, 98, 37, 52, 48, 99, 46, 101, 120, 97, 109, 112, 108, 101])), some (9, true)⟩,
    ⟨some 12, .pick (.t 9) (.t 11) (.c (.b false)), none⟩,
    ⟨some 13, .mv (.t 12), none⟩,
    ⟨some 14, .call 26 [.c (.s [123, 120, 125])], some (13, true)⟩,
    ⟨some 15, .not (.t 14), some (13, true)⟩,
    ⟨some 16, .pick (.t 13) (.t 15) (.c (.b false)), none⟩,
    ⟨some 17, .mv (.t 16), none⟩,
    ⟨some 18, .call 26 [.c (.s [])], some (17, true)⟩,
    ⟨some 19, .not (.t 18), some (17, true)⟩,
    ⟨some 20, .pick (.t 17) (.t 19) (.c (.b false)), none⟩,
    ⟨some 0, .mv (.t 20), none⟩])
  (.ret)))
theorem is_law23_sane : FnIs Try.prog 23 21 [.tmp 0] c_law23_sane := ⟨⟨_, _, Try.func23, rfl, rfl, by kernel_rfl, by kernel_rfl⟩⟩
def c_template_Expand : SCode :=
  .seq (.reg [⟨some 4, .mv (.c (.s [])), none⟩,
    ⟨some 5, .mv (.c (.i .i64 0)), none⟩])
  (.seq (.seq (.reg [⟨some 10, .mv (.t 0), none⟩,
    ⟨some 11, .lens (.t 10), none⟩,
    ⟨some 12, .bin .gtr (.t 11) (.c (.i .i64 4096)), none⟩])
  (.cond (.t 12)
   (.seq (.reg [⟨some 4, .mv (.c (.s [])), none⟩,
     ⟨some 5, .mv (.c (.i .i64 5)), none⟩])
   (.ret))
   (.skip)))
  (.seq (.reg [⟨some 14, .mv (.t 0), none⟩,
    ⟨some 15, .call 49 [.t 14], none⟩,
    ⟨some 13, .mv (.t 15), none⟩,
    ⟨some 16, .ext (.t 13) 0, none⟩,
    ⟨some 17, .ext (.t 13) 1, none⟩,
    ⟨some 6, .mv (.t 16), none⟩,
    ⟨some 7, .mv (.t 17), none⟩])
  (.seq (.seq (.reg [⟨some 18, .mv (.t 7), none⟩,
    ⟨some 19, .not (.t 18), none⟩])
  (.cond (.t 19)
   (.seq (.reg [⟨some 4, .mv (.c (.s [])), none⟩,
     ⟨some 5, .mv (.c (.i .i64 230)), none⟩])
   (.ret))
   (.skip)))
  (.seq (.reg [⟨some 20, .mv (.t 1), none⟩,
    ⟨some 21, .call 47 [.t 20, .c (.s [])], none⟩,
    ⟨some 8, .mv (.t 21), none⟩])
  (.seq (.reg [⟨some 22, .mv (.t 6), none⟩,
    ⟨some 23, .lenr (.t 22), none⟩,
    ⟨some 24, .bin .sub (.t 23) (.c (.i .i64 1)), none⟩,
    ⟨some 9, .mv (.t 24), none⟩])
  (.seq (.seq (.reg [⟨some 25, .mv (.t 0), none⟩,
    ⟨some 26, .lens (.t 25), none⟩,
    ⟨some 27, .mv (.t 9), none⟩,
    ⟨some 28, .mv (.t 8), none⟩,
    ⟨some 29, .lens (.t 28), none⟩,
    ⟨some 30, .bin .sub (.t 29) (.c (.i .i64 5)), none⟩,
    ⟨some 31, .bin .mul (.t 27) (.t 30), none⟩,
    ⟨some 32, .bin .add (.t 26) (.t 31), none⟩,
    ⟨some 33, .bin .gtr (.t 32) (.c (.i .i64 4096)), none⟩])
  (.cond (.t 33)
   (.seq (.reg [⟨some 4, .mv (.c (.s [])), none⟩,
     ⟨some 5, .mv (.c (.i .i64 5)), none⟩])
   (.ret))
   (.skip)))
  (.seq (.reg [⟨some 34, .mv (.t 6), none⟩,
    ⟨some 35, .mv (.t 8), none⟩,
    ⟨some 36, .call 50 [.t 34, .t 35], none⟩,
    ⟨some 4, .mv (.t 36), none⟩,
    ⟨some 5, .mv (.c (.i .i64 0)), none⟩])
  (.ret))))))))
theorem is_template_Expand : FnIs Try.prog 24 37 [.tmp 4, .tmp 5] c_template_Expand := ⟨⟨_, _, Try.func24, rfl, rfl, by kernel_rfl, by kernel_rfl⟩⟩
def c_ref23_Expand : SCode :=
  .seq (.reg [⟨some 4, .mv (.c (.s [])), none⟩,
    ⟨some 5, .mv (.c (.i .i64 0)), none⟩])
  (.seq (.seq (.reg [⟨some 11, .mv (.t 0), none⟩,
    ⟨some 12, .lens (.t 11), none⟩,
    ⟨some 13, .bin .gtr (.t 12) (.c (.i .i64 4096)), none⟩])
  (.cond (.t 13)
   (.seq (.reg [⟨some 4, .mv (.c (.s [])), none⟩,
     ⟨some 5, .mv (.c (.i .i64 5)), none⟩])
   (.ret))
   (.skip)))
  (.seq (.reg [⟨some 15, .mv (.t 0), none⟩,
    ⟨some 16, .call 51 [.t 15], none⟩,
    ⟨some 14, .mv (.t 16), none⟩,
    ⟨some 17, .ext (.t 14) 0, none⟩,
    ⟨some 18, .ext (.t 14) 1, none⟩,
    ⟨some 6, .mv (.t 17), none⟩,
    ⟨some 7, .mv (.t 18), none⟩])
  (.seq (.seq (.reg [⟨some 19, .mv (.t 7), none⟩,
    ⟨some 20, .not (.t 19), none⟩])
  (.cond (.t 20)
   (.seq (.reg [⟨some 4, .mv (.c (.s [])), none⟩,
     ⟨some 5, .mv (.c (.i .i64 230)), none⟩])
   (.ret))
   (.skip)))
  (.seq (.reg [⟨some 8, .mv (.c (.s [])), none⟩])
  (.seq (.seq (.reg [⟨some 21, .mv (.t 6), none⟩,
    ⟨some 22, .lenr (.t 21), none⟩,
    ⟨some 23, .mv (.c (.i .i64 0)), none⟩])
  (.blk 0
   (.loop
    (.seq (.reg [⟨some 24, .bin .lss (.t 23) (.t 22), none⟩])
    (.seq (.cond (.t 24)
     (.skip)
     (.exit 0))
    (.seq (.blk 1
     (.seq (.reg [⟨some 25, .mv (.t 23), none⟩,
       ⟨some 26, .iad 1 (.t 21) (.t 23), none⟩,
       ⟨some 27, .load1 (.t 26), none⟩,
       ⟨some 9, .mv (.t 25), none⟩,
       ⟨some 10, .mv (.t 27), none⟩])
     (.seq (.seq (.reg [⟨some 28, .mv (.t 9), none⟩,
       ⟨some 29, .bin .gtr (.t 28) (.c (.i .i64 0)), none⟩])
     (.cond (.t 29)
      (.seq (.reg [⟨some 30, .mv (.t 8), none⟩,
        ⟨some 31, .mv (.t 1), none⟩,
        ⟨some 32, .call 48 [.t 31, .c (.s [])], none⟩,
        ⟨some 33, .bin .add (.t 30) (.t 32), none⟩,
        ⟨some 8, .mv (.t 33), none⟩])
      (.seq (.reg [⟨some 34, .mv (.t 8), none⟩,
        ⟨some 35, .lens (.t 34), none⟩,
        ⟨some 36, .bin .gtr (.t 35) (.c (.i .i64 4096)), none⟩])
      (.cond (.t 36)
       (.seq (.reg [⟨some 4, .mv (.c (.s [])), none⟩,
         ⟨some 5, .mv (.c (.i .i64 5)), none⟩])
       (.ret))
       (.skip))))
      (.skip)))
     (.reg [⟨some 37, .mv (.t 8), none⟩,
       ⟨some 38, .mv (.t 10), none⟩,
       ⟨some 39, .bin .add (.t 37) (.t 38), none⟩,
       ⟨some 8, .mv (.t 39), none⟩]))))
    (.reg [⟨some 40, .bin .add (.t 23) (.c (.i .i64 1)), none⟩,
      ⟨some 23, .mv (.t 40), none⟩])))))))
  (.seq (.seq (.reg [⟨some 41, .mv (.t 8), none⟩,
    ⟨some 42, .lens (.t 41), none⟩,
    ⟨some 43, .bin .gtr (.t 42) (.c (.i .i64 4096)), none⟩])
  (.cond (.t 43)
   (.seq (.reg [⟨some 4, .mv (.c (.s [])), none⟩,
     ⟨some 5, .mv (.c (.i .i64 5)), none⟩])
   (.ret))
   (.skip)))
  (.seq (.reg [⟨some 44, .mv (.t 8), none⟩,
    ⟨some 4, .mv (.t 44), none⟩,
    ⟨some 5, .mv (.c (.i .i64 0)), none⟩])
  (.ret))))))))
theorem is_ref23_Expand : FnIs Try.prog 25 45 [.tmp 4, .tmp 5] c_ref23_Expand := ⟨⟨_, _, Try.func25, rfl, rfl, by kernel_rfl, by kernel_rfl⟩⟩
def c_template_Valid : SCode :=
  .seq (.reg [⟨some 2, .mv (.c (.b false)), none⟩])
  (.seq (.reg [⟨some 6, .mv (.t 0), none⟩,
    ⟨some 7, .call 49 [.t 6], none⟩,
    ⟨some 5, .mv (.t 7), none⟩,
    ⟨some 8, .ext (.t 5) 0, none⟩,
    ⟨some 9, .ext (.t 5) 1, none⟩,
    ⟨some 3, .mv (.t 8), none⟩,
    ⟨some 4, .mv (.t 9), none⟩])
  (.seq (.reg [⟨some 10, .mv (.t 4), none⟩,
    ⟨some 2, .mv (.t 10), none⟩])
  (.ret)))
theorem is_template_Valid : FnIs Try.prog 26 11 [.tmp 2] c_template_Valid := ⟨⟨_, _, Try.func26, rfl, rfl, by kernel_rfl, by kernel_rfl⟩⟩
def c_ref23_Valid : SCode :=
  .seq (.reg [⟨some 2, .mv (.c (.b false)), none⟩])
  (.seq (.reg [⟨some 6, .mv (.t 0), none⟩,
    ⟨some 7, .call 51 [.t 6], none⟩,
    ⟨some 5, .mv (.t 7), none⟩,
    ⟨some 8, .ext (.t 5) 0, none⟩,
    ⟨some 9, .ext (.t 5) 1, none⟩,
    ⟨some 3, .mv (.t 8), none⟩,
    ⟨some 4, .mv (.t 9), none⟩])
  (.seq (.reg [⟨some 10, .mv (.t 4), none⟩,
    ⟨some 2, .mv (.t 10), none⟩])
  (.ret)))
theorem is_ref23_Valid : FnIs Try.prog 27 11 [.tmp 2] c_ref23_Valid := ⟨⟨_, _, Try.func27, rfl, rfl, by kernel_rfl, by kernel_rfl⟩⟩
def c_ref01_Index : SCode :=
  .seq (.reg [⟨some 4, .mv (.c (.i .i64 0)), none⟩])
  (.seq (.seq (.reg [⟨some 5, .mv (.c (.i .i64 0)), none⟩])
  (.blk 0
   (.loop
    (.seq (.seq (.reg [⟨some 6, .mv (.t 5), none⟩,
      ⟨some 7, .mv (.t 0), none⟩,
      ⟨some 8, .lens (.t 7), none⟩,
      ⟨some 9, .bin .lss (.t 6) (.t 8), none⟩])
    (.cond (.t 9)
     (.skip)
     (.exit 0)))
    (.seq (.blk 1
     (.seq (.reg [⟨some 12, .mv (.t 0), none⟩,
       ⟨some 13, .mv (.t 5), none⟩,
       ⟨some 14, .idx (.t 12) (.t 13), none⟩,
       ⟨some 15, .mv (.t 1), none⟩,
       ⟨some 16, .call 42 [.t 14, .t 15], none⟩])
     (.cond (.t 16)
      (.seq (.reg [⟨some 17, .mv (.t 5), none⟩,
        ⟨some 4, .mv (.t 17), none⟩])
      (.ret))
      (.skip))))
    (.reg [⟨some 10, .mv (.t 5), none⟩,
      ⟨some 11, .bin .add (.t 10) (.c (.i .i64 1)), none⟩,
      ⟨some 5, .mv (.t 11), none⟩]))))))
  (.seq (.reg [⟨some 18, .mv (.t 0), none⟩,
    ⟨some 19, .lens (.t 18), none⟩,
    ⟨some 4, .mv (.t 19), none⟩])
  (.ret)))
theorem is_ref01_Index : FnIs Try.prog 28 20 [.tmp 4] c_ref01_Index := ⟨⟨_, _, Try.func28, rfl, rfl, by kernel_rfl, by kernel_rfl⟩⟩
def c_ref03_Decode : SCode :=
  .seq (.reg [⟨some 2, .mv (.c (.s [])), none⟩,
    ⟨some 3, .mv (.c (.i .i64 0)), none⟩])
  (.seq (.seq (.reg [⟨some 9, .mv (.t 0), none⟩,
    ⟨some 10, .lens (.t 9), none⟩,
    ⟨some 11, .bin .gtr (.t 10) (.c (.i .i64 16384)), none⟩])
  (.cond (.t 11)
   (.seq (.reg [⟨some 2, .mv (.c (.s [])), none⟩,
     ⟨some 3, .mv (.c (.i .i64 5)), none⟩])
   (.ret))
   (.skip)))
  (.seq (.reg [⟨some 4, .mv (.c .nil), none⟩])
  (.seq (.seq (.reg [⟨some 5, .mv (.c (.i .i64 0)), none⟩])
  (.blk 0
   (.loop
    (.seq (.seq (.reg [⟨some 12, .mv (.t 5), none⟩,
      ⟨some 13, .mv (.t 0), none⟩,
      ⟨some 14, .lens (.t 13), none⟩,
      ⟨some 15, .bin .lss (.t 12) (.t 14), none⟩])
    (.cond (.t 15)
     (.skip)
     (.exit 0)))
    (.seq (.blk 1
     (.seq (.reg [⟨some 18, .mv (.t 0), none⟩,
       ⟨some 19, .mv (.t 5), none⟩,
       ⟨some 20, .idx (.t 18) (.t 19), none⟩,
       ⟨some 6, .mv (.t 20), none⟩])
     (.seq (.seq (.reg [⟨some 21, .mv (.t 6), none⟩,
       ⟨some 22, .bin .eql (.t 21) (.c (.i .u8 37)), none⟩])
     (.cond (.t 22)
      (.seq (.reg [⟨some 24, .mv (.t 0), none⟩,
        ⟨some 25, .mv (.t 5), none⟩,
        ⟨some 26, .call 52 [.t 24, .t 25], none⟩,
        ⟨some 23, .mv (.t 26), none⟩,
        ⟨some 27, .ext (.t 23) 0, none⟩,
        ⟨some 28, .ext (.t 23) 1, none⟩,
        ⟨some 7, .mv (.t 27), none⟩,
        ⟨some 8, .mv (.t 28), none⟩])
      (.seq (.seq (.reg [⟨some 29, .mv (.t 8), none⟩,
        ⟨some 30, .not (.t 29), none⟩])
      (.cond (.t 30)
       (.seq (.reg [⟨some 2, .mv (.c (.s [])), none⟩,
         ⟨some 3, .mv (.c (.i .i64 2)), none⟩])
       (.ret))
       (.skip)))
      (.reg [⟨some 31, .mv (.t 7), none⟩,
        ⟨some 32, .mv (.t 5), none⟩,
        ⟨some 33, .bin .add (.t 32) (.c (.i .i64 2)), none⟩,
        ⟨some 6, .mv (.t 31), none⟩,
        ⟨some 5, .mv (.t 33), none⟩])))
      (.skip)))
     (.reg [⟨some 34, .mv (.t 4), none⟩,
       ⟨some 35, .mv (.t 6), none⟩,
       ⟨some 36, .bslice 1 [.i .u8 0] [(0, (1, .t 35))], none⟩,
       ⟨some 37, .app 5 1 1 (.t 34) (.t 36), none⟩,
       ⟨some 4, .mv (.t 37), none⟩]))))
    (.reg [⟨some 16, .mv (.t 5), none⟩,
      ⟨some 17, .bin .add (.t 16) (.c (.i .i64 1)), none⟩,
      ⟨some 5, .mv (.t 17), none⟩]))))))
  (.seq (.reg [⟨some 38, .mv (.t 4), none⟩,
    ⟨some 39, .cvbs (.t 38), none⟩,
    ⟨some 2, .mv (.t 39), none⟩,
    ⟨some 3, .mv (.c (.i .i64 0)), none⟩])
  (.ret)))))
theorem is_ref03_Decode : FnIs Try.prog 29 40 [.tmp 2, .tmp 3] c_ref03_Decode := ⟨⟨_, _, Try.func29, rfl, rfl, by kernel_rfl, by kernel_rfl⟩⟩
def c_ascii_Equal : SCode :=
  .seq (.reg [⟨some 4, .mv (.c (.b false)), none⟩])
  (.seq (.seq (.reg [⟨some 6, .mv (.t 0), none⟩,
    ⟨some 7, .lens (.t 6), none⟩,
    ⟨some 8, .mv (.t 1), none⟩,
    ⟨some 9, .lens (.t 8), none⟩,
    ⟨some 10, .bin .neq (.t 7) (.t 9), none⟩])
  (.cond (.t 10)
   (.seq (.reg [⟨some 4, .mv (.c (.b false)), none⟩])
   (.ret))
   (.skip)))
  (.seq (.seq (.reg [⟨some 11, .mv (.t 0), none⟩,
    ⟨some 12, .lens (.t 11), none⟩,
    ⟨some 13, .mv (.c (.i .i64 0)), none⟩])
  (.blk 0
   (.loop
    (.seq (.reg [⟨some 14, .bin .lss (.t 13) (.t 12), none⟩])
    (.seq (.cond (.t 14)
     (.skip)
     (.exit 0))
    (.seq (.blk 1
     (.seq (.reg [⟨some 15, .mv (.t 13), none⟩,
       ⟨some 5, .mv (.t 15), none⟩])
     (.seq (.drw [⟨some 16, .mv (.t 0), none⟩,
       ⟨some 17, .mv (.t 5), none⟩,
       ⟨some 18, .idx (.t 16) (.t 17), none⟩,
       ⟨some 19, .call 53 [.t 18], none⟩,
       ⟨some 20, .mv (.t 1), none⟩,
       ⟨some 21, .mv (.t 5), none⟩,
       ⟨some 22, .idx (.t 20) (.t 21), none⟩,
       ⟨some 23, .call 53 [.t 22], none⟩,
       ⟨some 24, .bin .neq (.t 19) (.t 23), none⟩] 9)
     (.cond (.t 24)
      (.seq (.reg [⟨some 4, .mv (.c (.b false)), none⟩])
      (.ret))
      (.skip)))))
    (.reg [⟨some 25, .bin .add (.t 13) (.c (.i .i64 1)), none⟩,
      ⟨some 13, .mv (.t 25), none⟩])))))))
  (.seq (.reg [⟨some 4, .mv (.c (.b true)), none⟩])
  (.ret))))
theorem is_ascii_Equal : FnIs Try.prog 30 26 [.tmp 4] c_ascii_Equal := ⟨⟨_, _, Try.func30, rfl, rfl, by kernel_rfl, by kernel_rfl⟩⟩
def c_acct_cutParts : SCode :=
  .seq (.reg [⟨some 2, .mv (.c (.s [])), none⟩,
    ⟨some 3, .mv (.c (.s [])), none⟩,
    ⟨some 4, .mv (.c (.b false)), none⟩])
  (.seq (.reg [⟨some 5, .mv (.t 0), none⟩,
    ⟨some 6, .call 37 [.t 5, .c (.s [64])], none⟩,
    ⟨some 7, .ext (.t 6) 0, none⟩,
    ⟨some 8, .ext (.t 6) 1, none⟩,
    ⟨some 9, .ext (.t 6) 2, none⟩,
    ⟨some 2, .mv (.t 7), none⟩,
    ⟨some 3, .mv (.t 8), none⟩,
    ⟨some 4, .mv (.t 9), none⟩])
  (.ret))
theorem is_acct_cutParts : FnIs Try.prog 31 10 [.tmp 2, .tmp 3, .tmp 4] c_acct_cutParts := ⟨⟨_, _, Try.func31, rfl, rfl, by kernel_rfl, by kernel_rfl⟩⟩
def c_percent_Normalize : SCode :=
  .seq (.reg [⟨some 3, .box 9 (.t 1), none⟩,
    ⟨some 4, .mv (.c (.s [])), none⟩,
    ⟨some 5, .mv (.c (.i .i64 0)), none⟩])
  (.seq (.reg [⟨some 6, .mv (.t 0), none⟩,
    ⟨some 7, .mkf 55 [] [.t 3], none⟩,
    ⟨some 8, .call 54 [.t 6, .t 7], none⟩,
    ⟨some 9, .ext (.t 8) 0, none⟩,
    ⟨some 10, .ext (.t 8) 1, none⟩,
    ⟨some 4, .mv (.t 9), none⟩,
    ⟨some 5, .mv (.t 10), none⟩])
  (.ret))
theorem is_percent_Normalize : FnIs Try.prog 32 11 [.tmp 4, .tmp 5] c_percent_Normalize := ⟨⟨_, _, Try.func32, rfl, rfl, by kernel_rfl, by kernel_rfl⟩⟩
def c_host_Host : SCode :=
  .seq (.reg [⟨some 2, .mv (.c (.s [])), none⟩,
    ⟨some 3, .mv (.c (.i .i64 0)), none⟩])
  (.seq (.blk 0
   (.seq (.reg [⟨some 5, .mv (.t 0), none⟩,
     ⟨some 6, .bin .eql (.t 5) (.c (.s [])), none⟩,
     ⟨some 4, .mv (.t 6), none⟩])
   (.cond (.t 4)
    (.seq (.reg [⟨some 2, .mv (.c (.s [])), none⟩,
      ⟨some 3, .mv (.c (.i .i64 3)), none⟩])
    (.ret))
    (.seq (.reg [⟨some 8, .mv (.t 0), none⟩,
      ⟨some 9, .lens (.t 8), none⟩,
      ⟨some 10, .bin .gtr (.t 9) (.c (.i .i64 253)), none⟩,
      ⟨some 7, .mv (.t 10), none⟩])
    (.cond (.t 7)
     (.seq (.reg [⟨some 2, .mv (.c (.s [])), none⟩,
       ⟨some 3, .mv (.c (.i .i64 5)), none⟩])
     (.ret))
     (.seq (.reg [⟨some 12, .mv (.t 0), none⟩,
       ⟨some 13, .call 59 [.t 12], none⟩,
       ⟨some 14, .not (.t 13), none⟩,
       ⟨some 15, .mv (.t 14), none⟩,
       ⟨some 16, .mv (.t 0), some (15, true)⟩,
       ⟨some 17, .call 40 [.t 16], some (15, true)⟩,
       ⟨some 18, .not (.t 17), some (15, true)⟩,
       ⟨some 19, .pick (.t 15) (.t 18) (.c (.b false)), none⟩,
       ⟨some 11, .mv (.t 19), none⟩])
     (.cond (.t 11)
      (.seq (.reg [⟨some 2, .mv (.c (.s [])), none⟩,
        ⟨some 3, .mv (.c (.i .i64 50)), none⟩])
      (.ret))
      (.skip))))))))
  (.seq (.reg [⟨some 20, .mv (.t 0), none⟩,
    ⟨some 21, .call 60 [.t 20], none⟩,
    ⟨some 2, .mv (.t 21), none⟩,
    ⟨some 3, .mv (.c (.i .i64 0)), none⟩])
  (.ret)))
theorem is_host_Host : FnIs Try.prog 33 22 [.tmp 2, .tmp 3] c_host_Host := ⟨⟨_, _, Try.func33, rfl, rfl, by kernel_rfl, by kernel_rfl⟩⟩
def c_ref01_Equal : SCode :=
  .seq (.reg [⟨some 4, .mv (.c (.b false)), none⟩])
  (.seq (.reg [⟨some 5, .mv (.t 0), none⟩,
    ⟨some 6, .call 61 [.t 5], none⟩,
    ⟨some 7, .mv (.t 1), none⟩,
    ⟨some 8, .call 61 [.t 7], none⟩,
    ⟨some 9, .bin .eql (.t 6) (.t 8), none⟩,
    ⟨some 4, .mv (.t 9), none⟩])
  (.ret))
theorem is_ref01_Equal : FnIs Try.prog 34 10 [.tmp 4] c_ref01_Equal := ⟨⟨_, _, Try.func34, rfl, rfl, by kernel_rfl, by kernel_rfl⟩⟩
def c_ref03_Normalize : SCode :=
  .seq (.reg [⟨some 4, .mv (.c (.s [])), none⟩,
    ⟨some 5, .mv (.c (.i .i64 0)), none⟩])
  (.seq (.seq (.reg [⟨some 10, .mv (.t 0), none⟩,
    ⟨some 11, .lens (.t 10), none⟩,
    ⟨some 12, .bin .gtr (.t 11) (.c (.i .i64 16384)), none⟩])
  (.cond (.t 12)
   (.seq (.reg [⟨some 4, .mv (.c (.s [])), none⟩,
     ⟨some 5, .mv (.c (.i .i64 5)), none⟩])
   (.ret))
   (.skip)))
  (.seq (.reg [⟨some 6, .mv (.c .nil), none⟩])
  (.seq (.seq (.reg [⟨some 7, .mv (.c (.i .i64 0)), none⟩])
  (.blk 0
   (.loop
    (.seq (.seq (.reg [⟨some 13, .mv (.t 7), none⟩,
      ⟨some 14, .mv (.t 0), none⟩,
      ⟨some 15, .lens (.t 14), none⟩,
      ⟨some 16, .bin .lss (.t 13) (.t 15), none⟩])
    (.cond (.t 16)
     (.skip)
     (.exit 0)))
    (.seq (.blk 1
     (.seq (.seq (.reg [⟨some 19, .mv (.t 0), none⟩,
       ⟨some 20, .mv (.t 7), none⟩,
       ⟨some 21, .idx (.t 19) (.t 20), none⟩,
       ⟨some 22, .bin .neq (.t 21) (.c (.i .u8 37)), none⟩])
     (.cond (.t 22)
      (.seq (.seq (.reg [⟨some 23, .mv (.t 0), none⟩,
        ⟨some 24, .mv (.t 7), none⟩,
        ⟨some 25, .idx (.t 23) (.t 24), none⟩,
        ⟨some 26, .call 41 [.t 25], none⟩,
        ⟨some 27, .not (.t 26), none⟩,
        ⟨some 28, .mv (.t 27), none⟩,
        ⟨some 29, .mv (.t 0), some (28, true)⟩,
        ⟨some 30, .mv (.t 7), some (28, true)⟩,
        ⟨some 31, .idx (.t 29) (.t 30), some (28, true)⟩,
        ⟨some 32, .mv (.t 1), some (28, true)⟩,
        ⟨some 33, .call 42 [.t 31, .t 32], some (28, true)⟩,
        ⟨some 34, .not (.t 33), some (28, true)⟩,
        ⟨some 35, .pick (.t 28) (.t 34) (.c (.b false)), none⟩])
      (.cond (.t 35)
       (.seq (.reg [⟨some 4, .mv (.c (.s [])), none⟩,
         ⟨some 5, .mv (.c (.i .i64 1)), none⟩])
       (.ret))
       (.skip)))
      (.seq (.reg [⟨some 36, .mv (.t 6), none⟩,
        ⟨some 37, .mv (.t 0), none⟩,
        ⟨some 38, .mv (.t 7), none⟩,
        ⟨some 39, .idx (.t 37) (.t 38), none⟩,
        ⟨some 40, .bslice 1 [.i .u8 0] [(0, (1, .t 39))], none⟩,
        ⟨some 41, .app 5 1 1 (.t 36) (.t 40), none⟩,
        ⟨some 6, .mv (.t 41), none⟩])
      (.exit 1)))
      (.skip)))
     (.seq (.reg [⟨some 43, .mv (.t 0), none⟩,
       ⟨some 44, .mv (.t 7), none⟩,
       ⟨some 45, .call 52 [.t 43, .t 44], none⟩,
       ⟨some 42, .mv (.t 45), none⟩,
       ⟨some 46, .ext (.t 42) 0, none⟩,
       ⟨some 47, .ext (.t 42) 1, none⟩,
       ⟨some 8, .mv (.t 46), none⟩,
       ⟨some 9, .mv (.t 47), none⟩])
     (.seq (.seq (.reg [⟨some 48, .mv (.t 9), none⟩,
       ⟨some 49, .not (.t 48), none⟩])
     (.cond (.t 49)
      (.seq (.reg [⟨some 4, .mv (.c (.s [])), none⟩,
        ⟨some 5, .mv (.c (.i .i64 2)), none⟩])
      (.ret))
      (.skip)))
     (.seq (.seq (.reg [⟨some 50, .mv (.t 8), none⟩,
       ⟨some 51, .call 41 [.t 50], none⟩])
     (.cond (.t 51)
      (.reg [⟨some 52, .mv (.t 6), none⟩,
        ⟨some 53, .mv (.t 8), none⟩,
        ⟨some 54, .bslice 1 [.i .u8 0] [(0, (1, .t 53))], none⟩,
        ⟨some 55, .app 5 1 1 (.t 52) (.t 54), none⟩,
        ⟨some 6, .mv (.t 55), none⟩])
      (.reg [⟨some 56, .mv (.t 6), none⟩,
        ⟨some 57, .mv (.t 8), none⟩,
        ⟨some 58, .call 62 [.t 57], none⟩,
        ⟨some 59, .apps 5 (.t 56) (.t 58), none⟩,
        ⟨some 6, .mv (.t 59), none⟩])))
     (.reg [⟨some 60, .mv (.t 7), none⟩,
       ⟨some 61, .bin .add (.t 60) (.c (.i .i64 2)), none⟩,
       ⟨some 7, .mv (.t 61), none⟩]))))))
    (.reg [⟨some 17, .mv (.t 7), none⟩,
      ⟨some 18, .bin .add (.t 17) (.c (.i .i64 1)), none⟩,
      ⟨some 7, .mv (.t 18), none⟩]))))))
  (.seq (.reg [⟨some 62, .mv (.t 6), none⟩,
    ⟨some 63, .cvbs (.t 62), none⟩,
    ⟨some 4, .mv (.t 63), none⟩,
    ⟨some 5, .mv (.c (.i .i64 0)), none⟩])
  (.ret)))))
theorem is_ref03_Normalize : FnIs Try.prog 35 64 [.tmp 4, .tmp 5] c_ref03_Normalize := ⟨⟨_, _, Try.func35, rfl, rfl, by kernel_rfl, by kernel_rfl⟩⟩
def c_ref05_Host : SCode :=
  .seq (.reg [⟨some 2, .mv (.c (.s [])), none⟩,
    ⟨some 3, .mv (.c (.i .i64 0)), none⟩])
  (.seq (.blk 0
   (.seq (.reg [⟨some 5, .mv (.t 0), none⟩,
     ⟨some 6, .bin .eql (.t 5) (.c (.s [])), none⟩,
     ⟨some 4, .mv (.t 6), none⟩])
   (.cond (.t 4)
    (.seq (.reg [⟨some 2, .mv (.c (.s [])), none⟩,
      ⟨some 3, .mv (.c (.i .i64 3)), none⟩])
    (.ret))
    (.seq (.reg [⟨some 8, .mv (.t 0), none⟩,
      ⟨some 9, .lens (.t 8), none⟩,
      ⟨some 10, .bin .gtr (.t 9) (.c (.i .i64 253)), none⟩,
      ⟨some 7, .mv (.t 10), none⟩])
    (.cond (.t 7)
     (.seq (.reg [⟨some 2, .mv (.c (.s [])), none⟩,
       ⟨some 3, .mv (.c (.i .i64 5)), none⟩])
     (.ret))
     (.seq (.reg [⟨some 12, .mv (.t 0), none⟩,
       ⟨some 13, .call 43 [.t 12], none⟩,
       ⟨some 14, .not (.t 13), none⟩,
       ⟨some 15, .mv (.t 14), none⟩,
       ⟨some 16, .mv (.t 0), some (15, true)⟩,
       ⟨some 17, .call 63 [.t 16], some (15, true)⟩,
       ⟨some 18, .not (.t 17), some (15, true)⟩,
       ⟨some 19, .pick (.t 15) (.t 18) (.c (.b false)), none⟩,
       ⟨some 11, .mv (.t 19), none⟩])
     (.cond (.t 11)
      (.seq (.reg [⟨some 2, .mv (.c (.s [])), none⟩,
        ⟨some 3, .mv (.c (.i .i64 50)), none⟩])
      (.ret))
      (.skip))))))))
  (.seq (.reg [⟨some 20, .mv (.t 0), none⟩,
    ⟨some 21, .call 61 [.t 20], none⟩,
    ⟨some 2, .mv (.t 21), none⟩,
    ⟨some 3, .mv (.c (.i .i64 0)), none⟩])
  (.ret)))
theorem is_ref05_Host : FnIs Try.prog 36 22 [.tmp 2, .tmp 3] c_ref05_Host := ⟨⟨_, _, Try.func36, rfl, rfl, by kernel_rfl, by kernel_rfl⟩⟩
def c_mail_parseLocal : SCode :=
  .seq (.reg [⟨some 2, .mv (.c (.s [])), none⟩,
    ⟨some 3, .mv (.c (.i .i64 0)), none⟩])
  (.seq (.seq (.reg [⟨some 7, .mv (.t 0), none⟩,
    ⟨some 8, .lens (.t 7), none⟩,
    ⟨some 9, .mv (.c (.i .i64 0)), none⟩])
  (.blk 0
   (.loop
    (.seq (.reg [⟨some 10, .bin .lss (.t 9) (.t 8), none⟩])
    (.seq (.cond (.t 10)
     (.skip)
     (.exit 0))
    (.seq (.blk 1
     (.seq (.reg [⟨some 11, .mv (.t 9), none⟩,
       ⟨some 4, .mv (.t 11), none⟩])
     (.seq (.reg [⟨some 12, .mv (.t 0), none⟩,
       ⟨some 13, .mv (.t 4), none⟩,
       ⟨some 14, .idx (.t 12) (.t 13), none⟩,
       ⟨some 15, .call 56 [.t 14], none⟩,
       ⟨some 16, .not (.t 15), none⟩,
       ⟨some 17, .mv (.t 16), none⟩,
       ⟨some 18, .mv (.t 0), some (17, true)⟩,
       ⟨some 19, .mv (.t 4), some (17, true)⟩,
       ⟨some 20, .idx (.t 18) (.t 19), some (17, true)⟩,
       ⟨some 21, .call 66 [.t 20, .c (.s [37, 33, 36, 39, 42, 43])], some (17, true)⟩,
       ⟨some 22, .not (.t 21), some (17, true)⟩,
       ⟨some 23, .pick (.t 17) (.t 22) (.c (.b false)), none⟩])
     (.cond (.t 23)
      (.seq (.reg [⟨some 2, .mv (.c (.s [])), none⟩,
        ⟨some 3, .mv (.c (.i .i64 1)), none⟩])
      (.ret))
      (.skip)))))
    (.reg [⟨some 24, .bin .add (.t 9) (.c (.i .i64 1)), none⟩,
      ⟨some 9, .mv (.t 24), none⟩])))))))
  (.seq (.reg [⟨some 26, .mv (.t 0), none⟩,
    ⟨some 27, .call 67 [.t 26], none⟩,
    ⟨some 25, .mv (.t 27), none⟩,
    ⟨some 28, .ext (.t 25) 0, none⟩,
    ⟨some 29, .ext (.t 25) 1, none⟩,
    ⟨some 5, .mv (.t 28), none⟩,
    ⟨some 6, .mv (.t 29), none⟩])
  (.seq (.seq (.reg [⟨some 30, .mv (.t 6), none⟩,
    ⟨some 31, .bin .neq (.t 30) (.c (.i .i64 0)), none⟩])
  (.cond (.t 31)
   (.seq (.reg [⟨some 32, .mv (.t 6), none⟩,
     ⟨some 2, .mv (.c (.s [])), none⟩,
     ⟨some 3, .mv (.t 32), none⟩])
   (.ret))
   (.skip)))
  (.seq (.seq (.reg [⟨some 33, .mv (.t 5), none⟩,
    ⟨some 34, .call 19 [.t 33], none⟩,
    ⟨some 35, .not (.t 34), none⟩])
  (.cond (.t 35)
   (.seq (.reg [⟨some 2, .mv (.c (.s [])), none⟩,
     ⟨some 3, .mv (.c (.i .i64 80)), none⟩])
   (.ret))
   (.skip)))
  (.seq (.reg [⟨some 36, .mv (.t 5), none⟩,
    ⟨some 2, .mv (.t 36), none⟩,
    ⟨some 3, .mv (.c (.i .i64 0)), none⟩])
  (.ret))))))
theorem is_mail_parseLocal : FnIs Try.prog 39 37 [.tmp 2, .tmp 3] c_mail_parseLocal := ⟨⟨_, _, Try.func39, rfl, rfl, by kernel_rfl, by kernel_rfl⟩⟩
def c_host_IsIPv4 : SCode :=
  .seq (.reg [⟨some 2, .mv (.c (.b false)), none⟩])
  (.seq (.reg [⟨some 11, .mv (.t 0), none⟩,
    ⟨some 3, .mv (.t 11), none⟩])
  (.seq (.seq (.reg [⟨some 12, .mv (.c (.i .i64 0)), none⟩])
  (.blk 0
   (.loop
    (.seq (.reg [⟨some 13, .bin .lss (.t 12) (.c (.i .i64 4)), none⟩])
    (.seq (.cond (.t 13)
     (.skip)
     (.exit 0))
    (.seq (.blk 1
     (.seq (.reg [⟨some 14, .mv (.t 12), none⟩,
       ⟨some 4, .mv (.t 14), none⟩])
     (.seq (.reg [⟨some 16, .mv (.t 3), none⟩,
       ⟨some 17, .call 37 [.t 16, .c (.s [46])], none⟩,
       ⟨some 15, .mv (.t 17), none⟩,
       ⟨some 18, .ext (.t 15) 0, none⟩,
       ⟨some 19, .ext (.t 15) 1, none⟩,
       ⟨some 20, .ext (.t 15) 2, none⟩,
       ⟨some 5, .mv (.t 18), none⟩,
       ⟨some 6, .mv (.t 19), none⟩,
       ⟨some 7, .mv (.t 20), none⟩])
     (.seq (.seq (.reg [⟨some 21, .mv (.t 4), none⟩,
       ⟨some 22, .bin .eql (.t 21) (.c (.i .i64 3)), none⟩,
       ⟨some 8, .mv (.t 22), none⟩])
     (.seq (.reg [⟨some 23, .mv (.t 7), none⟩,
       ⟨some 24, .mv (.t 8), none⟩,
       ⟨some 25, .beq false (.t 23) (.t 24), none⟩])
     (.cond (.t 25)
      (.seq (.reg [⟨some 2, .mv (.c (.b false)), none⟩])
      (.ret))
      (.skip))))
     (.seq (.seq (.reg [⟨some 27, .mv (.t 5), none⟩,
       ⟨some 28, .call 68 [.t 27, .c (.i .u64 255)], none⟩,
       ⟨some 26, .mv (.t 28), none⟩,
       ⟨some 29, .ext (.t 26) 0, none⟩,
       ⟨some 30, .ext (.t 26) 1, none⟩,
       ⟨some 9, .mv (.t 29), none⟩,
       ⟨some 10, .mv (.t 30), none⟩])
     (.seq (.reg [⟨some 31, .mv (.t 10), none⟩,
       ⟨some 32, .bin .neq (.t 31) (.c (.i .i64 0)), none⟩])
     (.cond (.t 32)
      (.seq (.reg [⟨some 2, .mv (.c (.b false)), none⟩])
      (.ret))
      (.skip))))
     (.reg [⟨some 33, .mv (.t 6), none⟩,
       ⟨some 3, .mv (.t 33), none⟩]))))))
    (.reg [⟨some 34, .bin .add (.t 12) (.c (.i .i64 1)), none⟩,
      ⟨some 12, .mv (.t 34), none⟩])))))))
  (.seq (.reg [⟨some 2, .mv (.c (.b true)), none⟩])
  (.ret))))
theorem is_host_IsIPv4 : FnIs Try.prog 40 35 [.tmp 2] c_host_IsIPv4 := ⟨⟨_, _, Try.func40, rfl, rfl, by kernel_rfl, by kernel_rfl⟩⟩
def c_ref01_IsUnreserved : SCode :=
  .seq (.reg [⟨some 2, .mv (.c (.b false)), none⟩])
  (.seq (.reg [⟨some 3, .mv (.t 0), none⟩,
    ⟨some 4, .call 69 [.t 3], none⟩,
    ⟨some 5, .mv (.t 4), none⟩,
    ⟨some 6, .mv (.t 0), some (5, false)⟩,
    ⟨some 7, .call 70 [.t 6], some (5, false)⟩,
    ⟨some 8, .pick (.t 5) (.c (.b true)) (.t 7), none⟩,
    ⟨some 9, .mv (.t 8), none⟩,
    ⟨some 10, .mv (.t 0), some (9, false)⟩,
    ⟨some 11, .call 42 [.t 10, .c (.s [45, 46, 95, 126])], some (9, false)⟩,
    ⟨some 12, .pick (.t 9) (.c (.b true)) (.t 11), none⟩,
    ⟨some 2, .mv (.t 12), none⟩])
  (.ret))
theorem is_ref01_IsUnreserved : FnIs Try.prog 41 13 [.tmp 2] c_ref01_IsUnreserved := ⟨⟨_, _, Try.func41, rfl, rfl, by kernel_rfl, by kernel_rfl⟩⟩
def c_ref01_In : SCode :=
  .seq (.reg [⟨some 4, .mv (.c (.b false)), none⟩])
  (.seq (.seq (.reg [⟨some 5, .mv (.c (.i .i64 0)), none⟩])
  (.blk 0
   (.loop
    (.seq (.seq (.reg [⟨some 6, .mv (.t 5), none⟩,
      ⟨some 7, .mv (.t 1), none⟩,
      ⟨some 8, .lens (.t 7), none⟩,
      ⟨some 9, .bin .lss (.t 6) (.t 8), none⟩])
    (.cond (.t 9)
     (.skip)
     (.exit 0)))
    (.seq (.blk 1
     (.seq (.reg [⟨some 12, .mv (.t 1), none⟩,
       ⟨some 13, .mv (.t 5), none⟩,
       ⟨some 14, .idx (.t 12) (.t 13), none⟩,
       ⟨some 15, .mv (.t 0), none⟩,
       ⟨some 16, .bin .eql (.t 14) (.t 15), none⟩])
     (.cond (.t 16)
      (.seq (.reg [⟨some 4, .mv (.c (.b true)), none⟩])
      (.ret))
      (.skip))))
    (.reg [⟨some 10, .mv (.t 5), none⟩,
      ⟨some 11, .bin .add (.t 10) (.c (.i .i64 1)), none⟩,
      ⟨some 5, .mv (.t 11), none⟩]))))))
  (.seq (.reg [⟨some 4, .mv (.c (.b false)), none⟩])
  (.ret)))
theorem is_ref01_In : FnIs Try.prog 42 17 [.tmp 4] c_ref01_In := ⟨⟨_, _, Try.func42, rfl, rfl, by kernel_rfl, by kernel_rfl⟩⟩
def c_ref05_IsIPv4 : SCode :=
  .seq (.reg [⟨some 2, .mv (.c (.b false)), none⟩])
  (.seq (.reg [⟨some 8, .mv (.t 0), none⟩,
    ⟨some 9, .call 45 [.t 8, .c (.i .u8 46)], none⟩,
    ⟨some 3, .mv (.t 9), none⟩])
  (.seq (.seq (.reg [⟨some 10, .mv (.t 3), none⟩,
    ⟨some 11, .lenr (.t 10), none⟩,
    ⟨some 12, .mv (.c (.i .i64 0)), none⟩])
  (.blk 0
   (.loop
    (.seq (.reg [⟨some 13, .bin .lss (.t 12) (.t 11), none⟩])
    (.seq (.cond (.t 13)
     (.skip)
     (.exit 0))
    (.seq (.blk 1
     (.seq (.reg [⟨some 14, .iad 1 (.t 10) (.t 12), none⟩,
       ⟨some 15, .load1 (.t 14), none⟩,
       ⟨some 5, .mv (.t 15), none⟩])
     (.seq (.reg [⟨some 17, .mv (.t 5), none⟩,
       ⟨some 18, .call 71 [.t 17, .c (.i .u64 255)], none⟩,
       ⟨some 16, .mv (.t 18), none⟩,
       ⟨some 19, .ext (.t 16) 0, none⟩,
       ⟨some 20, .ext (.t 16) 1, none⟩,
       ⟨some 6, .mv (.t 19), none⟩,
       ⟨some 7, .mv (.t 20), none⟩])
     (.seq (.reg [⟨some 21, .mv (.t 7), none⟩,
       ⟨some 22, .bin .neq (.t 21) (.c (.i .i64 0)), none⟩])
     (.cond (.t 22)
      (.seq (.reg [⟨some 2, .mv (.c (.b false)), none⟩])
      (.ret))
      (.skip))))))
    (.reg [⟨some 23, .bin .add (.t 12) (.c (.i .i64 1)), none⟩,
      ⟨some 12, .mv (.t 23), none⟩])))))))
  (.seq (.reg [⟨some 24, .mv (.t 3), none⟩,
    ⟨some 25, .lenr (.t 24), none⟩,
    ⟨some 26, .bin .eql (.t 25) (.c (.i .i64 4)), none⟩,
    ⟨some 2, .mv (.t 26), none⟩])
  (.ret))))
theorem is_ref05_IsIPv4 : FnIs Try.prog 43 27 [.tmp 2] c_ref05_IsIPv4 := ⟨⟨_, _, Try.func43, rfl, rfl, by kernel_rfl, by kernel_rfl⟩⟩
def c_mail_isAtom : SCode :=
  .seq (.reg [⟨some 2, .mv (.c (.b false)), none⟩])
  (.seq (.reg [⟨some 3, .mv (.t 0), none⟩,
    ⟨some 4, .call 72 [.t 3], none⟩,
    ⟨some 5, .mv (.t 4), none⟩,
    ⟨some 6, .mv (.t 0), some (5, false)⟩,
    ⟨some 7, .call 73 [.t 6], some (5, false)⟩,
    ⟨some 8, .pick (.t 5) (.c (.b true)) (.t 7), none⟩,
    ⟨some 9, .mv (.t 8), none⟩,
    ⟨some 10, .mv (.t 0), some (9, false)⟩,
    ⟨some 11, .call 66 [.t 10, .c (.s [33, 35, 36, 37, 38, 39, 42, 43, 45, 47, 61, 63, 94, 95, 96, 123, 124, 125, 126])], some (9, false)⟩,
    ⟨some 12, .pick (.t 9) (.c (.b true)) (.t 11), none⟩,
    ⟨some 2, .mv (.t 12), none⟩])
  (.ret))
theorem is_mail_isAtom : FnIs Try.prog 44 13 [.tmp 2] c_mail_isAtom := ⟨⟨_, _, Try.func44, rfl, rfl, by kernel_rfl, by kernel_rfl⟩⟩
def c_ref01_Split : SCode :=
  .seq (.reg [⟨some 4, .mv (.c .nil), none⟩])
  (.seq (.reg [⟨some 5, .mv (.c .nil), none⟩])
  (.seq (.reg [⟨some 6, .mv (.c (.i .i64 0)), none⟩])
  (.seq (.seq (.reg [⟨some 7, .mv (.c (.i .i64 0)), none⟩])
  (.blk 0
   (.loop
    (.seq (.seq (.reg [⟨some 8, .mv (.t 7), none⟩,
      ⟨some 9, .mv (.t 0), none⟩,
      ⟨some 10, .lens (.t 9), none⟩,
      ⟨some 11, .bin .lss (.t 8) (.t 10), none⟩])
    (.cond (.t 11)
     (.skip)
     (.exit 0)))
    (.seq (.blk 1
     (.seq (.reg [⟨some 14, .mv (.t 0), none⟩,
       ⟨some 15, .mv (.t 7), none⟩,
       ⟨some 16, .idx (.t 14) (.t 15), none⟩,
       ⟨some 17, .mv (.t 1), none⟩,
       ⟨some 18, .bin .eql (.t 16) (.t 17), none⟩])
     (.cond (.t 18)
      (.reg [⟨some 19, .mv (.t 5), none⟩,
        ⟨some 20, .mv (.t 0), none⟩,
        ⟨some 21, .mv (.t 6), none⟩,
        ⟨some 22, .mv (.t 7), none⟩,
        ⟨some 23, .slcs (.t 20) (some (.t 21)) (some (.t 22)), none⟩,
        ⟨some 24, .bslice 1 [.s []] [(0, (1, .t 23))], none⟩,
        ⟨some 25, .app 9 1 16 (.t 19) (.t 24), none⟩,
        ⟨some 26, .mv (.t 7), none⟩,
        ⟨some 27, .bin .add (.t 26) (.c (.i .i64 1)), none⟩,
        ⟨some 5, .mv (.t 25), none⟩,
        ⟨some 6, .mv (.t 27), none⟩])
      (.skip))))
    (.reg [⟨some 12, .mv (.t 7), none⟩,
      ⟨some 13, .bin .add (.t 12) (.c (.i .i64 1)), none⟩,
      ⟨some 7, .mv (.t 13), none⟩]))))))
  (.seq (.reg [⟨some 28, .mv (.t 5), none⟩,
    ⟨some 29, .mv (.t 0), none⟩,
    ⟨some 30, .mv (.t 6), none⟩,
    ⟨some 31, .slcs (.t 29) (some (.t 30)) none, none⟩,
    ⟨some 32, .bslice 1 [.s []] [(0, (1, .t 31))], none⟩,
    ⟨some 33, .app 9 1 16 (.t 28) (.t 32), none⟩,
    ⟨some 4, .mv (.t 33), none⟩])
  (.ret)))))
theorem is_ref01_Split : FnIs Try.prog 45 34 [.tmp 4] c_ref01_Split := ⟨⟨_, _, Try.func45, rfl, rfl, by kernel_rfl, by kernel_rfl⟩⟩
def c_ref09_atom : SCode :=
  .seq (.reg [⟨some 2, .mv (.c (.b false)), none⟩])
  (.seq (.reg [⟨some 3, .mv (.t 0), none⟩,
    ⟨some 4, .call 69 [.t 3], none⟩,
    ⟨some 5, .mv (.t 4), none⟩,
    ⟨some 6, .mv (.t 0), some (5, false)⟩,
    ⟨some 7, .call 70 [.t 6], some (5, false)⟩,
    ⟨some 8, .pick (.t 5) (.c (.b true)) (.t 7), none⟩,
    ⟨some 9, .mv (.t 8), none⟩,
    ⟨some 10, .mv (.t 0), some (9, false)⟩,
    ⟨some 11, .call 42 [.t 10, .c (.s [33, 35, 36, 37, 38, 39, 42, 43, 45, 47, 61, 63, 94, 95, 96, 123, 124, 125, 126])], some (9, false)⟩,
    ⟨some 12, .pick (.t 9) (.c (.b true)) (.t 11), none⟩,
    ⟨some 2, .mv (.t 12), none⟩])
  (.ret))
theorem is_ref09_atom : FnIs Try.prog 46 13 [.tmp 2] c_ref09_atom := ⟨⟨_, _, Try.func46, rfl, rfl, by kernel_rfl, by kernel_rfl⟩⟩
def c_percent_Encode : SCode :=
  .seq (.reg [⟨some 4, .mv (.c (.s [])), none⟩])
  (.seq (.reg [⟨some 7, .mv (.t 0), none⟩,
    ⟨some 8, .lens (.t 7), none⟩,
    ⟨some 9, .mks 5 1 1 (.c (.i .i64 0)) (.t 8), none⟩,
    ⟨some 5, .mv (.t 9), none⟩])
  (.seq (.seq (.reg [⟨some 10, .mv (.t 0), none⟩,
    ⟨some 11, .lens (.t 10), none⟩,
    ⟨some 12, .mv (.c (.i .i64 0)), none⟩])
  (.blk 0
   (.loop
    (.seq (.reg [⟨some 13, .bin .lss (.t 12) (.t 11), none⟩])
    (.seq (.cond (.t 13)
     (.skip)
     (.exit 0))
    (.seq (.blk 1
     (.seq (.reg [⟨some 14, .mv (.t 12), none⟩,
       ⟨some 6, .mv (.t 14), none⟩])
     (.seq (.reg [⟨some 15, .mv (.t 0), none⟩,
       ⟨some 16, .mv (.t 6), none⟩,
       ⟨some 17, .idx (.t 15) (.t 16), none⟩,
       ⟨some 18, .mv (.t 1), none⟩,
       ⟨some 19, .call 58 [.t 17, .t 18], none⟩])
     (.cond (.t 19)
      (.reg [⟨some 20, .mv (.t 5), none⟩,
        ⟨some 21, .mv (.t 0), none⟩,
        ⟨some 22, .mv (.t 6), none⟩,
        ⟨some 23, .idx (.t 21) (.t 22), none⟩,
        ⟨some 24, .bslice 1 [.i .u8 0] [(0, (1, .t 23))], none⟩,
        ⟨some 25, .app 5 1 1 (.t 20) (.t 24), none⟩,
        ⟨some 5, .mv (.t 25), none⟩])
      (.reg [⟨some 26, .mv (.t 5), none⟩,
        ⟨some 27, .mv (.t 0), none⟩,
        ⟨some 28, .mv (.t 6), none⟩,
        ⟨some 29, .idx (.t 27) (.t 28), none⟩,
        ⟨some 30, .call 57 [.t 26, .t 29], none⟩,
        ⟨some 5, .mv (.t 30), none⟩])))))
    (.reg [⟨some 31, .bin .add (.t 12) (.c (.i .i64 1)), none⟩,
      ⟨some 12, .mv (.t 31), none⟩])))))))
  (.seq (.reg [⟨some 32, .mv (.t 5), none⟩,
    ⟨some 33, .cvbs (.t 32), none⟩,
    ⟨some 4, .mv (.t 33), none⟩])
  (.ret))))
theorem is_percent_Encode : FnIs Try.prog 47 34 [.tmp 4] c_percent_Encode := ⟨⟨_, _, Try.func47, rfl, rfl, by kernel_rfl, by kernel_rfl⟩⟩
def c_ref03_Encode : SCode :=
  .seq (.reg [⟨some 4, .mv (.c (.s [])), none⟩])
  (.seq (.reg [⟨some 5, .mv (.c (.s [])), none⟩])
  (.seq (.seq (.reg [⟨some 6, .mv (.c (.i .i64 0)), none⟩])
  (.blk 0
   (.loop
    (.seq (.seq (.reg [⟨some 7, .mv (.t 6), none⟩,
      ⟨some 8, .mv (.t 0), none⟩,
      ⟨some 9, .lens (.t 8), none⟩,
      ⟨some 10, .bin .lss (.t 7) (.t 9), none⟩])
    (.cond (.t 10)
     (.skip)
     (.exit 0)))
    (.seq (.blk 1
     (.seq (.reg [⟨some 13, .mv (.t 0), none⟩,
       ⟨some 14, .mv (.t 6), none⟩,
       ⟨some 15, .idx (.t 13) (.t 14), none⟩,
       ⟨some 16, .call 41 [.t 15], none⟩,
       ⟨some 17, .mv (.t 16), none⟩,
       ⟨some 18, .mv (.t 0), some (17, false)⟩,
       ⟨some 19, .mv (.t 6), some (17, false)⟩,
       ⟨some 20, .idx (.t 18) (.t 19), some (17, false)⟩,
       ⟨some 21, .bin .neq (.t 20) (.c (.i .u8 37)), some (17, false)⟩,
       ⟨some 22, .mv (.t 21), some (17, false)⟩,
       ⟨some 23, .mv (.t 0), some (22, true)⟩,
       ⟨some 24, .mv (.t 6), some (22, true)⟩,
       ⟨some 25, .idx (.t 23) (.t 24), some (22, true)⟩,
       ⟨some 26, .mv (.t 1), some (22, true)⟩,
       ⟨some 27, .call 42 [.t 25, .t 26], some (22, true)⟩,
       ⟨some 28, .pick (.t 22) (.t 27) (.c (.b false)), some (17, false)⟩,
       ⟨some 29, .pick (.t 17) (.c (.b true)) (.t 28), none⟩])
     (.cond (.t 29)
      (.reg [⟨some 30, .mv (.t 5), none⟩,
        ⟨some 31, .mv (.t 0), none⟩,
        ⟨some 32, .mv (.t 6), none⟩,
        ⟨some 33, .mv (.t 6), none⟩,
        ⟨some 34, .bin .add (.t 33) (.c (.i .i64 1)), none⟩,
        ⟨some 35, .slcs (.t 31) (some (.t 32)) (some (.t 34)), none⟩,
        ⟨some 36, .bin .add (.t 30) (.t 35), none⟩,
        ⟨some 5, .mv (.t 36), none⟩])
      (.reg [⟨some 37, .mv (.t 5), none⟩,
        ⟨some 38, .mv (.t 0), none⟩,
        ⟨some 39, .mv (.t 6), none⟩,
        ⟨some 40, .idx (.t 38) (.t 39), none⟩,
        ⟨some 41, .call 62 [.t 40], none⟩,
        ⟨some 42, .bin .add (.t 37) (.t 41), none⟩,
        ⟨some 5, .mv (.t 42), none⟩]))))
    (.reg [⟨some 11, .mv (.t 6), none⟩,
      ⟨some 12, .bin .add (.t 11) (.c (.i .i64 1)), none⟩,
      ⟨some 6, .mv (.t 12), none⟩]))))))
  (.seq (.reg [⟨some 43, .mv (.t 5), none⟩,
    ⟨some 4, .mv (.t 43), none⟩])
  (.ret))))
theorem is_ref03_Encode : FnIs Try.prog 48 44 [.tmp 4] c_ref03_Encode := ⟨⟨_, _, Try.func48, rfl, rfl, by kernel_rfl, by kernel_rfl⟩⟩
def c_template_literals : SCode :=
  .seq (.reg [⟨some 2, .mv (.c .nil), none⟩,
    ⟨some 3, .mv (.c (.b false)), none⟩])
  (.seq (.reg [⟨some 9, .mv (.t 0), none⟩,
    ⟨some 4, .alloc 9 [.s []], none⟩,
    ⟨some 5, .alloc 4 [.b false], none⟩,
    ⟨none, .store 1 (.t 4) (.t 9), none⟩,
    ⟨none, .store 1 (.t 5) (.c (.b true)), none⟩])
  (.seq (.reg [⟨some 10, .mkf 74 [] [.t 4, .t 5], none⟩,
    ⟨some 6, .mv (.t 10), none⟩])
  (.seq (.reg [⟨some 7, .mv (.c .nil), none⟩])
  (.seq (.blk 0
   (.loop
    (.seq (.seq (.reg [⟨some 11, .load1 (.t 5), none⟩])
    (.cond (.t 11)
     (.skip)
     (.exit 0)))
    (.blk 1
     (.seq (.reg [⟨some 12, .mv (.t 6), none⟩,
       ⟨some 13, .callv (.t 12) [], none⟩,
       ⟨some 8, .mv (.t 13), none⟩])
     (.seq (.seq (.reg [⟨some 14, .mv (.t 8), none⟩,
       ⟨some 15, .call 38 [.t 14, .c (.s [123, 125])], none⟩])
     (.cond (.t 15)
      (.seq (.reg [⟨some 2, .mv (.c .nil), none⟩,
        ⟨some 3, .mv (.c (.b false)), none⟩])
      (.ret))
      (.skip)))
     (.reg [⟨some 16, .mv (.t 7), none⟩,
       ⟨some 17, .mv (.t 8), none⟩,
       ⟨some 18, .bslice 1 [.s []] [(0, (1, .t 17))], none⟩,
       ⟨some 19, .app 9 1 16 (.t 16) (.t 18), none⟩,
       ⟨some 7, .mv (.t 19), none⟩])))))))
  (.seq (.reg [⟨some 20, .mv (.t 7), none⟩,
    ⟨some 21, .mv (.t 7), none⟩,
    ⟨some 22, .lenr (.t 21), none⟩,
    ⟨some 23, .bin .gtr (.t 22) (.c (.i .i64 1)), none⟩,
    ⟨some 2, .mv (.t 20), none⟩,
    ⟨some 3, .mv (.t 23), none⟩])
  (.ret))))))
theorem is_template_literals : FnIs Try.prog 49 24 [.tmp 2, .tmp 3] c_template_literals := ⟨⟨_, _, Try.func49, rfl, rfl, by kernel_rfl, by kernel_rfl⟩⟩
def c_ref23_parts : SCode :=
  .seq (.reg [⟨some 2, .mv (.c .nil), none⟩,
    ⟨some 3, .mv (.c (.b false)), none⟩])
  (.seq (.reg [⟨some 4, .mv (.c .nil), none⟩])
  (.seq (.reg [⟨some 5, .mv (.c (.i .i64 0)), none⟩])
  (.seq (.seq (.reg [⟨some 6, .mv (.c (.i .i64 0)), none⟩])
  (.blk 0
   (.loop
    (.seq (.seq (.reg [⟨some 7, .mv (.t 6), none⟩,
      ⟨some 8, .mv (.t 0), none⟩,
      ⟨some 9, .lens (.t 8), none⟩,
      ⟨some 10, .bin .lss (.t 7) (.t 9), none⟩])
    (.cond (.t 10)
     (.skip)
     (.exit 0)))
    (.seq (.blk 1
     (.seq (.reg [⟨some 13, .mv (.t 0), none⟩,
       ⟨some 14, .mv (.t 6), none⟩,
       ⟨some 15, .slcs (.t 13) (some (.t 14)) none, none⟩,
       ⟨some 16, .call 78 [.t 15, .c (.s [123, 117, 114, 105, 125])], none⟩])
     (.cond (.t 16)
      (.reg [⟨some 17, .mv (.t 4), none⟩,
        ⟨some 18, .mv (.t 0), none⟩,
        ⟨some 19, .mv (.t 5), none⟩,
        ⟨some 20, .mv (.t 6), none⟩,
        ⟨some 21, .slcs (.t 18) (some (.t 19)) (some (.t 20)), none⟩,
        ⟨some 22, .bslice 1 [.s []] [(0, (1, .t 21))], none⟩,
        ⟨some 23, .app 9 1 16 (.t 17) (.t 22), none⟩,
        ⟨some 24, .mv (.t 6), none⟩,
        ⟨some 25, .bin .add (.t 24) (.c (.i .i64 5)), none⟩,
        ⟨some 26, .mv (.t 6), none⟩,
        ⟨some 27, .bin .add (.t 26) (.c (.i .i64 4)), none⟩,
        ⟨some 4, .mv (.t 23), none⟩,
        ⟨some 5, .mv (.t 25), none⟩,
        ⟨some 6, .mv (.t 27), none⟩])
      (.seq (.reg [⟨some 28, .mv (.t 0), none⟩,
        ⟨some 29, .mv (.t 6), none⟩,
        ⟨some 30, .idx (.t 28) (.t 29), none⟩,
        ⟨some 31, .bin .eql (.t 30) (.c (.i .u8 123)), none⟩,
        ⟨some 32, .mv (.t 31), none⟩,
        ⟨some 33, .mv (.t 0), some (32, false)⟩,
        ⟨some 34, .mv (.t 6), some (32, false)⟩,
        ⟨some 35, .idx (.t 33) (.t 34), some (32, false)⟩,
        ⟨some 36, .bin .eql (.t 35) (.c (.i .u8 125)), some (32, false)⟩,
        ⟨some 37, .pick (.t 32) (.c (.b true)) (.t 36), none⟩])
      (.cond (.t 37)
       (.seq (.reg [⟨some 2, .mv (.c .nil), none⟩,
         ⟨some 3, .mv (.c (.b false)), none⟩])
       (.ret))
       (.skip))))))
    (.reg [⟨some 11, .mv (.t 6), none⟩,
      ⟨some 12, .bin .add (.t 11) (.c (.i .i64 1)), none⟩,
      ⟨some 6, .mv (.t 12), none⟩]))))))
  (.seq (.reg [⟨some 38, .mv (.t 4), none⟩,
    ⟨some 39, .mv (.t 0), none⟩,
    ⟨some 40, .mv (.t 5), none⟩,
    ⟨some 41, .slcs (.t 39) (some (.t 40)) none, none⟩,
    ⟨some 42, .bslice 1 [.s []] [(0, (1, .t 41))], none⟩,
    ⟨some 43, .app 9 1 16 (.t 38) (.t 42), none⟩,
    ⟨some 44, .mv (.t 4), none⟩,
    ⟨some 45, .lenr (.t 44), none⟩,
    ⟨some 46, .bin .gtr (.t 45) (.c (.i .i64 0)), none⟩,
    ⟨some 2, .mv (.t 43), none⟩,
    ⟨some 3, .mv (.t 46), none⟩])
  (.ret)))))
theorem is_ref23_parts : FnIs Try.prog 51 47 [.tmp 2, .tmp 3] c_ref23_parts := ⟨⟨_, _, Try.func51, rfl, rfl, by kernel_rfl, by kernel_rfl⟩⟩
def c_ref03_escape : SCode :=
  .seq (.reg [⟨some 4, .mv (.c (.i .u8 0)), none⟩,
    ⟨some 5, .mv (.c (.b false)), none⟩])
  (.seq (.seq (.reg [⟨some 6, .mv (.t 1), none⟩,
    ⟨some 7, .bin .add (.t 6) (.c (.i .i64 2)), none⟩,
    ⟨some 8, .mv (.t 0), none⟩,
    ⟨some 9, .lens (.t 8), none⟩,
    ⟨some 10, .bin .geq (.t 7) (.t 9), none⟩,
    ⟨some 11, .mv (.t 10), none⟩,
    ⟨some 12, .mv (.t 0), some (11, false)⟩,
    ⟨some 13, .mv (.t 1), some (11, false)⟩,
    ⟨some 14, .idx (.t 12) (.t 13), some (11, false)⟩,
    ⟨some 15, .bin .neq (.t 14) (.c (.i .u8 37)), some (11, false)⟩,
    ⟨some 16, .pick (.t 11) (.c (.b true)) (.t 15), none⟩,
    ⟨some 17, .mv (.t 16), none⟩,
    ⟨some 18, .mv (.t 0), some (17, false)⟩,
    ⟨some 19, .mv (.t 1), some (17, false)⟩,
    ⟨some 20, .bin .add (.t 19) (.c (.i .i64 1)), some (17, false)⟩,
    ⟨some 21, .idx (.t 18) (.t 20), some (17, false)⟩,
    ⟨some 22, .call 79 [.t 21], some (17, false)⟩,
    ⟨some 23, .not (.t 22), some (17, false)⟩,
    ⟨some 24, .pick (.t 17) (.c (.b true)) (.t 23), none⟩,
    ⟨some 25, .mv (.t 24), none⟩,
    ⟨some 26, .mv (.t 0), some (25, false)⟩,
    ⟨some 27, .mv (.t 1), some (25, false)⟩,
    ⟨some 28, .bin .add (.t 27) (.c (.i .i64 2)), some (25, false)⟩,
    ⟨some 29, .idx (.t 26) (.t 28), some (25, false)⟩,
    ⟨some 30, .call 79 [.t 29], some (25, false)⟩,
    ⟨some 31, .not (.t 30), some (25, false)⟩,
    ⟨some 32, .pick (.t 25) (.c (.b true)) (.t 31), none⟩])
  (.cond (.t 32)
   (.seq (.reg [⟨some 4, .mv (.c (.i .u8 0)), none⟩,
     ⟨some 5, .mv (.c (.b false)), none⟩])
   (.ret))
   (.skip)))
  (.seq (.drw [⟨some 33, .mv (.t 0), none⟩,
    ⟨some 34, .mv (.t 1), none⟩,
    ⟨some 35, .bin .add (.t 34) (.c (.i .i64 1)), none⟩,
    ⟨some 36, .idx (.t 33) (.t 35), none⟩,
    ⟨some 37, .call 80 [.t 36], none⟩,
    ⟨some 38, .bin .mul (.c (.i .u8 16)) (.t 37), none⟩,
    ⟨some 39, .mv (.t 0), none⟩,
    ⟨some 40, .mv (.t 1), none⟩,
    ⟨some 41, .bin .add (.t 40) (.c (.i .i64 2)), none⟩,
    ⟨some 42, .idx (.t 39) (.t 41), none⟩,
    ⟨some 43, .call 80 [.t 42], none⟩,
    ⟨some 44, .bin .add (.t 38) (.t 43), none⟩,
    ⟨some 4, .mv (.t 44), none⟩,
    ⟨some 5, .mv (.c (.b true)), none⟩] 14)
  (.ret)))
theorem is_ref03_escape : FnIs Try.prog 52 45 [.tmp 4, .tmp 5] c_ref03_escape := ⟨⟨_, _, Try.func52, rfl, rfl, by kernel_rfl, by kernel_rfl⟩⟩
def c_ascii_lower : SCode :=
  .seq (.reg [⟨some 2, .mv (.c (.i .u8 0)), none⟩])
  (.seq (.seq (.reg [⟨some 3, .mv (.t 0), none⟩,
    ⟨some 4, .call 81 [.t 3], none⟩])
  (.cond (.t 4)
   (.seq (.reg [⟨some 5, .mv (.t 0), none⟩,
     ⟨some 6, .bin .add (.t 5) (.c (.i .u8 32)), none⟩,
     ⟨some 2, .mv (.t 6), none⟩])
   (.ret))
   (.skip)))
  (.seq (.reg [⟨some 7, .mv (.t 0), none⟩,
    ⟨some 2, .mv (.t 7), none⟩])
  (.ret)))
theorem is_ascii_lower : FnIs Try.prog 53 8 [.tmp 2] c_ascii_lower := ⟨⟨_, _, Try.func53, rfl, rfl, by kernel_rfl, by kernel_rfl⟩⟩
def c_percent_rewrite : SCode :=
  .seq (.reg [⟨some 4, .mv (.c (.s [])), none⟩,
    ⟨some 5, .mv (.c (.i .i64 0)), none⟩])
  (.seq (.seq (.reg [⟨some 12, .mv (.t 0), none⟩,
    ⟨some 13, .lens (.t 12), none⟩,
    ⟨some 14, .bin .gtr (.t 13) (.c (.i .i64 16384)), none⟩])
  (.cond (.t 14)
   (.seq (.reg [⟨some 4, .mv (.c (.s [])), none⟩,
     ⟨some 5, .mv (.c (.i .i64 5)), none⟩])
   (.ret))
   (.skip)))
  (.seq (.reg [⟨some 15, .mv (.t 0), none⟩,
    ⟨some 16, .lens (.t 15), none⟩,
    ⟨some 17, .mks 5 1 1 (.c (.i .i64 0)) (.t 16), none⟩,
    ⟨some 6, .mv (.t 17), none⟩])
  (.seq (.reg [⟨some 7, .mv (.c (.i .i64 0)), none⟩])
  (.seq (.seq (.reg [⟨some 18, .mv (.t 0), none⟩,
    ⟨some 19, .lens (.t 18), none⟩,
    ⟨some 20, .mv (.c (.i .i64 0)), none⟩])
  (.blk 0
   (.loop
    (.seq (.reg [⟨some 21, .bin .lss (.t 20) (.t 19), none⟩])
    (.seq (.cond (.t 21)
     (.skip)
     (.exit 0))
    (.seq (.blk 1
     (.seq (.reg [⟨some 22, .mv (.t 20), none⟩,
       ⟨some 8, .mv (.t 22), none⟩])
     (.seq (.seq (.reg [⟨some 23, .mv (.t 8), none⟩,
       ⟨some 24, .mv (.t 7), none⟩,
       ⟨some 25, .bin .lss (.t 23) (.t 24), none⟩])
     (.cond (.t 25)
      (.exit 1)
      (.skip)))
     (.seq (.reg [⟨some 26, .mv (.t 0), none⟩,
       ⟨some 27, .mv (.t 8), none⟩,
       ⟨some 28, .idx (.t 26) (.t 27), none⟩,
       ⟨some 9, .mv (.t 28), none⟩,
       ⟨some 10, .mv (.c (.i .i64 1)), none⟩])
     (.seq (.seq (.reg [⟨some 29, .mv (.t 9), none⟩,
       ⟨some 30, .bin .eql (.t 29) (.c (.i .u8 37)), none⟩])
     (.cond (.t 30)
      (.seq (.seq (.reg [⟨some 31, .mv (.t 0), none⟩,
        ⟨some 32, .mv (.t 8), none⟩,
        ⟨some 33, .call 82 [.t 31, .t 32], none⟩,
        ⟨some 34, .not (.t 33), none⟩])
      (.cond (.t 34)
       (.seq (.reg [⟨some 4, .mv (.c (.s [])), none⟩,
         ⟨some 5, .mv (.c (.i .i64 2)), none⟩])
       (.ret))
       (.skip)))
      (.drw [⟨some 35, .mv (.t 0), none⟩,
        ⟨some 36, .mv (.t 8), none⟩,
        ⟨some 37, .bin .add (.t 36) (.c (.i .i64 1)), none⟩,
        ⟨some 38, .idx (.t 35) (.t 37), none⟩,
        ⟨some 39, .call 83 [.t 38], none⟩,
        ⟨some 40, .bin .shl (.t 39) (.c (.i .u64 4)), none⟩,
        ⟨some 41, .mv (.t 0), none⟩,
        ⟨some 42, .mv (.t 8), none⟩,
        ⟨some 43, .bin .add (.t 42) (.c (.i .i64 2)), none⟩,
        ⟨some 44, .idx (.t 41) (.t 43), none⟩,
        ⟨some 45, .call 83 [.t 44], none⟩,
        ⟨some 46, .bin .or (.t 40) (.t 45), none⟩,
        ⟨some 9, .mv (.t 46), none⟩,
        ⟨some 10, .mv (.c (.i .i64 3)), none⟩] 14))
      (.skip)))
     (.seq (.reg [⟨some 11, .mv (.c (.i .i64 0)), none⟩])
     (.seq (.seq (.reg [⟨some 48, .mv (.t 1), none⟩,
       ⟨some 49, .mv (.t 6), none⟩,
       ⟨some 50, .mv (.t 9), none⟩,
       ⟨some 51, .mv (.t 10), none⟩,
       ⟨some 52, .bin .eql (.t 51) (.c (.i .i64 3)), none⟩,
       ⟨some 53, .callv (.t 48) [.t 49, .t 50, .t 52], none⟩,
       ⟨some 47, .mv (.t 53), none⟩,
       ⟨some 54, .ext (.t 47) 0, none⟩,
       ⟨some 55, .ext (.t 47) 1, none⟩,
       ⟨some 6, .mv (.t 54), none⟩,
       ⟨some 11, .mv (.t 55), none⟩])
     (.seq (.reg [⟨some 56, .mv (.t 11), none⟩,
       ⟨some 57, .bin .neq (.t 56) (.c (.i .i64 0)), none⟩])
     (.cond (.t 57)
      (.seq (.reg [⟨some 58, .mv (.t 11), none⟩,
        ⟨some 4, .mv (.c (.s [])), none⟩,
        ⟨some 5, .mv (.t 58), none⟩])
      (.ret))
      (.skip))))
     (.reg [⟨some 59, .mv (.t 8), none⟩,
       ⟨some 60, .mv (.t 10), none⟩,
       ⟨some 61, .bin .add (.t 59) (.t 60), none⟩,
       ⟨some 7, .mv (.t 61), none⟩]))))))))
    (.reg [⟨some 62, .bin .add (.t 20) (.c (.i .i64 1)), none⟩,
      ⟨some 20, .mv (.t 62), none⟩])))))))
  (.seq (.reg [⟨some 63, .mv (.t 6), none⟩,
    ⟨some 64, .cvbs (.t 63), none⟩,
    ⟨some 4, .mv (.t 64), none⟩,
    ⟨some 5, .mv (.c (.i .i64 0)), none⟩])
  (.ret))))))
theorem is_percent_rewrite : FnIs Try.prog 54 65 [.tmp 4, .tmp 5] c_percent_rewrite := ⟨⟨_, _, Try.func54, rfl, rfl, by kernel_rfl, by kernel_rfl⟩⟩
def c_percent_Normalize_1 : SCode :=
  .seq (.reg [⟨some 7, .mv (.c .nil), none⟩,
    ⟨some 8, .mv (.c (.i .i64 0)), none⟩])
  (.seq (.blk 0
   (.seq (.reg [⟨some 10, .mv (.t 2), none⟩,
     ⟨some 11, .mv (.t 10), none⟩,
     ⟨some 12, .mv (.t 1), some (11, true)⟩,
     ⟨some 13, .call 56 [.t 12], some (11, true)⟩,
     ⟨some 14, .not (.t 13), some (11, true)⟩,
     ⟨some 15, .pick (.t 11) (.t 14) (.c (.b false)), none⟩,
     ⟨some 9, .mv (.t 15), none⟩])
   (.cond (.t 9)
    (.seq (.reg [⟨some 16, .mv (.t 0), none⟩,
      ⟨some 17, .mv (.t 1), none⟩,
      ⟨some 18, .call 57 [.t 16, .t 17], none⟩,
      ⟨some 7, .mv (.t 18), none⟩,
      ⟨some 8, .mv (.c (.i .i64 0)), none⟩])
    (.ret))
    (.seq (.reg [⟨some 20, .mv (.t 1), none⟩,
      ⟨some 21, .load1 (.t 3), none⟩,
      ⟨some 22, .call 58 [.t 20, .t 21], none⟩,
      ⟨some 19, .mv (.t 22), none⟩])
    (.cond (.t 19)
     (.seq (.reg [⟨some 23, .mv (.t 0), none⟩,
       ⟨some 24, .mv (.t 1), none⟩,
       ⟨some 25, .bslice 1 [.i .u8 0] [(0, (1, .t 24))], none⟩,
       ⟨some 26, .app 5 1 1 (.t 23) (.t 25), none⟩,
       ⟨some 7, .mv (.t 26), none⟩,
       ⟨some 8, .mv (.c (.i .i64 0)), none⟩])
     (.ret))
     (.skip))))))
  (.seq (.reg [⟨some 27, .mv (.t 0), none⟩,
    ⟨some 7, .mv (.t 27), none⟩,
    ⟨some 8, .mv (.c (.i .i64 1)), none⟩])
  (.ret)))
theorem is_percent_Normalize_1 : FnIs Try.prog 55 28 [.tmp 7, .tmp 8] c_percent_Normalize_1 := ⟨⟨_, _, Try.func55, rfl, rfl, by kernel_rfl, by kernel_rfl⟩⟩
def c_ascii_IsUnreserved : SCode :=
  .seq (.reg [⟨some 2, .mv (.c (.b false)), none⟩])
  (.seq (.reg [⟨some 3, .mv (.t 0), none⟩,
    ⟨some 4, .call 84 [.t 3], none⟩,
    ⟨some 5, .mv (.t 4), none⟩,
    ⟨some 6, .mv (.t 0), some (5, false)⟩,
    ⟨some 7, .call 85 [.t 6, .c (.s [45, 46, 95, 126])], some (5, false)⟩,
    ⟨some 8, .pick (.t 5) (.c (.b true)) (.t 7), none⟩,
    ⟨some 2, .mv (.t 8), none⟩])
  (.ret))
theorem is_ascii_IsUnreserved : FnIs Try.prog 56 9 [.tmp 2] c_ascii_IsUnreserved := ⟨⟨_, _, Try.func56, rfl, rfl, by kernel_rfl, by kernel_rfl⟩⟩
def c_percent_appendEscape : SCode :=
  .seq (.reg [⟨some 4, .mv (.c .nil), none⟩])
  (.seq (.drw [⟨some 5, .mv (.t 0), none⟩,
    ⟨some 6, .mv (.t 1), none⟩,
    ⟨some 7, .bin .shr (.t 6) (.c (.i .u64 4)), none⟩,
    ⟨some 8, .idx (.c (.s [48, 49, 50, 51, 52, 53, 54, 55, 56, 57, 65, 66, 67, 68, 69, 70])) (.t 7), none⟩,
    ⟨some 9, .mv (.t 1), none⟩,
    ⟨some 10, .bin .and (.t 9) (.c (.i .u8 15)), none⟩,
    ⟨some 11, .idx (.c (.s [48, 49, 50, 51, 52, 53, 54, 55, 56, 57, 65, 66, 67, 68, 69, 70])) (.t 10), none⟩,
    ⟨some 12, .bslice 3 [.i .u8 0, .i .u8 0, .i .u8 0] [(0, (1, .c (.i .u8 37))), (1, (1, .t 8)), (2, (1, .t 11))], none⟩,
    ⟨some 13, .app 5 1 1 (.t 5) (.t 12), none⟩,
    ⟨some 4, .mv (.t 13), none⟩] 8)
  (.ret))
theorem is_percent_appendEscape : FnIs Try.prog 57 14 [.tmp 4] c_percent_appendEscape := ⟨⟨_, _, Try.func57, rfl, rfl, by kernel_rfl, by kernel_rfl⟩⟩
def c_percent_isPlain : SCode :=
  .seq (.reg [⟨some 4, .mv (.c (.b false)), none⟩])
  (.seq (.reg [⟨some 5, .mv (.t 0), none⟩,
    ⟨some 6, .call 56 [.t 5], none⟩,
    ⟨some 7, .mv (.t 6), none⟩,
    ⟨some 8, .mv (.t 0), some (7, false)⟩,
    ⟨some 9, .bin .neq (.t 8) (.c (.i .u8 37)), some (7, false)⟩,
    ⟨some 10, .mv (.t 9), some (7, false)⟩,
    ⟨some 11, .mv (.t 1), some (10, true)⟩,
    ⟨some 12, .mv (.t 0), some (10, true)⟩,
    ⟨some 13, .call 86 [.t 11, .t 12], some (10, true)⟩,
    ⟨some 14, .bin .geq (.t 13) (.c (.i .i64 0)), some (10, true)⟩,
    ⟨some 15, .pick (.t 10) (.t 14) (.c (.b false)), some (7, false)⟩,
    ⟨some 16, .pick (.t 7) (.c (.b true)) (.t 15), none⟩,
    ⟨some 4, .mv (.t 16), none⟩])
  (.ret))
theorem is_percent_isPlain : FnIs Try.prog 58 17 [.tmp 4] c_percent_isPlain := ⟨⟨_, _, Try.func58, rfl, rfl, by kernel_rfl, by kernel_rfl⟩⟩
def c_host_isName : SCode :=
  .seq (.reg [⟨some 2, .mv (.c (.b false)), none⟩])
  (.seq (.reg [⟨some 7, .mv (.t 0), none⟩,
    ⟨some 3, .mv (.t 7), none⟩])
  (.seq (.seq (.reg [⟨some 8, .mv (.t 0), none⟩,
    ⟨some 9, .lens (.t 8), none⟩,
    ⟨some 10, .mv (.c (.i .i64 0)), none⟩])
  (.blk 0
   (.loop
    (.seq (.reg [⟨some 11, .bin .lss (.t 10) (.t 9), none⟩])
    (.seq (.cond (.t 11)
     (.skip)
     (.exit 0))
    (.seq (.blk 1
     (.seq (.reg [⟨some 13, .mv (.t 3), none⟩,
       ⟨some 14, .call 37 [.t 13, .c (.s [46])], none⟩,
       ⟨some 12, .mv (.t 14), none⟩,
       ⟨some 15, .ext (.t 12) 0, none⟩,
       ⟨some 16, .ext (.t 12) 1, none⟩,
       ⟨some 17, .ext (.t 12) 2, none⟩,
       ⟨some 4, .mv (.t 15), none⟩,
       ⟨some 5, .mv (.t 16), none⟩,
       ⟨some 6, .mv (.t 17), none⟩])
     (.seq (.seq (.reg [⟨some 18, .mv (.t 4), none⟩,
       ⟨some 19, .call 87 [.t 18], none⟩,
       ⟨some 20, .not (.t 19), none⟩])
     (.cond (.t 20)
      (.seq (.reg [⟨some 2, .mv (.c (.b false)), none⟩])
      (.ret))
      (.skip)))
     (.seq (.seq (.reg [⟨some 21, .mv (.t 6), none⟩,
       ⟨some 22, .not (.t 21), none⟩])
     (.cond (.t 22)
      (.seq (.reg [⟨some 23, .mv (.t 4), none⟩,
        ⟨some 24, .call 88 [.t 23], none⟩,
        ⟨some 25, .not (.t 24), none⟩,
        ⟨some 2, .mv (.t 25), none⟩])
      (.ret))
      (.skip)))
     (.reg [⟨some 26, .mv (.t 5), none⟩,
       ⟨some 3, .mv (.t 26), none⟩])))))
    (.reg [⟨some 27, .bin .add (.t 10) (.c (.i .i64 1)), none⟩,
      ⟨some 10, .mv (.t 27), none⟩])))))))
  (.seq (.reg [⟨some 2, .mv (.c (.b false)), none⟩])
  (.ret))))
theorem is_host_isName : FnIs Try.prog 59 28 [.tmp 2] c_host_isName := ⟨⟨_, _, Try.func59, rfl, rfl, by kernel_rfl, by kernel_rfl⟩⟩
def c_ascii_Lower : SCode :=
  .seq (.reg [⟨some 2, .mv (.c (.s [])), none⟩])
  (.seq (.reg [⟨some 5, .mv (.t 0), none⟩,
    ⟨some 6, .lens (.t 5), none⟩,
    ⟨some 7, .mks 5 1 1 (.t 6) (.t 6), none⟩,
    ⟨some 3, .mv (.t 7), none⟩])
  (.seq (.seq (.reg [⟨some 8, .mv (.t 0), none⟩,
    ⟨some 9, .lens (.t 8), none⟩,
    ⟨some 10, .mv (.c (.i .i64 0)), none⟩])
  (.blk 0
   (.loop
    (.seq (.reg [⟨some 11, .bin .lss (.t 10) (.t 9), none⟩])
    (.seq (.cond (.t 11)
     (.skip)
     (.exit 0))
    (.seq (.blk 1
     (.seq (.reg [⟨some 12, .mv (.t 10), none⟩,
       ⟨some 4, .mv (.t 12), none⟩])
     (.reg [⟨some 13, .mv (.t 3), none⟩,
       ⟨some 14, .mv (.t 4), none⟩,
       ⟨some 15, .mv (.t 0), none⟩,
       ⟨some 16, .mv (.t 4), none⟩,
       ⟨some 17, .idx (.t 15) (.t 16), none⟩,
       ⟨some 18, .call 53 [.t 17], none⟩,
       ⟨some 19, .iad 1 (.t 13) (.t 14), none⟩,
       ⟨none, .store 1 (.t 19) (.t 18), none⟩])))
    (.reg [⟨some 20, .bin .add (.t 10) (.c (.i .i64 1)), none⟩,
      ⟨some 10, .mv (.t 20), none⟩])))))))
  (.seq (.reg [⟨some 21, .mv (.t 3), none⟩,
    ⟨some 22, .cvbs (.t 21), none⟩,
    ⟨some 2, .mv (.t 22), none⟩])
  (.ret))))
theorem is_ascii_Lower : FnIs Try.prog 60 23 [.tmp 2] c_ascii_Lower := ⟨⟨_, _, Try.func60, rfl, rfl, by kernel_rfl, by kernel_rfl⟩⟩
def c_ref03_Escape : SCode :=
  .seq (.reg [⟨some 2, .mv (.c (.s [])), none⟩])
  (.seq (.drw [⟨some 3, .mv (.t 0), none⟩,
    ⟨some 4, .bin .quo (.t 3) (.c (.i .u8 16)), none⟩,
    ⟨some 5, .idx (.c (.s [48, 49, 50, 51, 52, 53, 54, 55, 56, 57, 65, 66, 67, 68, 69, 70])) (.t 4), none⟩,
    ⟨some 6, .mv (.t 0), none⟩,
    ⟨some 7, .bin .rem (.t 6) (.c (.i .u8 16)), none⟩,
    ⟨some 8, .idx (.c (.s [48, 49, 50, 51, 52, 53, 54, 55, 56, 57, 65, 66, 67, 68, 69, 70])) (.t 7), none⟩,
    ⟨some 9, .bslice 3 [.i .u8 0, .i .u8 0, .i .u8 0] [(0, (1, .c (.i .u8 37))), (1, (1, .t 5)), (2, (1, .t 8))], none⟩,
    ⟨some 10, .cvbs (.t 9), none⟩,
    ⟨some 2, .mv (.t 10), none⟩] 9)
  (.ret))
theorem is_ref03_Escape : FnIs Try.prog 62 11 [.tmp 2] c_ref03_Escape := ⟨⟨_, _, Try.func62, rfl, rfl, by kernel_rfl, by kernel_rfl⟩⟩
def c_ref05_name : SCode :=
  .seq (.reg [⟨some 2, .mv (.c (.b false)), none⟩])
  (.seq (.reg [⟨some 6, .mv (.t 0), none⟩,
    ⟨some 7, .call 45 [.t 6, .c (.i .u8 46)], none⟩,
    ⟨some 3, .mv (.t 7), none⟩])
  (.seq (.seq (.reg [⟨some 8, .mv (.t 3), none⟩,
    ⟨some 9, .lenr (.t 8), none⟩,
    ⟨some 10, .mv (.c (.i .i64 0)), none⟩])
  (.blk 0
   (.loop
    (.seq (.reg [⟨some 11, .bin .lss (.t 10) (.t 9), none⟩])
    (.seq (.cond (.t 11)
     (.skip)
     (.exit 0))
    (.seq (.blk 1
     (.seq (.reg [⟨some 12, .iad 1 (.t 8) (.t 10), none⟩,
       ⟨some 13, .load1 (.t 12), none⟩,
       ⟨some 5, .mv (.t 13), none⟩])
     (.seq (.reg [⟨some 14, .mv (.t 5), none⟩,
       ⟨some 15, .call 89 [.t 14], none⟩,
       ⟨some 16, .not (.t 15), none⟩])
     (.cond (.t 16)
      (.seq (.reg [⟨some 2, .mv (.c (.b false)), none⟩])
      (.ret))
      (.skip)))))
    (.reg [⟨some 17, .bin .add (.t 10) (.c (.i .i64 1)), none⟩,
      ⟨some 10, .mv (.t 17), none⟩])))))))
  (.seq (.reg [⟨some 18, .mv (.t 3), none⟩,
    ⟨some 19, .mv (.t 3), none⟩,
    ⟨some 20, .lenr (.t 19), none⟩,
    ⟨some 21, .bin .sub (.t 20) (.c (.i .i64 1)), none⟩,
    ⟨some 22, .iad 1 (.t 18) (.t 21), none⟩,
    ⟨some 23, .load1 (.t 22), none⟩,
    ⟨some 24, .call 90 [.t 23], none⟩,
    ⟨some 25, .not (.t 24), none⟩,
    ⟨some 2, .mv (.t 25), none⟩])
  (.ret))))
theorem is_ref05_name : FnIs Try.prog 63 26 [.tmp 2] c_ref05_name := ⟨⟨_, _, Try.func63, rfl, rfl, by kernel_rfl, by kernel_rfl⟩⟩
def c_mail_isOneOf : SCode :=
  .seq (.reg [⟨some 4, .mv (.c (.b false)), none⟩])
  (.seq (.reg [⟨some 5, .mv (.t 1), none⟩,
    ⟨some 6, .mv (.t 0), none⟩,
    ⟨some 7, .call 86 [.t 5, .t 6], none⟩,
    ⟨some 8, .bin .geq (.t 7) (.c (.i .i64 0)), none⟩,
    ⟨some 4, .mv (.t 8), none⟩])
  (.ret))
theorem is_mail_isOneOf : FnIs Try.prog 66 9 [.tmp 4] c_mail_isOneOf := ⟨⟨_, _, Try.func66, rfl, rfl, by kernel_rfl, by kernel_rfl⟩⟩
def c_percent_Decode : SCode :=
  .seq (.reg [⟨some 2, .mv (.c (.s [])), none⟩,
    ⟨some 3, .mv (.c (.i .i64 0)), none⟩])
  (.seq (.reg [⟨some 4, .mv (.t 0), none⟩,
    ⟨some 5, .call 54 [.t 4, .c (.fn 96 [] [])], none⟩,
    ⟨some 6, .ext (.t 5) 0, none⟩,
    ⟨some 7, .ext (.t 5) 1, none⟩,
    ⟨some 2, .mv (.t 6), none⟩,
    ⟨some 3, .mv (.t 7), none⟩])
  (.ret))
theorem is_percent_Decode : FnIs Try.prog 67 8 [.tmp 2, .tmp 3] c_percent_Decode := ⟨⟨_, _, Try.func67, rfl, rfl, by kernel_rfl, by kernel_rfl⟩⟩
def c_number_Strict : SCode :=
  .seq (.reg [⟨some 4, .mv (.c (.i .u64 0)), none⟩,
    ⟨some 5, .mv (.c (.i .i64 0)), none⟩])
  (.seq (.seq (.reg [⟨some 7, .mv (.t 0), none⟩,
    ⟨some 8, .call 97 [.t 7, .c (.fn 73 [] [])], none⟩,
    ⟨some 6, .mv (.t 8), none⟩])
  (.seq (.reg [⟨some 9, .mv (.t 6), none⟩,
    ⟨some 10, .bin .neq (.t 9) (.c (.i .i64 0)), none⟩])
  (.cond (.t 10)
   (.seq (.reg [⟨some 11, .mv (.t 6), none⟩,
     ⟨some 4, .mv (.c (.i .u64 0)), none⟩,
     ⟨some 5, .mv (.t 11), none⟩])
   (.ret))
   (.skip))))
  (.seq (.seq (.reg [⟨some 12, .mv (.t 0), none⟩,
    ⟨some 13, .lens (.t 12), none⟩,
    ⟨some 14, .bin .gtr (.t 13) (.c (.i .i64 1)), none⟩,
    ⟨some 15, .mv (.t 14), none⟩,
    ⟨some 16, .mv (.t 0), some (15, true)⟩,
    ⟨some 17, .idx (.t 16) (.c (.i .i64 0)), some (15, true)⟩,
    ⟨some 18, .bin .eql (.t 17) (.c (.i .u8 48)), some (15, true)⟩,
    ⟨some 19, .pick (.t 15) (.t 18) (.c (.b false)), none⟩])
  (.cond (.t 19)
   (.seq (.reg [⟨some 4, .mv (.c (.i .u64 0)), none⟩,
     ⟨some 5, .mv (.c (.i .i64 6)), none⟩])
   (.ret))
   (.skip)))
  (.seq (.reg [⟨some 20, .mv (.t 0), none⟩,
    ⟨some 21, .mv (.t 1), none⟩,
    ⟨some 22, .call 98 [.t 20, .c (.i .u64 10), .t 21], none⟩,
    ⟨some 23, .ext (.t 22) 0, none⟩,
    ⟨some 24, .ext (.t 22) 1, none⟩,
    ⟨some 4, .mv (.t 23), none⟩,
    ⟨some 5, .mv (.t 24), none⟩])
  (.ret))))
theorem is_number_Strict : FnIs Try.prog 68 25 [.tmp 4, .tmp 5] c_number_Strict := ⟨⟨_, _, Try.func68, rfl, rfl, by kernel_rfl, by kernel_rfl⟩⟩
def c_ref01_IsAlpha : SCode :=
  .seq (.reg [⟨some 2, .mv (.c (.b false)), none⟩])
  (.seq (.reg [⟨some 3, .mv (.t 0), none⟩,
    ⟨some 4, .bin .geq (.t 3) (.c (.i .u8 65)), none⟩,
    ⟨some 5, .mv (.t 4), none⟩,
    ⟨some 6, .mv (.t 0), some (5, true)⟩,
    ⟨some 7, .bin .leq (.t 6) (.c (.i .u8 90)), some (5, true)⟩,
    ⟨some 8, .pick (.t 5) (.t 7) (.c (.b false)), none⟩,
    ⟨some 9, .mv (.t 8), none⟩,
    ⟨some 10, .mv (.t 0), some (9, false)⟩,
    ⟨some 11, .bin .geq (.t 10) (.c (.i .u8 97)), some (9, false)⟩,
    ⟨some 12, .mv (.t 11), some (9, false)⟩,
    ⟨some 13, .mv (.t 0), some (12, true)⟩,
    ⟨some 14, .bin .leq (.t 13) (.c (.i .u8 122)), some (12, true)⟩,
    ⟨some 15, .pick (.t 12) (.t 14) (.c (.b false)), some (9, false)⟩,
    ⟨some 16, .pick (.t 9) (.c (.b true)) (.t 15), none⟩,
    ⟨some 2, .mv (.t 16), none⟩])
  (.ret))
theorem is_ref01_IsAlpha : FnIs Try.prog 69 17 [.tmp 2] c_ref01_IsAlpha := ⟨⟨_, _, Try.func69, rfl, rfl, by kernel_rfl, by kernel_rfl⟩⟩
def c_ref01_IsDigit : SCode :=
  .seq (.reg [⟨some 2, .mv (.c (.b false)), none⟩])
  (.seq (.reg [⟨some 3, .mv (.t 0), none⟩,
    ⟨some 4, .bin .geq (.t 3) (.c (.i .u8 48)), none⟩,
    ⟨some 5, .mv (.t 4), none⟩,
    ⟨some 6, .mv (.t 0), some (5, true)⟩,
    ⟨some 7, .bin .leq (.t 6) (.c (.i .u8 57)), some (5, true)⟩,
    ⟨some 8, .pick (.t 5) (.t 7) (.c (.b false)), none⟩,
    ⟨some 2, .mv (.t 8), none⟩])
  (.ret))
theorem is_ref01_IsDigit : FnIs Try.prog 70 9 [.tmp 2] c_ref01_IsDigit := ⟨⟨_, _, Try.func70, rfl, rfl, by kernel_rfl, by kernel_rfl⟩⟩
def c_ref04_Strict : SCode :=
  .seq (.reg [⟨some 4, .mv (.c (.i .u64 0)), none⟩,
    ⟨some 5, .mv (.c (.i .i64 0)), none⟩])
  (.seq (.reg [⟨some 9, .mv (.t 0), none⟩,
    ⟨some 10, .mv (.t 1), none⟩,
    ⟨some 11, .call 99 [.t 9, .c (.i .u64 10), .t 10], none⟩,
    ⟨some 8, .mv (.t 11), none⟩,
    ⟨some 12, .ext (.t 8) 0, none⟩,
    ⟨some 13, .ext (.t 8) 1, none⟩,
    ⟨some 6, .mv (.t 12), none⟩,
    ⟨some 7, .mv (.t 13), none⟩])
  (.seq (.seq (.reg [⟨some 14, .mv (.t 7), none⟩,
    ⟨some 15, .bin .eql (.t 14) (.c (.i .i64 0)), none⟩,
    ⟨some 16, .mv (.t 15), none⟩,
    ⟨some 17, .mv (.t 7), some (16, false)⟩,
    ⟨some 18, .bin .eql (.t 17) (.c (.i .i64 4)), some (16, false)⟩,
    ⟨some 19, .pick (.t 16) (.c (.b true)) (.t 18), none⟩,
    ⟨some 20, .mv (.t 19), none⟩,
    ⟨some 21, .mv (.t 0), some (20, true)⟩,
    ⟨some 22, .lens (.t 21), some (20, true)⟩,
    ⟨some 23, .bin .gtr (.t 22) (.c (.i .i64 1)), some (20, true)⟩,
    ⟨some 24, .pick (.t 20) (.t 23) (.c (.b false)), none⟩,
    ⟨some 25, .mv (.t 24), none⟩,
    ⟨some 26, .mv (.t 0), some (25, true)⟩,
    ⟨some 27, .idx (.t 26) (.c (.i .i64 0)), some (25, true)⟩,
    ⟨some 28, .bin .eql (.t 27) (.c (.i .u8 48)), some (25, true)⟩,
    ⟨some 29, .pick (.t 25) (.t 28) (.c (.b false)), none⟩])
  (.cond (.t 29)
   (.seq (.reg [⟨some 4, .mv (.c (.i .u64 0)), none⟩,
     ⟨some 5, .mv (.c (.i .i64 6)), none⟩])
   (.ret))
   (.skip)))
  (.seq (.reg [⟨some 30, .mv (.t 6), none⟩,
    ⟨some 31, .mv (.t 7), none⟩,
    ⟨some 4, .mv (.t 30), none⟩,
    ⟨some 5, .mv (.t 31), none⟩])
  (.ret))))
theorem is_ref04_Strict : FnIs Try.prog 71 32 [.tmp 4, .tmp 5] c_ref04_Strict := ⟨⟨_, _, Try.func71, rfl, rfl, by kernel_rfl, by kernel_rfl⟩⟩
def c_ascii_IsAlpha : SCode :=
  .seq (.reg [⟨some 2, .mv (.c (.b false)), none⟩])
  (.seq (.reg [⟨some 3, .mv (.t 0), none⟩,
    ⟨some 4, .bin .geq (.t 3) (.c (.i .u8 97)), none⟩,
    ⟨some 5, .mv (.t 4), none⟩,
    ⟨some 6, .mv (.t 0), some (5, true)⟩,
    ⟨some 7, .bin .leq (.t 6) (.c (.i .u8 122)), some (5, true)⟩,
    ⟨some 8, .pick (.t 5) (.t 7) (.c (.b false)), none⟩,
    ⟨some 9, .mv (.t 8), none⟩,
    ⟨some 10, .mv (.t 0), some (9, false)⟩,
    ⟨some 11, .call 81 [.t 10], some (9, false)⟩,
    ⟨some 12, .pick (.t 9) (.c (.b true)) (.t 11), none⟩,
    ⟨some 2, .mv (.t 12), none⟩])
  (.ret))
theorem is_ascii_IsAlpha : FnIs Try.prog 72 13 [.tmp 2] c_ascii_IsAlpha := ⟨⟨_, _, Try.func72, rfl, rfl, by kernel_rfl, by kernel_rfl⟩⟩
def c_ascii_IsDigit : SCode :=
  .seq (.reg [⟨some 2, .mv (.c (.b false)), none⟩])
  (.seq (.reg [⟨some 3, .mv (.t 0), none⟩,
    ⟨some 4, .bin .geq (.t 3) (.c (.i .u8 48)), none⟩,
    ⟨some 5, .mv (.t 4), none⟩,
    ⟨some 6, .mv (.t 0), some (5, true)⟩,
    ⟨some 7, .bin .leq (.t 6) (.c (.i .u8 57)), some (5, true)⟩,
    ⟨some 8, .pick (.t 5) (.t 7) (.c (.b false)), none⟩,
    ⟨some 2, .mv (.t 8), none⟩])
  (.ret))
theorem is_ascii_IsDigit : FnIs Try.prog 73 9 [.tmp 2] c_ascii_IsDigit := ⟨⟨_, _, Try.func73, rfl, rfl, by kernel_rfl, by kernel_rfl⟩⟩
def c_template_literals_1 : SCode :=
  .seq (.reg [⟨some 2, .mv (.c (.s [])), none⟩])
  (.seq (.reg [⟨some 3, .mv (.c (.s [])), none⟩])
  (.seq (.reg [⟨some 5, .load1 (.t 0), none⟩,
    ⟨some 6, .call 37 [.t 5, .c (.s [123, 117, 114, 105, 125])], none⟩,
    ⟨some 4, .mv (.t 6), none⟩,
    ⟨some 7, .ext (.t 4) 0, none⟩,
    ⟨some 8, .ext (.t 4) 1, none⟩,
    ⟨some 9, .ext (.t 4) 2, none⟩,
    ⟨some 3, .mv (.t 7), none⟩,
    ⟨none, .store 1 (.t 0) (.t 8), none⟩,
    ⟨none, .store 1 (.t 1) (.t 9), none⟩])
  (.seq (.reg [⟨some 10, .mv (.t 3), none⟩,
    ⟨some 2, .mv (.t 10), none⟩])
  (.ret))))
theorem is_template_literals_1 : FnIs Try.prog 74 11 [.tmp 2] c_template_literals_1 := ⟨⟨_, _, Try.func74, rfl, rfl, by kernel_rfl, by kernel_rfl⟩⟩
def c_ref01_Prefix : SCode :=
  .seq (.reg [⟨some 4, .mv (.c (.b false)), none⟩])
  (.seq (.reg [⟨some 5, .mv (.t 0), none⟩,
    ⟨some 6, .lens (.t 5), none⟩,
    ⟨some 7, .mv (.t 1), none⟩,
    ⟨some 8, .lens (.t 7), none⟩,
    ⟨some 9, .bin .geq (.t 6) (.t 8), none⟩,
    ⟨some 10, .mv (.t 9), none⟩,
    ⟨some 11, .mv (.t 0), some (10, true)⟩,
    ⟨some 12, .mv (.t 1), some (10, true)⟩,
    ⟨some 13, .lens (.t 12), some (10, true)⟩,
    ⟨some 14, .slcs (.t 11) none (some (.t 13)), some (10, true)⟩,
    ⟨some 15, .mv (.t 1), some (10, true)⟩,
    ⟨some 16, .bin .eql (.t 14) (.t 15), some (10, true)⟩,
    ⟨some 17, .pick (.t 10) (.t 16) (.c (.b false)), none⟩,
    ⟨some 4, .mv (.t 17), none⟩])
  (.ret))
theorem is_ref01_Prefix : FnIs Try.prog 78 18 [.tmp 4] c_ref01_Prefix := ⟨⟨_, _, Try.func78, rfl, rfl, by kernel_rfl, by kernel_rfl⟩⟩
def c_ref01_IsHex : SCode :=
  .seq (.reg [⟨some 2, .mv (.c (.b false)), none⟩])
  (.seq (.reg [⟨some 3, .mv (.t 0), none⟩,
    ⟨some 4, .call 70 [.t 3], none⟩,
    ⟨some 5, .mv (.t 4), none⟩,
    ⟨some 6, .mv (.t 0), some (5, false)⟩,
    ⟨some 7, .bin .geq (.t 6) (.c (.i .u8 65)), some (5, false)⟩,
    ⟨some 8, .mv (.t 7), some (5, false)⟩,
    ⟨some 9, .mv (.t 0), some (8, true)⟩,
    ⟨some 10, .bin .leq (.t 9) (.c (.i .u8 70)), some (8, true)⟩,
    ⟨some 11, .pick (.t 8) (.t 10) (.c (.b false)), some (5, false)⟩,
    ⟨some 12, .pick (.t 5) (.c (.b true)) (.t 11), none⟩,
    ⟨some 13, .mv (.t 12), none⟩,
    ⟨some 14, .mv (.t 0), some (13, false)⟩,
    ⟨some 15, .bin .geq (.t 14) (.c (.i .u8 97)), some (13, false)⟩,
    ⟨some 16, .mv (.t 15), some (13, false)⟩,
    ⟨some 17, .mv (.t 0), some (16, true)⟩,
    ⟨some 18, .bin .leq (.t 17) (.c (.i .u8 102)), some (16, true)⟩,
    ⟨some 19, .pick (.t 16) (.t 18) (.c (.b false)), some (13, false)⟩,
    ⟨some 20, .pick (.t 13) (.c (.b true)) (.t 19), none⟩,
    ⟨some 2, .mv (.t 20), none⟩])
  (.ret))
theorem is_ref01_IsHex : FnIs Try.prog 79 21 [.tmp 2] c_ref01_IsHex := ⟨⟨_, _, Try.func79, rfl, rfl, by kernel_rfl, by kernel_rfl⟩⟩
def c_ref03_digit : SCode :=
  .seq (.reg [⟨some 2, .mv (.c (.i .u8 0)), none⟩])
  (.seq (.blk 0
   (.seq (.reg [⟨some 4, .mv (.t 0), none⟩,
     ⟨some 5, .bin .leq (.t 4) (.c (.i .u8 57)), none⟩,
     ⟨some 3, .mv (.t 5), none⟩])
   (.cond (.t 3)
    (.seq (.reg [⟨some 6, .mv (.t 0), none⟩,
      ⟨some 7, .bin .sub (.t 6) (.c (.i .u8 48)), none⟩,
      ⟨some 2, .mv (.t 7), none⟩])
    (.ret))
    (.seq (.reg [⟨some 9, .mv (.t 0), none⟩,
      ⟨some 10, .bin .leq (.t 9) (.c (.i .u8 70)), none⟩,
      ⟨some 8, .mv (.t 10), none⟩])
    (.cond (.t 8)
     (.seq (.reg [⟨some 11, .mv (.t 0), none⟩,
       ⟨some 12, .bin .sub (.t 11) (.c (.i .u8 65)), none⟩,
       ⟨some 13, .bin .add (.t 12) (.c (.i .u8 10)), none⟩,
       ⟨some 2, .mv (.t 13), none⟩])
     (.ret))
     (.skip))))))
  (.seq (.reg [⟨some 14, .mv (.t 0), none⟩,
    ⟨some 15, .bin .sub (.t 14) (.c (.i .u8 97)), none⟩,
    ⟨some 16, .bin .add (.t 15) (.c (.i .u8 10)), none⟩,
    ⟨some 2, .mv (.t 16), none⟩])
  (.ret)))
theorem is_ref03_digit : FnIs Try.prog 80 17 [.tmp 2] c_ref03_digit := ⟨⟨_, _, Try.func80, rfl, rfl, by kernel_rfl, by kernel_rfl⟩⟩
def c_ascii_isCapital : SCode :=
  .seq (.reg [⟨some 2, .mv (.c (.b false)), none⟩])
  (.seq (.reg [⟨some 3, .mv (.t 0), none⟩,
    ⟨some 4, .bin .geq (.t 3) (.c (.i .u8 65)), none⟩,
    ⟨some 5, .mv (.t 4), none⟩,
    ⟨some 6, .mv (.t 0), some (5, true)⟩,
    ⟨some 7, .bin .leq (.t 6) (.c (.i .u8 90)), some (5, true)⟩,
    ⟨some 8, .pick (.t 5) (.t 7) (.c (.b false)), none⟩,
    ⟨some 2, .mv (.t 8), none⟩])
  (.ret))
theorem is_ascii_isCapital : FnIs Try.prog 81 9 [.tmp 2] c_ascii_isCapital := ⟨⟨_, _, Try.func81, rfl, rfl, by kernel_rfl, by kernel_rfl⟩⟩
def c_percent_isEscapeAt : SCode :=
  .seq (.reg [⟨some 4, .mv (.c (.b false)), none⟩])
  (.seq (.reg [⟨some 5, .mv (.t 0), none⟩,
    ⟨some 6, .lens (.t 5), none⟩,
    ⟨some 7, .mv (.t 1), none⟩,
    ⟨some 8, .bin .sub (.t 6) (.t 7), none⟩,
    ⟨some 9, .bin .geq (.t 8) (.c (.i .i64 3)), none⟩,
    ⟨some 10, .mv (.t 9), none⟩,
    ⟨some 11, .mv (.t 0), some (10, true)⟩,
    ⟨some 12, .mv (.t 1), some (10, true)⟩,
    ⟨some 13, .bin .add (.t 12) (.c (.i .i64 1)), some (10, true)⟩,
    ⟨some 14, .idx (.t 11) (.t 13), some (10, true)⟩,
    ⟨some 15, .call 102 [.t 14], some (10, true)⟩,
    ⟨some 16, .pick (.t 10) (.t 15) (.c (.b false)), none⟩,
    ⟨some 17, .mv (.t 16), none⟩,
    ⟨some 18, .mv (.t 0), some (17, true)⟩,
    ⟨some 19, .mv (.t 1), some (17, true)⟩,
    ⟨some 20, .bin .add (.t 19) (.c (.i .i64 2)), some (17, true)⟩,
    ⟨some 21, .idx (.t 18) (.t 20), some (17, true)⟩,
    ⟨some 22, .call 102 [.t 21], some (17, true)⟩,
    ⟨some 23, .pick (.t 17) (.t 22) (.c (.b false)), none⟩,
    ⟨some 4, .mv (.t 23), none⟩])
  (.ret))
theorem is_percent_isEscapeAt : FnIs Try.prog 82 24 [.tmp 4] c_percent_isEscapeAt := ⟨⟨_, _, Try.func82, rfl, rfl, by kernel_rfl, by kernel_rfl⟩⟩
def c_percent_digit : SCode :=
  .seq (.reg [⟨some 2, .mv (.c (.i .u8 0)), none⟩])
  (.seq (.seq (.reg [⟨some 3, .mv (.t 0), none⟩,
    ⟨some 4, .call 73 [.t 3], none⟩])
  (.cond (.t 4)
   (.seq (.reg [⟨some 5, .mv (.t 0), none⟩,
     ⟨some 6, .bin .sub (.t 5) (.c (.i .u8 48)), none⟩,
     ⟨some 2, .mv (.t 6), none⟩])
   (.ret))
   (.skip)))
  (.seq (.reg [⟨some 7, .mv (.t 0), none⟩,
    ⟨some 8, .bin .and (.t 7) (.c (.i .u8 223)), none⟩,
    ⟨some 9, .bin .sub (.t 8) (.c (.i .u8 65)), none⟩,
    ⟨some 10, .bin .add (.t 9) (.c (.i .u8 10)), none⟩,
    ⟨some 2, .mv (.t 10), none⟩])
  (.ret)))
theorem is_percent_digit : FnIs Try.prog 83 11 [.tmp 2] c_percent_digit := ⟨⟨_, _, Try.func83, rfl, rfl, by kernel_rfl, by kernel_rfl⟩⟩
def c_ascii_isLetterOrDigit : SCode :=
  .seq (.reg [⟨some 2, .mv (.c (.b false)), none⟩])
  (.seq (.reg [⟨some 3, .mv (.t 0), none⟩,
    ⟨some 4, .call 72 [.t 3], none⟩,
    ⟨some 5, .mv (.t 4), none⟩,
    ⟨some 6, .mv (.t 0), some (5, false)⟩,
    ⟨some 7, .call 73 [.t 6], some (5, false)⟩,
    ⟨some 8, .pick (.t 5) (.c (.b true)) (.t 7), none⟩,
    ⟨some 2, .mv (.t 8), none⟩])
  (.ret))
theorem is_ascii_isLetterOrDigit : FnIs Try.prog 84 9 [.tmp 2] c_ascii_isLetterOrDigit := ⟨⟨_, _, Try.func84, rfl, rfl, by kernel_rfl, by kernel_rfl⟩⟩
def c_ascii_isOneOf : SCode :=
  .seq (.reg [⟨some 4, .mv (.c (.b false)), none⟩])
  (.seq (.reg [⟨some 5, .mv (.t 1), none⟩,
    ⟨some 6, .mv (.t 0), none⟩,
    ⟨some 7, .call 86 [.t 5, .t 6], none⟩,
    ⟨some 8, .bin .geq (.t 7) (.c (.i .i64 0)), none⟩,
    ⟨some 4, .mv (.t 8), none⟩])
  (.ret))
theorem is_ascii_isOneOf : FnIs Try.prog 85 9 [.tmp 4] c_ascii_isOneOf := ⟨⟨_, _, Try.func85, rfl, rfl, by kernel_rfl, by kernel_rfl⟩⟩
def c_host_isLabel : SCode :=
  .seq (.reg [⟨some 2, .mv (.c (.b false)), none⟩])
  (.seq (.seq (.reg [⟨some 4, .mv (.t 0), none⟩,
    ⟨some 5, .bin .eql (.t 4) (.c (.s [])), none⟩,
    ⟨some 6, .mv (.t 5), none⟩,
    ⟨some 7, .mv (.t 0), some (6, false)⟩,
    ⟨some 8, .lens (.t 7), some (6, false)⟩,
    ⟨some 9, .bin .gtr (.t 8) (.c (.i .i64 63)), some (6, false)⟩,
    ⟨some 10, .pick (.t 6) (.c (.b true)) (.t 9), none⟩,
    ⟨some 11, .mv (.t 10), none⟩,
    ⟨some 12, .mv (.t 0), some (11, false)⟩,
    ⟨some 13, .idx (.t 12) (.c (.i .i64 0)), some (11, false)⟩,
    ⟨some 14, .bin .eql (.t 13) (.c (.i .u8 45)), some (11, false)⟩,
    ⟨some 15, .pick (.t 11) (.c (.b true)) (.t 14), none⟩,
    ⟨some 16, .mv (.t 15), none⟩,
    ⟨some 17, .mv (.t 0), some (16, false)⟩,
    ⟨some 18, .mv (.t 0), some (16, false)⟩,
    ⟨some 19, .lens (.t 18), some (16, false)⟩,
    ⟨some 20, .bin .sub (.t 19) (.c (.i .i64 1)), some (16, false)⟩,
    ⟨some 21, .idx (.t 17) (.t 20), some (16, false)⟩,
    ⟨some 22, .bin .eql (.t 21) (.c (.i .u8 45)), some (16, false)⟩,
    ⟨some 23, .pick (.t 16) (.c (.b true)) (.t 22), none⟩])
  (.cond (.t 23)
   (.seq (.reg [⟨some 2, .mv (.c (.b false)), none⟩])
   (.ret))
   (.skip)))
  (.seq (.seq (.reg [⟨some 24, .mv (.t 0), none⟩,
    ⟨some 25, .lens (.t 24), none⟩,
    ⟨some 26, .mv (.c (.i .i64 0)), none⟩])
  (.blk 0
   (.loop
    (.seq (.reg [⟨some 27, .bin .lss (.t 26) (.t 25), none⟩])
    (.seq (.cond (.t 27)
     (.skip)
     (.exit 0))
    (.seq (.blk 1
     (.seq (.reg [⟨some 28, .mv (.t 26), none⟩,
       ⟨some 3, .mv (.t 28), none⟩])
     (.seq (.reg [⟨some 29, .mv (.t 0), none⟩,
       ⟨some 30, .mv (.t 3), none⟩,
       ⟨some 31, .idx (.t 29) (.t 30), none⟩,
       ⟨some 32, .call 72 [.t 31], none⟩,
       ⟨some 33, .not (.t 32), none⟩,
       ⟨some 34, .mv (.t 33), none⟩,
       ⟨some 35, .mv (.t 0), some (34, true)⟩,
       ⟨some 36, .mv (.t 3), some (34, true)⟩,
       ⟨some 37, .idx (.t 35) (.t 36), some (34, true)⟩,
       ⟨some 38, .call 73 [.t 37], some (34, true)⟩,
       ⟨some 39, .not (.t 38), some (34, true)⟩,
       ⟨some 40, .pick (.t 34) (.t 39) (.c (.b false)), none⟩,
       ⟨some 41, .mv (.t 40), none⟩,
       ⟨some 42, .mv (.t 0), some (41, true)⟩,
       ⟨some 43, .mv (.t 3), some (41, true)⟩,
       ⟨some 44, .idx (.t 42) (.t 43), some (41, true)⟩,
       ⟨some 45, .bin .neq (.t 44) (.c (.i .u8 45)), some (41, true)⟩,
       ⟨some 46, .pick (.t 41) (.t 45) (.c (.b false)), none⟩])
     (.cond (.t 46)
      (.seq (.reg [⟨some 2, .mv (.c (.b false)), none⟩])
      (.ret))
      (.skip)))))
    (.reg [⟨some 47, .bin .add (.t 26) (.c (.i .i64 1)), none⟩,
      ⟨some 26, .mv (.t 47), none⟩])))))))
  (.seq (.reg [⟨some 2, .mv (.c (.b true)), none⟩])
  (.ret))))
theorem is_host_isLabel : FnIs Try.prog 87 48 [.tmp 2] c_host_isLabel := ⟨⟨_, _, Try.func87, rfl, rfl, by kernel_rfl, by kernel_rfl⟩⟩
def c_ascii_Digits : SCode :=
  .seq (.reg [⟨some 2, .mv (.c (.b false)), none⟩])
  (.seq (.seq (.reg [⟨some 4, .mv (.t 0), none⟩,
    ⟨some 5, .lens (.t 4), none⟩,
    ⟨some 6, .mv (.c (.i .i64 0)), none⟩])
  (.blk 0
   (.loop
    (.seq (.reg [⟨some 7, .bin .lss (.t 6) (.t 5), none⟩])
    (.seq (.cond (.t 7)
     (.skip)
     (.exit 0))
    (.seq (.blk 1
     (.seq (.reg [⟨some 8, .mv (.t 6), none⟩,
       ⟨some 3, .mv (.t 8), none⟩])
     (.seq (.reg [⟨some 9, .mv (.t 0), none⟩,
       ⟨some 10, .mv (.t 3), none⟩,
       ⟨some 11, .idx (.t 9) (.t 10), none⟩,
       ⟨some 12, .call 73 [.t 11], none⟩,
       ⟨some 13, .not (.t 12), none⟩])
     (.cond (.t 13)
      (.seq (.reg [⟨some 2, .mv (.c (.b false)), none⟩])
      (.ret))
      (.skip)))))
    (.reg [⟨some 14, .bin .add (.t 6) (.c (.i .i64 1)), none⟩,
      ⟨some 6, .mv (.t 14), none⟩])))))))
  (.seq (.reg [⟨some 15, .mv (.t 0), none⟩,
    ⟨some 16, .bin .neq (.t 15) (.c (.s [])), none⟩,
    ⟨some 2, .mv (.t 16), none⟩])
  (.ret)))
theorem is_ascii_Digits : FnIs Try.prog 88 17 [.tmp 2] c_ascii_Digits := ⟨⟨_, _, Try.func88, rfl, rfl, by kernel_rfl, by kernel_rfl⟩⟩
def c_ref05_label : SCode :=
  .seq (.reg [⟨some 2, .mv (.c (.b false)), none⟩])
  (.seq (.seq (.reg [⟨some 3, .mv (.c (.i .i64 0)), none⟩])
  (.blk 0
   (.loop
    (.seq (.seq (.reg [⟨some 4, .mv (.t 3), none⟩,
      ⟨some 5, .mv (.t 0), none⟩,
      ⟨some 6, .lens (.t 5), none⟩,
      ⟨some 7, .bin .lss (.t 4) (.t 6), none⟩])
    (.cond (.t 7)
     (.skip)
     (.exit 0)))
    (.seq (.blk 1
     (.seq (.reg [⟨some 10, .mv (.t 0), none⟩,
       ⟨some 11, .mv (.t 3), none⟩,
       ⟨some 12, .idx (.t 10) (.t 11), none⟩,
       ⟨some 13, .call 69 [.t 12], none⟩,
       ⟨some 14, .not (.t 13), none⟩,
       ⟨some 15, .mv (.t 14), none⟩,
       ⟨some 16, .mv (.t 0), some (15, true)⟩,
       ⟨some 17, .mv (.t 3), some (15, true)⟩,
       ⟨some 18, .idx (.t 16) (.t 17), some (15, true)⟩,
       ⟨some 19, .call 70 [.t 18], some (15, true)⟩,
       ⟨some 20, .not (.t 19), some (15, true)⟩,
       ⟨some 21, .pick (.t 15) (.t 20) (.c (.b false)), none⟩,
       ⟨some 22, .mv (.t 21), none⟩,
       ⟨some 23, .mv (.t 0), some (22, true)⟩,
       ⟨some 24, .mv (.t 3), some (22, true)⟩,
       ⟨some 25, .idx (.t 23) (.t 24), some (22, true)⟩,
       ⟨some 26, .bin .neq (.t 25) (.c (.i .u8 45)), some (22, true)⟩,
       ⟨some 27, .pick (.t 22) (.t 26) (.c (.b false)), none⟩])
     (.cond (.t 27)
      (.seq (.reg [⟨some 2, .mv (.c (.b false)), none⟩])
      (.ret))
      (.skip))))
    (.reg [⟨some 8, .mv (.t 3), none⟩,
      ⟨some 9, .bin .add (.t 8) (.c (.i .i64 1)), none⟩,
      ⟨some 3, .mv (.t 9), none⟩]))))))
  (.seq (.reg [⟨some 28, .mv (.t 0), none⟩,
    ⟨some 29, .bin .neq (.t 28) (.c (.s [])), none⟩,
    ⟨some 30, .mv (.t 29), none⟩,
    ⟨some 31, .mv (.t 0), some (30, true)⟩,
    ⟨some 32, .lens (.t 31), some (30, true)⟩,
    ⟨some 33, .bin .leq (.t 32) (.c (.i .i64 63)), some (30, true)⟩,
    ⟨some 34, .pick (.t 30) (.t 33) (.c (.b false)), none⟩,
    ⟨some 35, .mv (.t 34), none⟩,
    ⟨some 36, .mv (.t 0), some (35, true)⟩,
    ⟨some 37, .idx (.t 36) (.c (.i .i64 0)), some (35, true)⟩,
    ⟨some 38, .bin .neq (.t 37) (.c (.i .u8 45)), some (35, true)⟩,
    ⟨some 39, .pick (.t 35) (.t 38) (.c (.b false)), none⟩,
    ⟨some 40, .mv (.t 39), none⟩,
    ⟨some 41, .mv (.t 0), some (40, true)⟩,
    ⟨some 42, .mv (.t 0), some (40, true)⟩,
    ⟨some 43, .lens (.t 42), some (40, true)⟩,
    ⟨some 44, .bin .sub (.t 43) (.c (.i .i64 1)), some (40, true)⟩,
    ⟨some 45, .idx (.t 41) (.t 44), some (40, true)⟩,
    ⟨some 46, .bin .neq (.t 45) (.c (.i .u8 45)), some (40, true)⟩,
    ⟨some 47, .pick (.t 40) (.t 46) (.c (.b false)), none⟩,
    ⟨some 2, .mv (.t 47), none⟩])
  (.ret)))
theorem is_ref05_label : FnIs Try.prog 89 48 [.tmp 2] c_ref05_label := ⟨⟨_, _, Try.func89, rfl, rfl, by kernel_rfl, by kernel_rfl⟩⟩
def c_ref01_Digits : SCode :=
  .seq (.reg [⟨some 2, .mv (.c (.b false)), none⟩])
  (.seq (.seq (.reg [⟨some 3, .mv (.c (.i .i64 0)), none⟩])
  (.blk 0
   (.loop
    (.seq (.seq (.reg [⟨some 4, .mv (.t 3), none⟩,
      ⟨some 5, .mv (.t 0), none⟩,
      ⟨some 6, .lens (.t 5), none⟩,
      ⟨some 7, .bin .lss (.t 4) (.t 6), none⟩])
    (.cond (.t 7)
     (.skip)
     (.exit 0)))
    (.seq (.blk 1
     (.seq (.reg [⟨some 10, .mv (.t 0), none⟩,
       ⟨some 11, .mv (.t 3), none⟩,
       ⟨some 12, .idx (.t 10) (.t 11), none⟩,
       ⟨some 13, .call 70 [.t 12], none⟩,
       ⟨some 14, .not (.t 13), none⟩])
     (.cond (.t 14)
      (.seq (.reg [⟨some 2, .mv (.c (.b false)), none⟩])
      (.ret))
      (.skip))))
    (.reg [⟨some 8, .mv (.t 3), none⟩,
      ⟨some 9, .bin .add (.t 8) (.c (.i .i64 1)), none⟩,
      ⟨some 3, .mv (.t 9), none⟩]))))))
  (.seq (.reg [⟨some 15, .mv (.t 0), none⟩,
    ⟨some 16, .bin .neq (.t 15) (.c (.s [])), none⟩,
    ⟨some 2, .mv (.t 16), none⟩])
  (.ret)))
theorem is_ref01_Digits : FnIs Try.prog 90 17 [.tmp 2] c_ref01_Digits := ⟨⟨_, _, Try.func90, rfl, rfl, by kernel_rfl, by kernel_rfl⟩⟩
def c_percent_Decode_1 : SCode :=
  .seq (.reg [⟨some 6, .mv (.c .nil), none⟩,
    ⟨some 7, .mv (.c (.i .i64 0)), none⟩])
  (.seq (.reg [⟨some 8, .mv (.t 0), none⟩,
    ⟨some 9, .mv (.t 1), none⟩,
    ⟨some 10, .bslice 1 [.i .u8 0] [(0, (1, .t 9))], none⟩,
    ⟨some 11, .app 5 1 1 (.t 8) (.t 10), none⟩,
    ⟨some 6, .mv (.t 11), none⟩,
    ⟨some 7, .mv (.c (.i .i64 0)), none⟩])
  (.ret))
theorem is_percent_Decode_1 : FnIs Try.prog 96 12 [.tmp 6, .tmp 7] c_percent_Decode_1 := ⟨⟨_, _, Try.func96, rfl, rfl, by kernel_rfl, by kernel_rfl⟩⟩
def c_number_check : SCode :=
  .seq (.reg [⟨some 4, .mv (.c (.i .i64 0)), none⟩])
  (.seq (.seq (.reg [⟨some 6, .mv (.t 0), none⟩,
    ⟨some 7, .bin .eql (.t 6) (.c (.s [])), none⟩])
  (.cond (.t 7)
   (.seq (.reg [⟨some 4, .mv (.c (.i .i64 3)), none⟩])
   (.ret))
   (.skip)))
  (.seq (.seq (.reg [⟨some 8, .mv (.t 0), none⟩,
    ⟨some 9, .lens (.t 8), none⟩,
    ⟨some 10, .mv (.c (.i .i64 0)), none⟩])
  (.blk 0
   (.loop
    (.seq (.reg [⟨some 11, .bin .lss (.t 10) (.t 9), none⟩])
    (.seq (.cond (.t 11)
     (.skip)
     (.exit 0))
    (.seq (.blk 1
     (.seq (.reg [⟨some 12, .mv (.t 10), none⟩,
       ⟨some 5, .mv (.t 12), none⟩])
     (.seq (.reg [⟨some 13, .mv (.t 1), none⟩,
       ⟨some 14, .mv (.t 0), none⟩,
       ⟨some 15, .mv (.t 5), none⟩,
       ⟨some 16, .idx (.t 14) (.t 15), none⟩,
       ⟨some 17, .callv (.t 13) [.t 16], none⟩,
       ⟨some 18, .not (.t 17), none⟩])
     (.cond (.t 18)
      (.seq (.reg [⟨some 4, .mv (.c (.i .i64 1)), none⟩])
      (.ret))
      (.skip)))))
    (.reg [⟨some 19, .bin .add (.t 10) (.c (.i .i64 1)), none⟩,
      ⟨some 10, .mv (.t 19), none⟩])))))))
  (.seq (.reg [⟨some 4, .mv (.c (.i .i64 0)), none⟩])
  (.ret))))
theorem is_number_check : FnIs Try.prog 97 20 [.tmp 4] c_number_check := ⟨⟨_, _, Try.func97, rfl, rfl, by kernel_rfl, by kernel_rfl⟩⟩
def c_number_value : SCode :=
  .seq (.reg [⟨some 6, .mv (.c (.i .u64 0)), none⟩,
    ⟨some 7, .mv (.c (.i .i64 0)), none⟩])
  (.seq (.reg [⟨some 8, .mv (.c (.i .u64 0)), none⟩])
  (.seq (.seq (.reg [⟨some 11, .mv (.t 0), none⟩,
    ⟨some 12, .lens (.t 11), none⟩,
    ⟨some 13, .mv (.c (.i .i64 0)), none⟩])
  (.blk 0
   (.loop
    (.seq (.reg [⟨some 14, .bin .lss (.t 13) (.t 12), none⟩])
    (.seq (.cond (.t 14)
     (.skip)
     (.exit 0))
    (.seq (.blk 1
     (.seq (.reg [⟨some 15, .mv (.t 13), none⟩,
       ⟨some 9, .mv (.t 15), none⟩])
     (.seq (.reg [⟨some 16, .mv (.t 0), none⟩,
       ⟨some 17, .mv (.t 9), none⟩,
       ⟨some 18, .idx (.t 16) (.t 17), none⟩,
       ⟨some 19, .call 108 [.t 18], none⟩,
       ⟨some 10, .mv (.t 19), none⟩])
     (.seq (.seq (.reg [⟨some 20, .mv (.t 10), none⟩,
       ⟨some 21, .mv (.t 2), none⟩,
       ⟨some 22, .bin .gtr (.t 20) (.t 21), none⟩,
       ⟨some 23, .mv (.t 22), none⟩,
       ⟨some 24, .mv (.t 8), some (23, false)⟩,
       ⟨some 25, .mv (.t 2), some (23, false)⟩,
       ⟨some 26, .mv (.t 10), some (23, false)⟩,
       ⟨some 27, .bin .sub (.t 25) (.t 26), some (23, false)⟩,
       ⟨some 28, .mv (.t 1), some (23, false)⟩,
       ⟨some 29, .bin .quo (.t 27) (.t 28), some (23, false)⟩,
       ⟨some 30, .bin .gtr (.t 24) (.t 29), some (23, false)⟩,
       ⟨some 31, .pick (.t 23) (.c (.b true)) (.t 30), none⟩])
     (.cond (.t 31)
      (.seq (.reg [⟨some 6, .mv (.c (.i .u64 0)), none⟩,
        ⟨some 7, .mv (.c (.i .i64 4)), none⟩])
      (.ret))
      (.skip)))
     (.reg [⟨some 32, .mv (.t 8), none⟩,
       ⟨some 33, .mv (.t 1), none⟩,
       ⟨some 34, .bin .mul (.t 32) (.t 33), none⟩,
       ⟨some 35, .mv (.t 10), none⟩,
       ⟨some 36, .bin .add (.t 34) (.t 35), none⟩,
       ⟨some 8, .mv (.t 36), none⟩])))))
    (.reg [⟨some 37, .bin .add (.t 13) (.c (.i .i64 1)), none⟩,
      ⟨some 13, .mv (.t 37), none⟩])))))))
  (.seq (.reg [⟨some 38, .mv (.t 8), none⟩,
    ⟨some 6, .mv (.t 38), none⟩,
    ⟨some 7, .mv (.c (.i .i64 0)), none⟩])
  (.ret))))
theorem is_number_value : FnIs Try.prog 98 39 [.tmp 6, .tmp 7] c_number_value := ⟨⟨_, _, Try.func98, rfl, rfl, by kernel_rfl, by kernel_rfl⟩⟩
def c_ref04_parse : SCode :=
  .seq (.reg [⟨some 6, .mv (.c (.i .u64 0)), none⟩,
    ⟨some 7, .mv (.c (.i .i64 0)), none⟩])
  (.seq (.seq (.reg [⟨some 12, .mv (.t 0), none⟩,
    ⟨some 13, .bin .eql (.t 12) (.c (.s [])), none⟩])
  (.cond (.t 13)
   (.seq (.reg [⟨some 6, .mv (.c (.i .u64 0)), none⟩,
     ⟨some 7, .mv (.c (.i .i64 3)), none⟩])
   (.ret))
   (.skip)))
  (.seq (.seq (.reg [⟨some 8, .mv (.c (.i .i64 0)), none⟩])
  (.blk 0
   (.loop
    (.seq (.seq (.reg [⟨some 14, .mv (.t 8), none⟩,
      ⟨some 15, .mv (.t 0), none⟩,
      ⟨some 16, .lens (.t 15), none⟩,
      ⟨some 17, .bin .lss (.t 14) (.t 16), none⟩])
    (.cond (.t 17)
     (.skip)
     (.exit 0)))
    (.seq (.blk 1
     (.seq (.reg [⟨some 20, .mv (.t 1), none⟩,
       ⟨some 21, .bin .eql (.t 20) (.c (.i .u64 10)), none⟩,
       ⟨some 22, .mv (.t 21), none⟩,
       ⟨some 23, .mv (.t 0), some (22, true)⟩,
       ⟨some 24, .mv (.t 8), some (22, true)⟩,
       ⟨some 25, .idx (.t 23) (.t 24), some (22, true)⟩,
       ⟨some 26, .call 70 [.t 25], some (22, true)⟩,
       ⟨some 27, .not (.t 26), some (22, true)⟩,
       ⟨some 28, .pick (.t 22) (.t 27) (.c (.b false)), none⟩,
       ⟨some 29, .mv (.t 28), none⟩,
       ⟨some 30, .mv (.t 1), some (29, false)⟩,
       ⟨some 31, .bin .eql (.t 30) (.c (.i .u64 16)), some (29, false)⟩,
       ⟨some 32, .mv (.t 31), some (29, false)⟩,
       ⟨some 33, .mv (.t 0), some (32, true)⟩,
       ⟨some 34, .mv (.t 8), some (32, true)⟩,
       ⟨some 35, .idx (.t 33) (.t 34), some (32, true)⟩,
       ⟨some 36, .call 79 [.t 35], some (32, true)⟩,
       ⟨some 37, .not (.t 36), some (32, true)⟩,
       ⟨some 38, .pick (.t 32) (.t 37) (.c (.b false)), some (29, false)⟩,
       ⟨some 39, .pick (.t 29) (.c (.b true)) (.t 38), none⟩])
     (.cond (.t 39)
      (.seq (.reg [⟨some 6, .mv (.c (.i .u64 0)), none⟩,
        ⟨some 7, .mv (.c (.i .i64 1)), none⟩])
      (.ret))
      (.skip))))
    (.reg [⟨some 18, .mv (.t 8), none⟩,
      ⟨some 19, .bin .add (.t 18) (.c (.i .i64 1)), none⟩,
      ⟨some 8, .mv (.t 19), none⟩]))))))
  (.seq (.reg [⟨some 9, .mv (.c (.i .u64 0)), none⟩])
  (.seq (.seq (.reg [⟨some 10, .mv (.c (.i .i64 0)), none⟩])
  (.blk 2
   (.loop
    (.seq (.seq (.reg [⟨some 40, .mv (.t 10), none⟩,
      ⟨some 41, .mv (.t 0), none⟩,
      ⟨some 42, .lens (.t 41), none⟩,
      ⟨some 43, .bin .lss (.t 40) (.t 42), none⟩])
    (.cond (.t 43)
     (.skip)
     (.exit 2)))
    (.seq (.blk 3
     (.seq (.reg [⟨some 46, .mv (.t 0), none⟩,
       ⟨some 47, .mv (.t 10), none⟩,
       ⟨some 48, .idx (.t 46) (.t 47), none⟩,
       ⟨some 49, .bin .sub (.t 48) (.c (.i .u8 48)), none⟩,
       ⟨some 50, .cvi .u64 (.t 49), none⟩,
       ⟨some 11, .mv (.t 50), none⟩])
     (.seq (.seq (.reg [⟨some 51, .mv (.t 0), none⟩,
       ⟨some 52, .mv (.t 10), none⟩,
       ⟨some 53, .idx (.t 51) (.t 52), none⟩,
       ⟨some 54, .bin .gtr (.t 53) (.c (.i .u8 57)), none⟩])
     (.cond (.t 54)
      (.reg [⟨some 55, .mv (.t 0), none⟩,
        ⟨some 56, .mv (.t 10), none⟩,
        ⟨some 57, .idx (.t 55) (.t 56), none⟩,
        ⟨some 58, .bin .or (.t 57) (.c (.i .u8 32)), none⟩,
        ⟨some 59, .cvi .u64 (.t 58), none⟩,
        ⟨some 60, .bin .sub (.t 59) (.c (.i .u64 97)), none⟩,
        ⟨some 61, .bin .add (.t 60) (.c (.i .u64 10)), none⟩,
        ⟨some 11, .mv (.t 61), none⟩])
      (.skip)))
     (.seq (.seq (.reg [⟨some 62, .mv (.t 9), none⟩,
       ⟨some 63, .mv (.t 2), none⟩,
       ⟨some 64, .mv (.t 1), none⟩,
       ⟨some 65, .bin .quo (.t 63) (.t 64), none⟩,
       ⟨some 66, .bin .gtr (.t 62) (.t 65), none⟩,
       ⟨some 67, .mv (.t 66), none⟩,
       ⟨some 68, .mv (.t 9), some (67, false)⟩,
       ⟨some 69, .mv (.t 1), some (67, false)⟩,
       ⟨some 70, .bin .mul (.t 68) (.t 69), some (67, false)⟩,
       ⟨some 71, .mv (.t 2), some (67, false)⟩,
       ⟨some 72, .mv (.t 11), some (67, false)⟩,
       ⟨some 73, .bin .sub (.t 71) (.t 72), some (67, false)⟩,
       ⟨some 74, .bin .gtr (.t 70) (.t 73), some (67, false)⟩,
       ⟨some 75, .pick (.t 67) (.c (.b true)) (.t 74), none⟩,
       ⟨some 76, .mv (.t 75), none⟩,
       ⟨some 77, .mv (.t 11), some (76, false)⟩,
       ⟨some 78, .mv (.t 2), some (76, false)⟩,
       ⟨some 79, .bin .gtr (.t 77) (.t 78), some (76, false)⟩,
       ⟨some 80, .pick (.t 76) (.c (.b true)) (.t 79), none⟩])
     (.cond (.t 80)
      (.seq (.reg [⟨some 6, .mv (.c (.i .u64 0)), none⟩,
        ⟨some 7, .mv (.c (.i .i64 4)), none⟩])
      (.ret))
      (.skip)))
     (.reg [⟨some 81, .mv (.t 9), none⟩,
       ⟨some 82, .mv (.t 1), none⟩,
       ⟨some 83, .bin .mul (.t 81) (.t 82), none⟩,
       ⟨some 84, .mv (.t 11), none⟩,
       ⟨some 85, .bin .add (.t 83) (.t 84), none⟩,
       ⟨some 9, .mv (.t 85), none⟩])))))
    (.reg [⟨some 44, .mv (.t 10), none⟩,
      ⟨some 45, .bin .add (.t 44) (.c (.i .i64 1)), none⟩,
      ⟨some 10, .mv (.t 45), none⟩]))))))
  (.seq (.reg [⟨some 86, .mv (.t 9), none⟩,
    ⟨some 6, .mv (.t 86), none⟩,
    ⟨some 7, .mv (.c (.i .i64 0)), none⟩])
  (.ret))))))
theorem is_ref04_parse : FnIs Try.prog 99 87 [.tmp 6, .tmp 7] c_ref04_parse := ⟨⟨_, _, Try.func99, rfl, rfl, by kernel_rfl, by kernel_rfl⟩⟩
def c_ascii_IsHex : SCode :=
  .seq (.reg [⟨some 2, .mv (.c (.b false)), none⟩])
  (.seq (.reg [⟨some 3, .mv (.t 0), none⟩,
    ⟨some 4, .call 73 [.t 3], none⟩,
    ⟨some 5, .mv (.t 4), none⟩,
    ⟨some 6, .mv (.t 0), some (5, false)⟩,
    ⟨some 7, .bin .geq (.t 6) (.c (.i .u8 97)), some (5, false)⟩,
    ⟨some 8, .mv (.t 7), some (5, false)⟩,
    ⟨some 9, .mv (.t 0), some (8, true)⟩,
    ⟨some 10, .bin .leq (.t 9) (.c (.i .u8 102)), some (8, true)⟩,
    ⟨some 11, .pick (.t 8) (.t 10) (.c (.b false)), some (5, false)⟩,
    ⟨some 12, .pick (.t 5) (.c (.b true)) (.t 11), none⟩,
    ⟨some 13, .mv (.t 12), none⟩,
    ⟨some 14, .mv (.t 0), some (13, false)⟩,
    ⟨some 15, .bin .geq (.t 14) (.c (.i .u8 65)), some (13, false)⟩,
    ⟨some 16, .mv (.t 15), some (13, false)⟩,
    ⟨some 17, .mv (.t 0), some (16, true)⟩,
    ⟨some 18, .bin .leq (.t 17) (.c (.i .u8 70)), some (16, true)⟩,
    ⟨some 19, .pick (.t 16) (.t 18) (.c (.b false)), some (13, false)⟩,
    ⟨some 20, .pick (.t 13) (.c (.b true)) (.t 19), none⟩,
    ⟨some 2, .mv (.t 20), none⟩])
  (.ret))
theorem is_ascii_IsHex : FnIs Try.prog 102 21 [.tmp 2] c_ascii_IsHex := ⟨⟨_, _, Try.func102, rfl, rfl, by kernel_rfl, by kernel_rfl⟩⟩
def c_number_digit : SCode :=
  .seq (.reg [⟨some 2, .mv (.c (.i .u64 0)), none⟩])
  (.seq (.seq (.reg [⟨some 3, .mv (.t 0), none⟩,
    ⟨some 4, .call 73 [.t 3], none⟩])
  (.cond (.t 4)
   (.seq (.reg [⟨some 5, .mv (.t 0), none⟩,
     ⟨some 6, .bin .sub (.t 5) (.c (.i .u8 48)), none⟩,
     ⟨some 7, .cvi .u64 (.t 6), none⟩,
     ⟨some 2, .mv (.t 7), none⟩])
   (.ret))
   (.skip)))
  (.seq (.reg [⟨some 8, .mv (.t 0), none⟩,
    ⟨some 9, .bin .and (.t 8) (.c (.i .u8 223)), none⟩,
    ⟨some 10, .bin .sub (.t 9) (.c (.i .u8 65)), none⟩,
    ⟨some 11, .cvi .u64 (.t 10), none⟩,
    ⟨some 12, .bin .add (.t 11) (.c (.i .u64 10)), none⟩,
    ⟨some 2, .mv (.t 12), none⟩])
  (.ret)))
theorem is_number_digit : FnIs Try.prog 108 13 [.tmp 2] c_number_digit := ⟨⟨_, _, Try.func108, rfl, rfl, by kernel_rfl, by kernel_rfl⟩⟩
end Go.Proofs.Ytdominegknnbhaa.Sx
