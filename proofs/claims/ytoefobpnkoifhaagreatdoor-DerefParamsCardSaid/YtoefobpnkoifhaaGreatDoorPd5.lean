/- The texts that the proofs of these statements reach, in their order, as few files. -/
import Derived.Test.YtoefobpnkoifhaaGreatDoorProg
import Derived.Laws.Rows
import Derived.Lib.ItoaMem
import Derived.Lib.ItoaLen
import Derived.Lib.Walk
import Derived.Lib.ItoaWalk
import Derived.Lib.AppendIntMem
import Derived.Lib.LaidTab
import Derived.BigCall
import Derived.BigGuard
import Derived.Lib.Split
import Derived.Lib.IndexMore
import Derived.Lib.Builder
import Derived.Lib.UnsafeStr
import Derived.Shelf.RegionOpenPlain
import Derived.Laws.Externs
import Derived.Lib.SplitLaws
import Derived.BigRegion
import Derived.Deep.RegionLaw
import Derived.Deep.RegionHeldLaw
import Derived.Deep.DrawnRows
import Derived.Lib.Join
import Derived.Test.YtoefobpnkoifhaaGreatDoorPd4
set_option linter.unusedVariables false
set_option linter.unusedSimpArgs false
set_option maxRecDepth 100000
namespace Go.Proofs.YtoefobpnkoifhaaGreatDoor.Sx
open Go.RowKit
set_option maxRecDepth 100000
def c_law29_DerefParams:SCode :=
 .seq (.reg [⟨some 2,.mv (.c (.b false)),none⟩])
 (.seq (.seq (.reg [⟨some 3,.call 4 [],none⟩,
 ⟨some 4,.not (.t 3),none⟩])
 (.cond (.t 4)
 (.seq (.reg [⟨some 2,.mv (.c (.b false)),none⟩])
 (.ret))
 (.skip)))
 (.seq (.reg [⟨some 5,.mv (.t 0),none⟩,
 ⟨some 6,.lens (.t 5),none⟩,
 ⟨some 7,.bin .gtr (.t 6) (.c (.i .i64 1000)),none⟩,
 ⟨some 8,.mv (.t 7),none⟩,
 ⟨some 9,.mv (.t 0),some (8,false)⟩,
 ⟨some 10,.call 6 [.t 9],some (8,false)⟩,
 ⟨some 11,.mv (.t 0),some (8,false)⟩,
 ⟨some 12,.call 7 [.t 11],some (8,false)⟩,
 ⟨some 13,.call 5 [.t 10,.t 12],some (8,false)⟩,
 ⟨some 14,.pick (.t 8) (.c (.b true)) (.t 13),none⟩,
 ⟨some 2,.mv (.t 14),none⟩])
 (.ret)))
theorem is_law29_DerefParams:FnIs Tryz.prog 3 15 [.tmp 2] c_law29_DerefParams:=⟨⟨_,_,Tryz.func3,rfl,rfl,by kernel_rfl,by kernel_rfl⟩⟩
def c_law29_sane:SCode :=
 .seq (.reg [⟨some 0,.mv (.c (.b false)),none⟩])
 (.seq (.reg [⟨some 7,.call 8 [.c (.s [123,34,105,100,34,58,34,100,105,100,58,119,101,98,58,97,46,101,120,97,109,112,108,101,34,44,34,115,101,114,118,105,99,101,34,58,91,123,34,105,100,34,58,34,35,102,105,108,101,115,34,44,34,116,121,112,101,34,58,34,88,34,44,34,115,101,114,118,105,99,101,69,110,100,112,111,105,110,116,34,58,34,104,116,116,112,115,58,47,47,97,46,101,120,97,109,112,108,101,47,102,47,34,125,93,125])],none⟩,
 ⟨some 6,.mv (.t 7),none⟩,
 ⟨some 8,.ext (.t 6) 0,none⟩,
 ⟨some 9,.ext (.t 6) 1,none⟩,
 ⟨some 10,.ext (.t 6) 2,none⟩,
 ⟨some 1,.alloc 30 [.i .i64 0,.s [],.nil,.nil],none⟩,
 ⟨none,.store 4 (.t 1) (.t 8),none⟩,
 ⟨some 2,.mv (.t 9),none⟩,
 ⟨some 3,.mv (.t 10),none⟩])
 (.seq (.reg [⟨some 12,.loadn 4 (.t 1),none⟩,
 ⟨some 13,.build [.s [],.s []] [(0,(1,.c (.s [119,101,98]))),(1,(1,.c (.s [97,46,101,120,97,109,112,108,101])))],none⟩,
 ⟨some 14,.build [.s [],.s [],.s [],.s [],.s [],.b false,.b false] [(0,(2,.t 13)),(3,(1,.c (.s [115,101,114,118,105,99,101,61,102,105,108,101,115,38,114,101,108,97,116,105,118,101,82,101,102,61,120,37,50,70,121]))),(5,(1,.c (.b true)))],none⟩,
 ⟨some 15,.call 9 [.t 12,.t 14],none⟩,
 ⟨some 11,.mv (.t 15),none⟩,
 ⟨some 16,.ext (.t 11) 0,none⟩,
 ⟨some 17,.ext (.t 11) 1,none⟩,
 ⟨some 4,.mv (.t 16),none⟩,
 ⟨some 5,.mv (.t 17),none⟩])
 (.seq (.reg [⟨some 18,.mv (.t 5),none⟩,
 ⟨some 19,.bin .eql (.t 18) (.c (.i .i64 0)),none⟩,
 ⟨some 20,.mv (.t 19),none⟩,
 ⟨some 21,.mv (.t 4),some (20,true)⟩,
 ⟨some 22,.bin .eql (.t 21) (.c (.s [104,116,116,112,115,58,47,47,97,46,101,120,97,109,112,108,101,47,102,47,120,47,121])),some (20,true)⟩,
 ⟨some 23,.pick (.t 20) (.t 22) (.c (.b false)),none⟩,
 ⟨some 24,.mv (.t 23),none⟩,
 ⟨some 25,.call 6 [.c (.s [97,38,38,98,61,49,38,99,61,37,120])],some (24,true)⟩,
 ⟨some 26,.lenr (.t 25),some (24,true)⟩,
 ⟨some 27,.bin .eql (.t 26) (.c (.i .i64 2)),some (24,true)⟩,
 ⟨some 28,.pick (.t 24) (.t 27) (.c (.b false)),none⟩,
 ⟨some 0,.mv (.t 28),none⟩])
 (.ret))))
theorem is_law29_sane:FnIs Tryz.prog 4 29 [.tmp 0] c_law29_sane:=⟨⟨_,_,Tryz.func4,rfl,rfl,by kernel_rfl,by kernel_rfl⟩⟩
def c_ref18_SameFields:SCode :=
 .seq (.reg [⟨some 4,.mv (.c (.b false)),none⟩])
 (.seq (.seq (.reg [⟨some 6,.mv (.t 0),none⟩,
 ⟨some 7,.lenr (.t 6),none⟩,
 ⟨some 8,.mv (.t 1),none⟩,
 ⟨some 9,.lenr (.t 8),none⟩,
 ⟨some 10,.bin .neq (.t 7) (.t 9),none⟩])
 (.cond (.t 10)
 (.seq (.reg [⟨some 4,.mv (.c (.b false)),none⟩])
 (.ret))
 (.skip)))
 (.seq (.seq (.reg [⟨some 11,.mv (.t 0),none⟩,
 ⟨some 12,.lenr (.t 11),none⟩,
 ⟨some 13,.mv (.c (.i .i64 0)),none⟩])
 (.blk 0
 (.loop
 (.seq (.reg [⟨some 14,.bin .lss (.t 13) (.t 12),none⟩])
 (.seq (.cond (.t 14)
 (.skip)
 (.exit 0))
 (.seq (.blk 1
 (.seq (.reg [⟨some 15,.mv (.t 13),none⟩,
 ⟨some 5,.mv (.t 15),none⟩])
 (.seq (.drw [⟨some 16,.mv (.t 0),none⟩,
 ⟨some 17,.mv (.t 5),none⟩,
 ⟨some 18,.iad 2 (.t 16) (.t 17),none⟩,
 ⟨some 19,.loadn 2 (.t 18),none⟩,
 ⟨some 20,.mv (.t 1),none⟩,
 ⟨some 21,.mv (.t 5),none⟩,
 ⟨some 22,.iad 2 (.t 20) (.t 21),none⟩,
 ⟨some 23,.loadn 2 (.t 22),none⟩,
 ⟨some 24,.eqs true (.str [(0,(none,.ts)),(1,(none,.ts))]) (.t 19) (.t 23),none⟩] 9 [])
 (.cond (.t 24)
 (.seq (.reg [⟨some 4,.mv (.c (.b false)),none⟩])
 (.ret))
 (.skip)))))
 (.reg [⟨some 25,.bin .add (.t 13) (.c (.i .i64 1)),none⟩,
 ⟨some 13,.mv (.t 25),none⟩])))))))
 (.seq (.reg [⟨some 4,.mv (.c (.b true)),none⟩])
 (.ret))))
theorem is_ref18_SameFields:FnIs Tryz.prog 5 26 [.tmp 4] c_ref18_SameFields:=⟨⟨_,_,Tryz.func5,rfl,rfl,by kernel_rfl,by kernel_rfl⟩⟩
def c_ref29_Params:SCode :=
 .seq (.reg [⟨some 2,.mv (.c .nil),none⟩])
 (.seq (.reg [⟨some 3,.mv (.c .nil),none⟩])
 (.seq (.seq (.reg [⟨some 9,.mv (.t 0),none⟩,
 ⟨some 10,.call 13 [.t 9,.c (.i .u8 38)],none⟩,
 ⟨some 11,.lenr (.t 10),none⟩,
 ⟨some 12,.mv (.c (.i .i64 0)),none⟩])
 (.blk 0
 (.loop
 (.seq (.reg [⟨some 13,.bin .lss (.t 12) (.t 11),none⟩])
 (.seq (.cond (.t 13)
 (.skip)
 (.exit 0))
 (.seq (.blk 1
 (.seq (.reg [⟨some 14,.iad 1 (.t 10) (.t 12),none⟩,
 ⟨some 15,.load1 (.t 14),none⟩,
 ⟨some 5,.mv (.t 15),none⟩])
 (.seq (.reg [⟨some 16,.mv (.t 5),none⟩,
 ⟨some 17,.call 14 [.t 16,.c (.s [61])],none⟩,
 ⟨some 6,.mv (.t 17),none⟩])
 (.seq (.reg [⟨some 19,.mv (.t 5),none⟩,
 ⟨some 20,.mv (.t 6),none⟩,
 ⟨some 21,.bin .add (.t 20) (.c (.i .i64 1)),none⟩,
 ⟨some 22,.call 16 [.t 19,.t 21],none⟩,
 ⟨some 23,.call 15 [.t 22],none⟩,
 ⟨some 18,.mv (.t 23),none⟩,
 ⟨some 24,.ext (.t 18) 0,none⟩,
 ⟨some 25,.ext (.t 18) 1,none⟩,
 ⟨some 7,.mv (.t 24),none⟩,
 ⟨some 8,.mv (.t 25),none⟩])
 (.seq (.reg [⟨some 26,.mv (.t 5),none⟩,
 ⟨some 27,.bin .neq (.t 26) (.c (.s [])),none⟩,
 ⟨some 28,.mv (.t 27),none⟩,
 ⟨some 29,.mv (.t 8),some (28,true)⟩,
 ⟨some 30,.bin .eql (.t 29) (.c (.i .i64 0)),some (28,true)⟩,
 ⟨some 31,.pick (.t 28) (.t 30) (.c (.b false)),none⟩])
 (.cond (.t 31)
 (.reg [⟨some 32,.mv (.t 3),none⟩,
 ⟨some 33,.mv (.t 5),none⟩,
 ⟨some 34,.mv (.t 6),none⟩,
 ⟨some 35,.slcs (.t 33) none (some (.t 34)),none⟩,
 ⟨some 36,.mv (.t 7),none⟩,
 ⟨some 37,.build [.s [],.s []] [(0,(1,.t 35)),(1,(1,.t 36))],none⟩,
 ⟨some 38,.bslice 1 [.s [],.s []] [(0,(2,.t 37))],none⟩,
 ⟨some 39,.app 41 2 32 (.t 32) (.t 38),none⟩,
 ⟨some 3,.mv (.t 39),none⟩])
 (.skip)))))))
 (.reg [⟨some 40,.bin .add (.t 12) (.c (.i .i64 1)),none⟩,
 ⟨some 12,.mv (.t 40),none⟩])))))))
 (.seq (.reg [⟨some 41,.mv (.t 3),none⟩,
 ⟨some 2,.mv (.t 41),none⟩])
 (.ret))))
theorem is_ref29_Params:FnIs Tryz.prog 7 42 [.tmp 2] c_ref29_Params:=⟨⟨_,_,Tryz.func7,rfl,rfl,by kernel_rfl,by kernel_rfl⟩⟩
def c_ref14_Parse:SCode :=
 .seq (.reg [⟨some 2,.alloc 30 [.i .i64 0,.s [],.nil,.nil],none⟩,
 ⟨some 3,.mv (.c (.i .i64 0)),none⟩,
 ⟨some 4,.mv (.c (.i .i64 0)),none⟩])
 (.seq (.seq (.reg [⟨some 8,.mv (.t 0),none⟩,
 ⟨some 9,.lens (.t 8),none⟩,
 ⟨some 10,.bin .gtr (.t 9) (.c (.i .i64 1048576)),none⟩])
 (.cond (.t 10)
 (.seq (.reg [⟨some 11,.build [.i .i64 0,.s [],.nil,.nil] [],none⟩,
 ⟨none,.store 4 (.t 2) (.t 11),none⟩,
 ⟨some 3,.mv (.c (.i .i64 0)),none⟩,
 ⟨some 4,.mv (.c (.i .i64 142)),none⟩])
 (.ret))
 (.skip)))
 (.seq (.reg [⟨some 12,.mv (.t 0),none⟩,
 ⟨some 13,.build [.s [],.i .i64 0,.i .i64 0,.i .i64 0,.i .i64 0] [(0,(1,.t 12))],none⟩,
 ⟨some 14,.box 53 (.t 13),none⟩,
 ⟨some 5,.mv (.t 14),none⟩])
 (.seq (.reg [⟨some 15,.mv (.t 5),none⟩,
 ⟨some 16,.mv (.t 5),none⟩,
 ⟨some 17,.call 18 [.t 16],none⟩,
 ⟨some 18,.call 17 [.t 15,.t 17,.c (.i .i64 0)],none⟩,
 ⟨some 6,.alloc 30 [.i .i64 0,.s [],.nil,.nil],none⟩,
 ⟨none,.store 4 (.t 6) (.t 18),none⟩])
 (.seq (.seq (.reg [⟨some 19,.mv (.t 5),none⟩,
 ⟨some 20,.call 18 [.t 19],none⟩,
 ⟨some 7,.alloc 56 [.i .i64 0,.s [],.i .i64 0],none⟩,
 ⟨none,.store 3 (.t 7) (.t 20),none⟩])
 (.seq (.reg [⟨some 21,.mv (.t 5),none⟩,
 ⟨some 22,.nck (.t 21),none⟩,
 ⟨some 23,.fad 3 (.t 22),none⟩,
 ⟨some 24,.load1 (.t 23),none⟩,
 ⟨some 25,.bin .eql (.t 24) (.c (.i .i64 0)),none⟩,
 ⟨some 26,.mv (.t 25),none⟩,
 ⟨some 27,.fad 0 (.t 7),some (26,true)⟩,
 ⟨some 28,.load1 (.t 27),some (26,true)⟩,
 ⟨some 29,.bin .neq (.t 28) (.c (.i .i64 1)),some (26,true)⟩,
 ⟨some 30,.pick (.t 26) (.t 29) (.c (.b false)),none⟩])
 (.cond (.t 30)
 (.reg [⟨some 31,.mv (.t 5),none⟩,
 ⟨some 32,.fad 2 (.t 7),none⟩,
 ⟨some 33,.load1 (.t 32),none⟩,
 ⟨some 34,.call 19 [.t 31,.t 33,.c (.i .i64 140)],none⟩])
 (.skip))))
 (.seq (.seq (.reg [⟨some 35,.mv (.t 5),none⟩,
 ⟨some 36,.nck (.t 35),none⟩,
 ⟨some 37,.fad 3 (.t 36),none⟩,
 ⟨some 38,.load1 (.t 37),none⟩,
 ⟨some 39,.bin .neq (.t 38) (.c (.i .i64 0)),none⟩])
 (.cond (.t 39)
 (.seq (.drw [⟨some 40,.build [.i .i64 0,.s [],.nil,.nil] [],none⟩,
 ⟨some 41,.mv (.t 5),none⟩,
 ⟨some 42,.nck (.t 41),none⟩,
 ⟨some 43,.fad 4 (.t 42),none⟩,
 ⟨some 44,.load1 (.t 43),none⟩,
 ⟨some 45,.mv (.t 5),none⟩,
 ⟨some 46,.nck (.t 45),none⟩,
 ⟨some 47,.fad 3 (.t 46),none⟩,
 ⟨some 48,.load1 (.t 47),none⟩,
 ⟨none,.store 4 (.t 2) (.t 40),none⟩,
 ⟨some 3,.mv (.t 44),none⟩,
 ⟨some 4,.mv (.t 48),none⟩] 12 [(43,(2,none)),(47,(2,none))])
 (.ret))
 (.skip)))
 (.seq (.reg [⟨some 49,.loadn 4 (.t 6),none⟩,
 ⟨some 50,.mv (.t 0),none⟩,
 ⟨some 51,.lens (.t 50),none⟩,
 ⟨none,.store 4 (.t 2) (.t 49),none⟩,
 ⟨some 3,.mv (.t 51),none⟩,
 ⟨some 4,.mv (.c (.i .i64 0)),none⟩])
 (.ret)))))))
theorem is_ref14_Parse:FnIs Tryz.prog 8 52 [.celln 2 4,.tmp 3,.tmp 4] c_ref14_Parse:=⟨⟨_,_,Tryz.func8,rfl,rfl,by kernel_rfl,by kernel_rfl⟩⟩
def c_deref_Service:SCode :=
 .seq (.reg [⟨some 2,.box 30 (.t 0),none⟩,
 ⟨some 3,.box 39 (.t 1),none⟩,
 ⟨some 4,.mv (.c (.s [])),none⟩,
 ⟨some 5,.mv (.c (.i .i64 0)),none⟩])
 (.seq (.reg [⟨some 17,.loadn 4 (.t 2),none⟩,
 ⟨some 18,.call 20 [.t 17],none⟩,
 ⟨some 16,.mv (.t 18),none⟩,
 ⟨some 19,.ext (.t 16) 0,none⟩,
 ⟨some 20,.ext (.t 16) 1,none⟩,
 ⟨some 6,.alloc 62 [.s [],.nil,.nil,.nil,.nil],none⟩,
 ⟨none,.store 5 (.t 6) (.t 19),none⟩,
 ⟨some 7,.mv (.t 20),none⟩])
 (.seq (.seq (.reg [⟨some 21,.mv (.t 7),none⟩,
 ⟨some 22,.bin .neq (.t 21) (.c (.i .i64 0)),none⟩])
 (.cond (.t 22)
 (.seq (.reg [⟨some 23,.mv (.t 7),none⟩,
 ⟨some 4,.mv (.c (.s [])),none⟩,
 ⟨some 5,.mv (.t 23),none⟩])
 (.ret))
 (.skip)))
 (.seq (.reg [⟨some 24,.loadn 7 (.t 3),none⟩,
 ⟨some 25,.call 21 [.t 24],none⟩,
 ⟨some 8,.mv (.t 25),none⟩])
 (.seq (.reg [⟨some 27,.mv (.t 8),none⟩,
 ⟨some 28,.callv (.t 27) [.c (.s [115,101,114,118,105,99,101])],none⟩,
 ⟨some 26,.mv (.t 28),none⟩,
 ⟨some 29,.ext (.t 26) 0,none⟩,
 ⟨some 30,.ext (.t 26) 1,none⟩,
 ⟨some 9,.mv (.t 29),none⟩,
 ⟨some 10,.mv (.t 30),none⟩])
 (.seq (.seq (.reg [⟨some 31,.mv (.t 10),none⟩,
 ⟨some 32,.not (.t 31),none⟩])
 (.cond (.t 32)
 (.seq (.reg [⟨some 4,.mv (.c (.s [])),none⟩,
 ⟨some 5,.mv (.c (.i .i64 290)),none⟩])
 (.ret))
 (.skip)))
 (.seq (.drw [⟨some 34,.loadn 5 (.t 6),none⟩,
 ⟨some 35,.fad 0 (.t 3),none⟩,
 ⟨some 36,.loadn 2 (.t 35),none⟩,
 ⟨some 37,.pcall 23 [.t 36],none⟩,
 ⟨some 38,.bin .add (.t 37) (.c (.s [35])),none⟩,
 ⟨some 39,.mv (.t 9),none⟩,
 ⟨some 40,.bin .add (.t 38) (.t 39),none⟩,
 ⟨some 41,.pcall 22 [.t 34,.t 40],none⟩,
 ⟨some 33,.mv (.t 41),none⟩,
 ⟨some 42,.ext (.t 33) 0,none⟩,
 ⟨some 43,.ext (.t 33) 1,none⟩,
 ⟨some 11,.alloc 69 [.s [],.nil,.nil],none⟩,
 ⟨none,.store 3 (.t 11) (.t 42),none⟩,
 ⟨some 10,.mv (.t 43),none⟩] 14 [(6,(11,none)),(35,(11,none))])
 (.seq (.seq (.reg [⟨some 44,.mv (.t 10),none⟩,
 ⟨some 45,.not (.t 44),none⟩])
 (.cond (.t 45)
 (.seq (.reg [⟨some 4,.mv (.c (.s [])),none⟩,
 ⟨some 5,.mv (.c (.i .i64 290)),none⟩])
 (.ret))
 (.skip)))
 (.seq (.seq (.reg [⟨some 46,.fad 2 (.t 11),none⟩,
 ⟨some 47,.load1 (.t 46),none⟩,
 ⟨some 48,.lenr (.t 47),none⟩,
 ⟨some 49,.bin .eql (.t 48) (.c (.i .i64 0)),none⟩])
 (.cond (.t 49)
 (.seq (.reg [⟨some 4,.mv (.c (.s [])),none⟩,
 ⟨some 5,.mv (.c (.i .i64 292)),none⟩])
 (.ret))
 (.skip)))
 (.seq (.reg [⟨some 51,.fad 2 (.t 11),none⟩,
 ⟨some 52,.load1 (.t 51),none⟩,
 ⟨some 53,.iad 1 (.t 52) (.c (.i .i64 0)),none⟩,
 ⟨some 54,.load1 (.t 53),none⟩,
 ⟨some 55,.call 24 [.t 54],none⟩,
 ⟨some 50,.mv (.t 55),none⟩,
 ⟨some 56,.ext (.t 50) 0,none⟩,
 ⟨some 57,.ext (.t 50) 1,none⟩,
 ⟨some 12,.alloc 74 [.s [],.i .i64 0,.s [],.s [],.s [],.b false,.b false],none⟩,
 ⟨none,.store 7 (.t 12) (.t 56),none⟩,
 ⟨some 7,.mv (.t 57),none⟩])
 (.seq (.seq (.reg [⟨some 58,.mv (.t 7),none⟩,
 ⟨some 59,.bin .neq (.t 58) (.c (.i .i64 0)),none⟩])
 (.cond (.t 59)
 (.seq (.reg [⟨some 4,.mv (.c (.s [])),none⟩,
 ⟨some 5,.mv (.c (.i .i64 292)),none⟩])
 (.ret))
 (.skip)))
 (.seq (.seq (.reg [⟨some 61,.mv (.t 8),none⟩,
 ⟨some 62,.callv (.t 61) [.c (.s [114,101,108,97,116,105,118,101,82,101,102])],none⟩,
 ⟨some 60,.mv (.t 62),none⟩,
 ⟨some 63,.ext (.t 60) 0,none⟩,
 ⟨some 64,.ext (.t 60) 1,none⟩,
 ⟨some 13,.mv (.t 63),none⟩,
 ⟨some 14,.mv (.t 64),none⟩])
 (.seq (.reg [⟨some 65,.mv (.t 14),none⟩])
 (.cond (.t 65)
 (.seq (.reg [⟨some 67,.loadn 7 (.t 12),none⟩,
 ⟨some 68,.mv (.t 13),none⟩,
 ⟨some 69,.call 25 [.t 67,.t 68],none⟩,
 ⟨some 66,.mv (.t 69),none⟩,
 ⟨some 70,.ext (.t 66) 0,none⟩,
 ⟨some 71,.ext (.t 66) 1,none⟩,
 ⟨none,.store 7 (.t 12) (.t 70),none⟩,
 ⟨some 7,.mv (.t 71),none⟩])
 (.seq (.reg [⟨some 72,.mv (.t 7),none⟩,
 ⟨some 73,.bin .neq (.t 72) (.c (.i .i64 0)),none⟩])
 (.cond (.t 73)
 (.seq (.reg [⟨some 4,.mv (.c (.s [])),none⟩,
 ⟨some 5,.mv (.c (.i .i64 292)),none⟩])
 (.ret))
 (.skip))))
 (.skip))))
 (.seq (.seq (.reg [⟨some 74,.fad 6 (.t 3),none⟩,
 ⟨some 75,.load1 (.t 74),none⟩,
 ⟨some 76,.mv (.t 75),none⟩,
 ⟨some 77,.fad 6 (.t 12),some (76,true)⟩,
 ⟨some 78,.load1 (.t 77),some (76,true)⟩,
 ⟨some 79,.not (.t 78),some (76,true)⟩,
 ⟨some 80,.pick (.t 76) (.t 79) (.c (.b false)),none⟩])
 (.cond (.t 80)
 (.reg [⟨some 81,.fad 4 (.t 3),none⟩,
 ⟨some 82,.load1 (.t 81),none⟩,
 ⟨some 83,.fad 4 (.t 12),none⟩,
 ⟨none,.store 1 (.t 83) (.t 82),none⟩,
 ⟨some 84,.fad 6 (.t 12),none⟩,
 ⟨none,.store 1 (.t 84) (.c (.b true)),none⟩])
 (.skip)))
 (.seq (.reg [⟨some 85,.loadn 7 (.t 12),none⟩,
 ⟨some 86,.call 26 [.t 85],none⟩,
 ⟨some 15,.mv (.t 86),none⟩])
 (.seq (.seq (.reg [⟨some 87,.mv (.t 15),none⟩,
 ⟨some 88,.lens (.t 87),none⟩,
 ⟨some 89,.bin .gtr (.t 88) (.c (.i .i64 4096)),none⟩])
 (.cond (.t 89)
 (.seq (.reg [⟨some 4,.mv (.c (.s [])),none⟩,
 ⟨some 5,.mv (.c (.i .i64 292)),none⟩])
 (.ret))
 (.skip)))
 (.seq (.reg [⟨some 90,.mv (.t 15),none⟩,
 ⟨some 4,.mv (.t 90),none⟩,
 ⟨some 5,.mv (.c (.i .i64 0)),none⟩])
 (.ret))))))))))))))))
theorem is_deref_Service:FnIs Tryz.prog 9 91 [.tmp 4,.tmp 5] c_deref_Service:=⟨⟨_,_,Tryz.func9,rfl,rfl,by kernel_rfl,by kernel_rfl⟩⟩
def c_deref_parts:SCode :=
 .seq (.reg [⟨some 1,.box 9 (.t 0),none⟩,
 ⟨some 2,.mv (.c (.o .nilFunc)),none⟩])
 (.seq (.reg [⟨some 3,.mkf 27 [] [.t 1],none⟩,
 ⟨some 2,.mv (.t 3),none⟩])
 (.ret))
theorem is_deref_parts:FnIs Tryz.prog 10 4 [.tmp 2] c_deref_parts:=⟨⟨_,_,Tryz.func10,rfl,rfl,by kernel_rfl,by kernel_rfl⟩⟩
def c_percent_Decode:SCode :=
 .seq (.reg [⟨some 2,.mv (.c (.s [])),none⟩,
 ⟨some 3,.mv (.c (.i .i64 0)),none⟩])
 (.seq (.reg [⟨some 4,.mv (.t 0),none⟩,
 ⟨some 5,.call 29 [.t 4,.c (.fn 30 [] [])],none⟩,
 ⟨some 6,.ext (.t 5) 0,none⟩,
 ⟨some 7,.ext (.t 5) 1,none⟩,
 ⟨some 2,.mv (.t 6),none⟩,
 ⟨some 3,.mv (.t 7),none⟩])
 (.ret))
theorem is_percent_Decode:FnIs Tryz.prog 12 8 [.tmp 2,.tmp 3] c_percent_Decode:=⟨⟨_,_,Tryz.func12,rfl,rfl,by kernel_rfl,by kernel_rfl⟩⟩
def c_ref01_Split:SCode :=
 .seq (.reg [⟨some 4,.mv (.c .nil),none⟩])
 (.seq (.reg [⟨some 5,.mv (.c .nil),none⟩])
 (.seq (.reg [⟨some 6,.mv (.c (.i .i64 0)),none⟩])
 (.seq (.seq (.reg [⟨some 7,.mv (.c (.i .i64 0)),none⟩])
 (.blk 0
 (.loop
 (.seq (.seq (.reg [⟨some 8,.mv (.t 7),none⟩,
 ⟨some 9,.mv (.t 0),none⟩,
 ⟨some 10,.lens (.t 9),none⟩,
 ⟨some 11,.bin .lss (.t 8) (.t 10),none⟩])
 (.cond (.t 11)
 (.skip)
 (.exit 0)))
 (.seq (.blk 1
 (.seq (.reg [⟨some 14,.mv (.t 0),none⟩,
 ⟨some 15,.mv (.t 7),none⟩,
 ⟨some 16,.idx (.t 14) (.t 15),none⟩,
 ⟨some 17,.mv (.t 1),none⟩,
 ⟨some 18,.bin .eql (.t 16) (.t 17),none⟩])
 (.cond (.t 18)
 (.reg [⟨some 19,.mv (.t 5),none⟩,
 ⟨some 20,.mv (.t 0),none⟩,
 ⟨some 21,.mv (.t 6),none⟩,
 ⟨some 22,.mv (.t 7),none⟩,
 ⟨some 23,.slcs (.t 20) (some (.t 21)) (some (.t 22)),none⟩,
 ⟨some 24,.bslice 1 [.s []] [(0,(1,.t 23))],none⟩,
 ⟨some 25,.app 9 1 16 (.t 19) (.t 24),none⟩,
 ⟨some 26,.mv (.t 7),none⟩,
 ⟨some 27,.bin .add (.t 26) (.c (.i .i64 1)),none⟩,
 ⟨some 5,.mv (.t 25),none⟩,
 ⟨some 6,.mv (.t 27),none⟩])
 (.skip))))
 (.reg [⟨some 12,.mv (.t 7),none⟩,
 ⟨some 13,.bin .add (.t 12) (.c (.i .i64 1)),none⟩,
 ⟨some 7,.mv (.t 13),none⟩]))))))
 (.seq (.reg [⟨some 28,.mv (.t 5),none⟩,
 ⟨some 29,.mv (.t 0),none⟩,
 ⟨some 30,.mv (.t 6),none⟩,
 ⟨some 31,.slcs (.t 29) (some (.t 30)) none,none⟩,
 ⟨some 32,.bslice 1 [.s []] [(0,(1,.t 31))],none⟩,
 ⟨some 33,.app 9 1 16 (.t 28) (.t 32),none⟩,
 ⟨some 4,.mv (.t 33),none⟩])
 (.ret)))))
theorem is_ref01_Split:FnIs Tryz.prog 13 34 [.tmp 4] c_ref01_Split:=⟨⟨_,_,Tryz.func13,rfl,rfl,by kernel_rfl,by kernel_rfl⟩⟩
def c_ref01_Index:SCode :=
 .seq (.reg [⟨some 4,.mv (.c (.i .i64 0)),none⟩])
 (.seq (.seq (.reg [⟨some 5,.mv (.c (.i .i64 0)),none⟩])
 (.blk 0
 (.loop
 (.seq (.seq (.reg [⟨some 6,.mv (.t 5),none⟩,
 ⟨some 7,.mv (.t 0),none⟩,
 ⟨some 8,.lens (.t 7),none⟩,
 ⟨some 9,.bin .lss (.t 6) (.t 8),none⟩])
 (.cond (.t 9)
 (.skip)
 (.exit 0)))
 (.seq (.blk 1
 (.seq (.reg [⟨some 12,.mv (.t 0),none⟩,
 ⟨some 13,.mv (.t 5),none⟩,
 ⟨some 14,.idx (.t 12) (.t 13),none⟩,
 ⟨some 15,.mv (.t 1),none⟩,
 ⟨some 16,.call 31 [.t 14,.t 15],none⟩])
 (.cond (.t 16)
 (.seq (.reg [⟨some 17,.mv (.t 5),none⟩,
 ⟨some 4,.mv (.t 17),none⟩])
 (.ret))
 (.skip))))
 (.reg [⟨some 10,.mv (.t 5),none⟩,
 ⟨some 11,.bin .add (.t 10) (.c (.i .i64 1)),none⟩,
 ⟨some 5,.mv (.t 11),none⟩]))))))
 (.seq (.reg [⟨some 18,.mv (.t 0),none⟩,
 ⟨some 19,.lens (.t 18),none⟩,
 ⟨some 4,.mv (.t 19),none⟩])
 (.ret)))
theorem is_ref01_Index:FnIs Tryz.prog 14 20 [.tmp 4] c_ref01_Index:=⟨⟨_,_,Tryz.func14,rfl,rfl,by kernel_rfl,by kernel_rfl⟩⟩
def c_ref03_Decode:SCode :=
 .seq (.reg [⟨some 2,.mv (.c (.s [])),none⟩,
 ⟨some 3,.mv (.c (.i .i64 0)),none⟩])
 (.seq (.seq (.reg [⟨some 9,.mv (.t 0),none⟩,
 ⟨some 10,.lens (.t 9),none⟩,
 ⟨some 11,.bin .gtr (.t 10) (.c (.i .i64 16384)),none⟩])
 (.cond (.t 11)
 (.seq (.reg [⟨some 2,.mv (.c (.s [])),none⟩,
 ⟨some 3,.mv (.c (.i .i64 5)),none⟩])
 (.ret))
 (.skip)))
 (.seq (.reg [⟨some 4,.mv (.c .nil),none⟩])
 (.seq (.seq (.reg [⟨some 5,.mv (.c (.i .i64 0)),none⟩])
 (.blk 0
 (.loop
 (.seq (.seq (.reg [⟨some 12,.mv (.t 5),none⟩,
 ⟨some 13,.mv (.t 0),none⟩,
 ⟨some 14,.lens (.t 13),none⟩,
 ⟨some 15,.bin .lss (.t 12) (.t 14),none⟩])
 (.cond (.t 15)
 (.skip)
 (.exit 0)))
 (.seq (.blk 1
 (.seq (.reg [⟨some 18,.mv (.t 0),none⟩,
 ⟨some 19,.mv (.t 5),none⟩,
 ⟨some 20,.idx (.t 18) (.t 19),none⟩,
 ⟨some 6,.mv (.t 20),none⟩])
 (.seq (.seq (.reg [⟨some 21,.mv (.t 6),none⟩,
 ⟨some 22,.bin .eql (.t 21) (.c (.i .u8 37)),none⟩])
 (.cond (.t 22)
 (.seq (.reg [⟨some 24,.mv (.t 0),none⟩,
 ⟨some 25,.mv (.t 5),none⟩,
 ⟨some 26,.call 32 [.t 24,.t 25],none⟩,
 ⟨some 23,.mv (.t 26),none⟩,
 ⟨some 27,.ext (.t 23) 0,none⟩,
 ⟨some 28,.ext (.t 23) 1,none⟩,
 ⟨some 7,.mv (.t 27),none⟩,
 ⟨some 8,.mv (.t 28),none⟩])
 (.seq (.seq (.reg [⟨some 29,.mv (.t 8),none⟩,
 ⟨some 30,.not (.t 29),none⟩])
 (.cond (.t 30)
 (.seq (.reg [⟨some 2,.mv (.c (.s [])),none⟩,
 ⟨some 3,.mv (.c (.i .i64 2)),none⟩])
 (.ret))
 (.skip)))
 (.reg [⟨some 31,.mv (.t 7),none⟩,
 ⟨some 32,.mv (.t 5),none⟩,
 ⟨some 33,.bin .add (.t 32) (.c (.i .i64 2)),none⟩,
 ⟨some 6,.mv (.t 31),none⟩,
 ⟨some 5,.mv (.t 33),none⟩])))
 (.skip)))
 (.reg [⟨some 34,.mv (.t 4),none⟩,
 ⟨some 35,.mv (.t 6),none⟩,
 ⟨some 36,.bslice 1 [.i .u8 0] [(0,(1,.t 35))],none⟩,
 ⟨some 37,.app 5 1 1 (.t 34) (.t 36),none⟩,
 ⟨some 4,.mv (.t 37),none⟩]))))
 (.reg [⟨some 16,.mv (.t 5),none⟩,
 ⟨some 17,.bin .add (.t 16) (.c (.i .i64 1)),none⟩,
 ⟨some 5,.mv (.t 17),none⟩]))))))
 (.seq (.reg [⟨some 38,.mv (.t 4),none⟩,
 ⟨some 39,.cvbs (.t 38),none⟩,
 ⟨some 2,.mv (.t 39),none⟩,
 ⟨some 3,.mv (.c (.i .i64 0)),none⟩])
 (.ret)))))
theorem is_ref03_Decode:FnIs Tryz.prog 15 40 [.tmp 2,.tmp 3] c_ref03_Decode:=⟨⟨_,_,Tryz.func15,rfl,rfl,by kernel_rfl,by kernel_rfl⟩⟩
def c_ref29_tail:SCode :=
 .seq (.reg [⟨some 4,.mv (.c (.s [])),none⟩])
 (.seq (.seq (.reg [⟨some 5,.mv (.t 1),none⟩,
 ⟨some 6,.mv (.t 0),none⟩,
 ⟨some 7,.lens (.t 6),none⟩,
 ⟨some 8,.bin .geq (.t 5) (.t 7),none⟩])
 (.cond (.t 8)
 (.seq (.reg [⟨some 4,.mv (.c (.s [])),none⟩])
 (.ret))
 (.skip)))
 (.seq (.reg [⟨some 9,.mv (.t 0),none⟩,
 ⟨some 10,.mv (.t 1),none⟩,
 ⟨some 11,.slcs (.t 9) (some (.t 10)) none,none⟩,
 ⟨some 4,.mv (.t 11),none⟩])
 (.ret)))
theorem is_ref29_tail:FnIs Tryz.prog 16 12 [.tmp 4] c_ref29_tail:=⟨⟨_,_,Tryz.func16,rfl,rfl,by kernel_rfl,by kernel_rfl⟩⟩
def c_ref14_parser_value:SCode :=
 .seq (.reg [⟨some 4,.box 56 (.t 1),none⟩,
 ⟨some 6,.alloc 30 [.i .i64 0,.s [],.nil,.nil],none⟩])
 (.seq (.reg [⟨some 11,.fad 0 (.t 4),none⟩,
 ⟨some 12,.load1 (.t 11),none⟩,
 ⟨some 13,.bin .eql (.t 12) (.c (.i .i64 3)),none⟩,
 ⟨some 14,.mv (.t 13),none⟩,
 ⟨some 15,.fad 0 (.t 4),some (14,false)⟩,
 ⟨some 16,.load1 (.t 15),some (14,false)⟩,
 ⟨some 17,.bin .eql (.t 16) (.c (.i .i64 4)),some (14,false)⟩,
 ⟨some 18,.pick (.t 14) (.c (.b true)) (.t 17),none⟩,
 ⟨some 19,.mv (.t 18),none⟩,
 ⟨some 20,.fad 0 (.t 4),some (19,false)⟩,
 ⟨some 21,.load1 (.t 20),some (19,false)⟩,
 ⟨some 22,.bin .eql (.t 21) (.c (.i .i64 5)),some (19,false)⟩,
 ⟨some 23,.pick (.t 19) (.c (.b true)) (.t 22),none⟩,
 ⟨some 24,.mv (.t 23),none⟩,
 ⟨some 25,.loadn 3 (.t 4),some (24,false)⟩,
 ⟨some 26,.call 33 [.t 25,.c (.s [91])],some (24,false)⟩,
 ⟨some 27,.pick (.t 24) (.c (.b true)) (.t 26),none⟩,
 ⟨some 28,.mv (.t 27),none⟩,
 ⟨some 29,.loadn 3 (.t 4),some (28,false)⟩,
 ⟨some 30,.call 33 [.t 29,.c (.s [123])],some (28,false)⟩,
 ⟨some 31,.pick (.t 28) (.c (.b true)) (.t 30),none⟩,
 ⟨some 7,.mv (.t 31),none⟩])
 (.seq (.seq (.reg [⟨some 32,.mv (.t 0),none⟩,
 ⟨some 33,.nck (.t 32),none⟩,
 ⟨some 34,.fad 3 (.t 33),none⟩,
 ⟨some 35,.load1 (.t 34),none⟩,
 ⟨some 36,.bin .neq (.t 35) (.c (.i .i64 0)),none⟩])
 (.cond (.t 36)
 (.seq (.reg [⟨some 37,.build [.i .i64 0,.s [],.nil,.nil] [],none⟩,
 ⟨none,.store 4 (.t 6) (.t 37),none⟩])
 (.ret))
 (.skip)))
 (.seq (.seq (.reg [⟨some 38,.mv (.t 7),none⟩,
 ⟨some 39,.not (.t 38),none⟩])
 (.cond (.t 39)
 (.seq (.reg [⟨some 40,.mv (.t 0),none⟩,
 ⟨some 41,.fad 2 (.t 4),none⟩,
 ⟨some 42,.load1 (.t 41),none⟩,
 ⟨some 43,.call 19 [.t 40,.t 42,.c (.i .i64 140)],none⟩])
 (.seq (.reg [⟨some 44,.build [.i .i64 0,.s [],.nil,.nil] [],none⟩,
 ⟨none,.store 4 (.t 6) (.t 44),none⟩])
 (.ret)))
 (.skip)))
 (.seq (.seq (.reg [⟨some 45,.fad 0 (.t 4),none⟩,
 ⟨some 46,.load1 (.t 45),none⟩,
 ⟨some 47,.bin .eql (.t 46) (.c (.i .i64 2)),none⟩,
 ⟨some 48,.mv (.t 47),none⟩,
 ⟨some 49,.mv (.t 2),some (48,true)⟩,
 ⟨some 50,.bin .eql (.t 49) (.c (.i .i64 64)),some (48,true)⟩,
 ⟨some 51,.pick (.t 48) (.t 50) (.c (.b false)),none⟩])
 (.cond (.t 51)
 (.seq (.reg [⟨some 52,.mv (.t 0),none⟩,
 ⟨some 53,.fad 2 (.t 4),none⟩,
 ⟨some 54,.load1 (.t 53),none⟩,
 ⟨some 55,.call 19 [.t 52,.t 54,.c (.i .i64 141)],none⟩])
 (.seq (.reg [⟨some 56,.build [.i .i64 0,.s [],.nil,.nil] [],none⟩,
 ⟨none,.store 4 (.t 6) (.t 56),none⟩])
 (.ret)))
 (.skip)))
 (.seq (.reg [⟨some 57,.fad 1 (.t 4),none⟩,
 ⟨some 58,.load1 (.t 57),none⟩,
 ⟨some 59,.build [.i .i64 0,.s [],.nil,.nil] [(0,(1,.c (.i .i64 5))),(1,(1,.t 58))],none⟩,
 ⟨some 8,.alloc 30 [.i .i64 0,.s [],.nil,.nil],none⟩,
 ⟨none,.store 4 (.t 8) (.t 59),none⟩])
 (.seq (.seq (.reg [⟨some 60,.fad 0 (.t 4),none⟩,
 ⟨some 61,.load1 (.t 60),none⟩,
 ⟨some 62,.bin .eql (.t 61) (.c (.i .i64 4)),none⟩])
 (.cond (.t 62)
 (.seq (.reg [⟨some 64,.fad 1 (.t 4),none⟩,
 ⟨some 65,.load1 (.t 64),none⟩,
 ⟨some 66,.call 34 [.t 65],none⟩,
 ⟨some 63,.mv (.t 66),none⟩,
 ⟨some 67,.ext (.t 63) 0,none⟩,
 ⟨some 68,.ext (.t 63) 1,none⟩,
 ⟨some 9,.mv (.t 67),none⟩,
 ⟨some 10,.mv (.t 68),none⟩])
 (.seq (.seq (.reg [⟨some 69,.mv (.t 10),none⟩,
 ⟨some 70,.bin .neq (.t 69) (.c (.i .i64 0)),none⟩])
 (.cond (.t 70)
 (.reg [⟨some 71,.mv (.t 0),none⟩,
 ⟨some 72,.fad 2 (.t 4),none⟩,
 ⟨some 73,.load1 (.t 72),none⟩,
 ⟨some 74,.mv (.t 10),none⟩,
 ⟨some 75,.call 19 [.t 71,.t 73,.t 74],none⟩])
 (.skip)))
 (.reg [⟨some 76,.mv (.t 9),none⟩,
 ⟨some 77,.build [.i .i64 0,.s [],.nil,.nil] [(0,(1,.c (.i .i64 4))),(1,(1,.t 76))],none⟩,
 ⟨none,.store 4 (.t 8) (.t 77),none⟩])))
 (.skip)))
 (.seq (.seq (.reg [⟨some 78,.mv (.t 0),none⟩,
 ⟨some 79,.nck (.t 78),none⟩,
 ⟨some 80,.fad 2 (.t 79),none⟩,
 ⟨some 81,.load1 (.t 80),none⟩,
 ⟨some 82,.bin .add (.t 81) (.c (.i .i64 1)),none⟩,
 ⟨some 83,.nck (.t 78),none⟩,
 ⟨some 84,.fad 2 (.t 83),none⟩,
 ⟨none,.store 1 (.t 84) (.t 82),none⟩])
 (.seq (.reg [⟨some 85,.mv (.t 0),none⟩,
 ⟨some 86,.nck (.t 85),none⟩,
 ⟨some 87,.fad 2 (.t 86),none⟩,
 ⟨some 88,.load1 (.t 87),none⟩,
 ⟨some 89,.bin .gtr (.t 88) (.c (.i .i64 20000)),none⟩])
 (.cond (.t 89)
 (.reg [⟨some 90,.mv (.t 0),none⟩,
 ⟨some 91,.fad 2 (.t 4),none⟩,
 ⟨some 92,.load1 (.t 91),none⟩,
 ⟨some 93,.call 19 [.t 90,.t 92,.c (.i .i64 142)],none⟩])
 (.skip))))
 (.seq (.blk 0
 (.seq (.reg [⟨some 95,.fad 0 (.t 4),none⟩,
 ⟨some 96,.load1 (.t 95),none⟩,
 ⟨some 97,.bin .eql (.t 96) (.c (.i .i64 5)),none⟩,
 ⟨some 94,.mv (.t 97),none⟩])
 (.cond (.t 94)
 (.seq (.reg [⟨some 98,.fad 1 (.t 4),none⟩,
 ⟨some 99,.load1 (.t 98),none⟩,
 ⟨some 100,.call 35 [.t 99],none⟩,
 ⟨some 101,.build [.i .i64 0,.s [],.nil,.nil] [(0,(1,.t 100))],none⟩,
 ⟨none,.store 4 (.t 6) (.t 101),none⟩])
 (.ret))
 (.seq (.reg [⟨some 103,.loadn 3 (.t 4),none⟩,
 ⟨some 104,.call 33 [.t 103,.c (.s [91])],none⟩,
 ⟨some 102,.mv (.t 104),none⟩])
 (.cond (.t 102)
 (.seq (.reg [⟨some 105,.mv (.t 0),none⟩,
 ⟨some 106,.mv (.t 2),none⟩,
 ⟨some 107,.bin .add (.t 106) (.c (.i .i64 1)),none⟩,
 ⟨some 108,.call 36 [.t 105,.t 107],none⟩,
 ⟨none,.store 4 (.t 6) (.t 108),none⟩])
 (.ret))
 (.seq (.reg [⟨some 110,.loadn 3 (.t 4),none⟩,
 ⟨some 111,.call 33 [.t 110,.c (.s [123])],none⟩,
 ⟨some 109,.mv (.t 111),none⟩])
 (.cond (.t 109)
 (.seq (.reg [⟨some 112,.mv (.t 0),none⟩,
 ⟨some 113,.mv (.t 2),none⟩,
 ⟨some 114,.bin .add (.t 113) (.c (.i .i64 1)),none⟩,
 ⟨some 115,.call 37 [.t 112,.t 114],none⟩,
 ⟨none,.store 4 (.t 6) (.t 115),none⟩])
 (.ret))
 (.skip))))))))
 (.seq (.reg [⟨some 116,.loadn 4 (.t 8),none⟩,
 ⟨none,.store 4 (.t 6) (.t 116),none⟩])
 (.ret))))))))))
theorem is_ref14_parser_value:FnIs Tryz.prog 17 117 [.celln 6 4] c_ref14_parser_value:=⟨⟨_,_,Tryz.func17,rfl,rfl,by kernel_rfl,by kernel_rfl⟩⟩
def c_ref14_parser_next:SCode :=
 .seq (.reg [⟨some 2,.alloc 56 [.i .i64 0,.s [],.i .i64 0],none⟩])
 (.seq (.seq (.reg [⟨some 6,.mv (.t 0),none⟩,
 ⟨some 7,.nck (.t 6),none⟩,
 ⟨some 8,.fad 3 (.t 7),none⟩,
 ⟨some 9,.load1 (.t 8),none⟩,
 ⟨some 10,.bin .neq (.t 9) (.c (.i .i64 0)),none⟩])
 (.cond (.t 10)
 (.seq (.reg [⟨some 11,.build [.i .i64 0,.s [],.i .i64 0] [],none⟩,
 ⟨none,.store 3 (.t 2) (.t 11),none⟩])
 (.ret))
 (.skip)))
 (.seq (.drw [⟨some 13,.mv (.t 0),none⟩,
 ⟨some 14,.nck (.t 13),none⟩,
 ⟨some 15,.fad 0 (.t 14),none⟩,
 ⟨some 16,.load1 (.t 15),none⟩,
 ⟨some 17,.mv (.t 0),none⟩,
 ⟨some 18,.nck (.t 17),none⟩,
 ⟨some 19,.fad 1 (.t 18),none⟩,
 ⟨some 20,.load1 (.t 19),none⟩,
 ⟨some 21,.pcall 38 [.t 16,.t 20],none⟩,
 ⟨some 12,.mv (.t 21),none⟩,
 ⟨some 22,.ext (.t 12) 0,none⟩,
 ⟨some 23,.ext (.t 12) 1,none⟩,
 ⟨some 24,.ext (.t 12) 2,none⟩,
 ⟨some 3,.alloc 56 [.i .i64 0,.s [],.i .i64 0],none⟩,
 ⟨none,.store 3 (.t 3) (.t 22),none⟩,
 ⟨some 4,.mv (.t 23),none⟩,
 ⟨some 5,.mv (.t 24),none⟩] 17 [(15,(3,none)),(19,(3,none))])
 (.seq (.seq (.reg [⟨some 25,.mv (.t 5),none⟩,
 ⟨some 26,.bin .neq (.t 25) (.c (.i .i64 0)),none⟩])
 (.cond (.t 26)
 (.seq (.reg [⟨some 27,.mv (.t 0),none⟩,
 ⟨some 28,.mv (.t 0),none⟩,
 ⟨some 29,.nck (.t 28),none⟩,
 ⟨some 30,.fad 1 (.t 29),none⟩,
 ⟨some 31,.load1 (.t 30),none⟩,
 ⟨some 32,.mv (.t 5),none⟩,
 ⟨some 33,.call 19 [.t 27,.t 31,.t 32],none⟩])
 (.seq (.reg [⟨some 34,.build [.i .i64 0,.s [],.i .i64 0] [],none⟩,
 ⟨none,.store 3 (.t 2) (.t 34),none⟩])
 (.ret)))
 (.skip)))
 (.seq (.reg [⟨some 35,.mv (.t 0),none⟩,
 ⟨some 36,.mv (.t 4),none⟩,
 ⟨some 37,.nck (.t 35),none⟩,
 ⟨some 38,.fad 1 (.t 37),none⟩,
 ⟨none,.store 1 (.t 38) (.t 36),none⟩])
 (.seq (.reg [⟨some 39,.loadn 3 (.t 3),none⟩,
 ⟨none,.store 3 (.t 2) (.t 39),none⟩])
 (.ret))))))
theorem is_ref14_parser_next:FnIs Tryz.prog 18 40 [.celln 2 3] c_ref14_parser_next:=⟨⟨_,_,Tryz.func18,rfl,rfl,by kernel_rfl,by kernel_rfl⟩⟩
def c_ref14_parser_stop:SCode :=
 .seq (.reg [⟨some 6,.mv (.t 0),none⟩,
 ⟨some 7,.nck (.t 6),none⟩,
 ⟨some 8,.fad 3 (.t 7),none⟩,
 ⟨some 9,.load1 (.t 8),none⟩,
 ⟨some 10,.bin .eql (.t 9) (.c (.i .i64 0)),none⟩])
 (.cond (.t 10)
 (.reg [⟨some 11,.mv (.t 0),none⟩,
 ⟨some 12,.mv (.t 0),none⟩,
 ⟨some 13,.mv (.t 2),none⟩,
 ⟨some 14,.mv (.t 1),none⟩,
 ⟨some 15,.nck (.t 11),none⟩,
 ⟨some 16,.fad 3 (.t 15),none⟩,
 ⟨none,.store 1 (.t 16) (.t 13),none⟩,
 ⟨some 17,.nck (.t 12),none⟩,
 ⟨some 18,.fad 4 (.t 17),none⟩,
 ⟨none,.store 1 (.t 18) (.t 14),none⟩])
 (.skip))
theorem is_ref14_parser_stop:FnIs Tryz.prog 19 19 [] c_ref14_parser_stop:=⟨⟨_,_,Tryz.func19,rfl,rfl,by kernel_rfl,by kernel_rfl⟩⟩
def c_diddoc_Decode:SCode :=
 .seq (.reg [⟨some 1,.box 30 (.t 0),none⟩,
 ⟨some 2,.alloc 62 [.s [],.nil,.nil,.nil,.nil],none⟩,
 ⟨some 3,.mv (.c (.i .i64 0)),none⟩])
 (.seq (.reg [⟨some 16,.loadn 4 (.t 1),none⟩,
 ⟨some 17,.call 39 [.t 16],none⟩,
 ⟨some 4,.mv (.t 17),none⟩])
 (.seq (.reg [⟨some 19,.loadn 4 (.t 1),none⟩,
 ⟨some 20,.call 40 [.t 19],none⟩,
 ⟨some 18,.mv (.t 20),none⟩,
 ⟨some 21,.ext (.t 18) 0,none⟩,
 ⟨some 22,.ext (.t 18) 1,none⟩,
 ⟨some 5,.alloc 37 [.s [],.s []],none⟩,
 ⟨none,.store 2 (.t 5) (.t 21),none⟩,
 ⟨some 6,.mv (.t 22),none⟩])
 (.seq (.seq (.reg [⟨some 23,.mv (.t 6),none⟩,
 ⟨some 24,.bin .neq (.t 23) (.c (.i .i64 0)),none⟩])
 (.cond (.t 24)
 (.seq (.reg [⟨some 25,.build [.s [],.nil,.nil,.nil,.nil] [],none⟩,
 ⟨some 26,.mv (.t 6),none⟩,
 ⟨none,.store 5 (.t 2) (.t 25),none⟩,
 ⟨some 3,.mv (.t 26),none⟩])
 (.ret))
 (.skip)))
 (.seq (.reg [⟨some 27,.loadn 2 (.t 5),none⟩,
 ⟨some 28,.call 23 [.t 27],none⟩,
 ⟨some 29,.build [.s [],.nil,.nil,.nil,.nil] [(0,(1,.t 28))],none⟩,
 ⟨some 7,.alloc 62 [.s [],.nil,.nil,.nil,.nil],none⟩,
 ⟨none,.store 5 (.t 7) (.t 29),none⟩])
 (.seq (.seq (.reg [⟨some 31,.mv (.t 4),none⟩,
 ⟨some 32,.callv (.t 31) [.c (.s [97,108,115,111,75,110,111,119,110,65,115])],none⟩,
 ⟨some 30,.mv (.t 32),none⟩,
 ⟨some 33,.ext (.t 30) 0,none⟩,
 ⟨some 34,.ext (.t 30) 1,none⟩,
 ⟨some 8,.alloc 30 [.i .i64 0,.s [],.nil,.nil],none⟩,
 ⟨none,.store 4 (.t 8) (.t 33),none⟩,
 ⟨some 9,.mv (.t 34),none⟩])
 (.seq (.reg [⟨some 35,.mv (.t 9),none⟩])
 (.cond (.t 35)
 (.seq (.reg [⟨some 37,.loadn 4 (.t 8),none⟩,
 ⟨some 38,.call 41 [.t 37],none⟩,
 ⟨some 36,.mv (.t 38),none⟩,
 ⟨some 39,.ext (.t 36) 0,none⟩,
 ⟨some 40,.ext (.t 36) 1,none⟩,
 ⟨some 41,.fad 1 (.t 7),none⟩,
 ⟨none,.store 1 (.t 41) (.t 39),none⟩,
 ⟨some 6,.mv (.t 40),none⟩])
 (.seq (.reg [⟨some 42,.mv (.t 6),none⟩,
 ⟨some 43,.bin .neq (.t 42) (.c (.i .i64 0)),none⟩])
 (.cond (.t 43)
 (.seq (.reg [⟨some 44,.build [.s [],.nil,.nil,.nil,.nil] [],none⟩,
 ⟨some 45,.mv (.t 6),none⟩,
 ⟨none,.store 5 (.t 2) (.t 44),none⟩,
 ⟨some 3,.mv (.t 45),none⟩])
 (.ret))
 (.skip))))
 (.skip))))
 (.seq (.seq (.reg [⟨some 47,.mv (.t 4),none⟩,
 ⟨some 48,.callv (.t 47) [.c (.s [99,111,110,116,114,111,108,108,101,114])],none⟩,
 ⟨some 46,.mv (.t 48),none⟩,
 ⟨some 49,.ext (.t 46) 0,none⟩,
 ⟨some 50,.ext (.t 46) 1,none⟩,
 ⟨some 10,.alloc 30 [.i .i64 0,.s [],.nil,.nil],none⟩,
 ⟨none,.store 4 (.t 10) (.t 49),none⟩,
 ⟨some 11,.mv (.t 50),none⟩])
 (.seq (.reg [⟨some 51,.mv (.t 11),none⟩])
 (.cond (.t 51)
 (.seq (.reg [⟨some 53,.loadn 4 (.t 10),none⟩,
 ⟨some 54,.call 42 [.t 53],none⟩,
 ⟨some 52,.mv (.t 54),none⟩,
 ⟨some 55,.ext (.t 52) 0,none⟩,
 ⟨some 56,.ext (.t 52) 1,none⟩,
 ⟨some 57,.fad 2 (.t 7),none⟩,
 ⟨none,.store 1 (.t 57) (.t 55),none⟩,
 ⟨some 6,.mv (.t 56),none⟩])
 (.seq (.reg [⟨some 58,.mv (.t 6),none⟩,
 ⟨some 59,.bin .neq (.t 58) (.c (.i .i64 0)),none⟩])
 (.cond (.t 59)
 (.seq (.reg [⟨some 60,.build [.s [],.nil,.nil,.nil,.nil] [],none⟩,
 ⟨some 61,.mv (.t 6),none⟩,
 ⟨none,.store 5 (.t 2) (.t 60),none⟩,
 ⟨some 3,.mv (.t 61),none⟩])
 (.ret))
 (.skip))))
 (.skip))))
 (.seq (.seq (.reg [⟨some 63,.mv (.t 4),none⟩,
 ⟨some 64,.callv (.t 63) [.c (.s [118,101,114,105,102,105,99,97,116,105,111,110,77,101,116,104,111,100])],none⟩,
 ⟨some 62,.mv (.t 64),none⟩,
 ⟨some 65,.ext (.t 62) 0,none⟩,
 ⟨some 66,.ext (.t 62) 1,none⟩,
 ⟨some 12,.alloc 30 [.i .i64 0,.s [],.nil,.nil],none⟩,
 ⟨none,.store 4 (.t 12) (.t 65),none⟩,
 ⟨some 13,.mv (.t 66),none⟩])
 (.seq (.reg [⟨some 67,.mv (.t 13),none⟩])
 (.cond (.t 67)
 (.seq (.reg [⟨some 69,.loadn 4 (.t 12),none⟩,
 ⟨some 70,.loadn 2 (.t 5),none⟩,
 ⟨some 71,.call 43 [.t 69,.t 70,.c (.fn 44 [] [])],none⟩,
 ⟨some 68,.mv (.t 71),none⟩,
 ⟨some 72,.ext (.t 68) 0,none⟩,
 ⟨some 73,.ext (.t 68) 1,none⟩,
 ⟨some 74,.fad 3 (.t 7),none⟩,
 ⟨none,.store 1 (.t 74) (.t 72),none⟩,
 ⟨some 6,.mv (.t 73),none⟩])
 (.seq (.reg [⟨some 75,.mv (.t 6),none⟩,
 ⟨some 76,.bin .neq (.t 75) (.c (.i .i64 0)),none⟩])
 (.cond (.t 76)
 (.seq (.reg [⟨some 77,.build [.s [],.nil,.nil,.nil,.nil] [],none⟩,
 ⟨some 78,.mv (.t 6),none⟩,
 ⟨none,.store 5 (.t 2) (.t 77),none⟩,
 ⟨some 3,.mv (.t 78),none⟩])
 (.ret))
 (.skip))))
 (.skip))))
 (.seq (.seq (.reg [⟨some 80,.mv (.t 4),none⟩,
 ⟨some 81,.callv (.t 80) [.c (.s [115,101,114,118,105,99,101])],none⟩,
 ⟨some 79,.mv (.t 81),none⟩,
 ⟨some 82,.ext (.t 79) 0,none⟩,
 ⟨some 83,.ext (.t 79) 1,none⟩,
 ⟨some 14,.alloc 30 [.i .i64 0,.s [],.nil,.nil],none⟩,
 ⟨none,.store 4 (.t 14) (.t 82),none⟩,
 ⟨some 15,.mv (.t 83),none⟩])
 (.seq (.reg [⟨some 84,.mv (.t 15),none⟩])
 (.cond (.t 84)
 (.seq (.reg [⟨some 86,.loadn 4 (.t 14),none⟩,
 ⟨some 87,.loadn 2 (.t 5),none⟩,
 ⟨some 88,.call 45 [.t 86,.t 87,.c (.fn 46 [] [])],none⟩,
 ⟨some 85,.mv (.t 88),none⟩,
 ⟨some 89,.ext (.t 85) 0,none⟩,
 ⟨some 90,.ext (.t 85) 1,none⟩,
 ⟨some 91,.fad 4 (.t 7),none⟩,
 ⟨none,.store 1 (.t 91) (.t 89),none⟩,
 ⟨some 6,.mv (.t 90),none⟩])
 (.seq (.reg [⟨some 92,.mv (.t 6),none⟩,
 ⟨some 93,.bin .neq (.t 92) (.c (.i .i64 0)),none⟩])
 (.cond (.t 93)
 (.seq (.reg [⟨some 94,.build [.s [],.nil,.nil,.nil,.nil] [],none⟩,
 ⟨some 95,.mv (.t 6),none⟩,
 ⟨none,.store 5 (.t 2) (.t 94),none⟩,
 ⟨some 3,.mv (.t 95),none⟩])
 (.ret))
 (.skip))))
 (.skip))))
 (.seq (.reg [⟨some 96,.loadn 5 (.t 7),none⟩,
 ⟨none,.store 5 (.t 2) (.t 96),none⟩,
 ⟨some 3,.mv (.c (.i .i64 0)),none⟩])
 (.ret))))))))))
theorem is_diddoc_Decode:FnIs Tryz.prog 20 97 [.celln 2 5,.tmp 3] c_diddoc_Decode:=⟨⟨_,_,Tryz.func20,rfl,rfl,by kernel_rfl,by kernel_rfl⟩⟩
def c_deref_firstParam:SCode :=
 .seq (.reg [⟨some 1,.box 39 (.t 0),none⟩,
 ⟨some 2,.mv (.c (.o .nilFunc)),none⟩])
 (.seq (.reg [⟨some 3,.alloc 24 [.nil],none⟩])
 (.seq (.seq (.reg [⟨some 4,.fad 5 (.t 1),none⟩,
 ⟨some 5,.load1 (.t 4),none⟩])
 (.cond (.t 5)
 (.reg [⟨some 6,.fad 3 (.t 1),none⟩,
 ⟨some 7,.load1 (.t 6),none⟩,
 ⟨some 8,.call 6 [.t 7],none⟩,
 ⟨none,.store 1 (.t 3) (.t 8),none⟩])
 (.skip)))
 (.seq (.reg [⟨some 9,.mkf 47 [] [.t 3],none⟩,
 ⟨some 2,.mv (.t 9),none⟩])
 (.ret))))
theorem is_deref_firstParam:FnIs Tryz.prog 21 10 [.tmp 2] c_deref_firstParam:=⟨⟨_,_,Tryz.func21,rfl,rfl,by kernel_rfl,by kernel_rfl⟩⟩
def c_deref_findService:SCode :=
 .seq (.reg [⟨some 2,.box 62 (.t 0),none⟩,
 ⟨some 4,.alloc 69 [.s [],.nil,.nil],none⟩,
 ⟨some 5,.mv (.c (.b false)),none⟩])
 (.seq (.seq (.reg [⟨some 8,.fad 4 (.t 2),none⟩,
 ⟨some 9,.load1 (.t 8),none⟩,
 ⟨some 10,.lenr (.t 9),none⟩,
 ⟨some 11,.mv (.c (.i .i64 0)),none⟩])
 (.blk 0
 (.loop
 (.seq (.reg [⟨some 12,.bin .lss (.t 11) (.t 10),none⟩])
 (.seq (.cond (.t 12)
 (.skip)
 (.exit 0))
 (.seq (.blk 1
 (.seq (.reg [⟨some 13,.iad 3 (.t 9) (.t 11),none⟩,
 ⟨some 14,.loadn 3 (.t 13),none⟩,
 ⟨some 7,.alloc 69 [.s [],.nil,.nil],none⟩,
 ⟨none,.store 3 (.t 7) (.t 14),none⟩])
 (.seq (.reg [⟨some 15,.fad 0 (.t 7),none⟩,
 ⟨some 16,.load1 (.t 15),none⟩,
 ⟨some 17,.mv (.t 1),none⟩,
 ⟨some 18,.bin .eql (.t 16) (.t 17),none⟩])
 (.cond (.t 18)
 (.seq (.reg [⟨some 19,.loadn 3 (.t 7),none⟩,
 ⟨none,.store 3 (.t 4) (.t 19),none⟩,
 ⟨some 5,.mv (.c (.b true)),none⟩])
 (.ret))
 (.skip)))))
 (.reg [⟨some 20,.bin .add (.t 11) (.c (.i .i64 1)),none⟩,
 ⟨some 11,.mv (.t 20),none⟩])))))))
 (.seq (.reg [⟨some 21,.build [.s [],.nil,.nil] [],none⟩,
 ⟨none,.store 3 (.t 4) (.t 21),none⟩,
 ⟨some 5,.mv (.c (.b false)),none⟩])
 (.ret)))
theorem is_deref_findService:FnIs Tryz.prog 22 22 [.celln 4 3,.tmp 5] c_deref_findService:=⟨⟨_,_,Tryz.func22,rfl,rfl,by kernel_rfl,by kernel_rfl⟩⟩
def c_did_FormatDID:SCode :=
 .seq (.reg [⟨some 1,.box 37 (.t 0),none⟩,
 ⟨some 2,.mv (.c (.s [])),none⟩])
 (.seq (.reg [⟨some 3,.fad 0 (.t 1),none⟩,
 ⟨some 4,.load1 (.t 3),none⟩,
 ⟨some 5,.bin .add (.c (.s [100,105,100,58])) (.t 4),none⟩,
 ⟨some 6,.bin .add (.t 5) (.c (.s [58])),none⟩,
 ⟨some 7,.fad 1 (.t 1),none⟩,
 ⟨some 8,.load1 (.t 7),none⟩,
 ⟨some 9,.bin .add (.t 6) (.t 8),none⟩,
 ⟨some 2,.mv (.t 9),none⟩])
 (.ret))
theorem is_did_FormatDID:FnIs Tryz.prog 23 10 [.tmp 2] c_did_FormatDID:=⟨⟨_,_,Tryz.func23,rfl,rfl,by kernel_rfl,by kernel_rfl⟩⟩
def c_weburl_Parse:SCode :=
 .seq (.reg [⟨some 2,.alloc 74 [.s [],.i .i64 0,.s [],.s [],.s [],.b false,.b false],none⟩,
 ⟨some 3,.mv (.c (.i .i64 0)),none⟩])
 (.seq (.seq (.reg [⟨some 8,.mv (.t 0),none⟩,
 ⟨some 9,.lens (.t 8),none⟩,
 ⟨some 10,.bin .gtr (.t 9) (.c (.i .i64 4096)),none⟩])
 (.cond (.t 10)
 (.seq (.reg [⟨some 11,.build [.s [],.i .i64 0,.s [],.s [],.s [],.b false,.b false] [],none⟩,
 ⟨none,.store 7 (.t 2) (.t 11),none⟩,
 ⟨some 3,.mv (.c (.i .i64 5)),none⟩])
 (.ret))
 (.skip)))
 (.seq (.reg [⟨some 13,.mv (.t 0),none⟩,
 ⟨some 14,.call 48 [.t 13],none⟩,
 ⟨some 12,.mv (.t 14),none⟩,
 ⟨some 15,.ext (.t 12) 0,none⟩,
 ⟨some 16,.ext (.t 12) 1,none⟩,
 ⟨some 4,.alloc 106 [.s [],.s [],.s [],.s [],.s [],.b false,.b false,.b false,.b false],none⟩,
 ⟨none,.store 9 (.t 4) (.t 15),none⟩,
 ⟨some 5,.mv (.t 16),none⟩])
 (.seq (.seq (.reg [⟨some 17,.mv (.t 5),none⟩,
 ⟨some 18,.bin .neq (.t 17) (.c (.i .i64 0)),none⟩])
 (.cond (.t 18)
 (.seq (.reg [⟨some 19,.build [.s [],.i .i64 0,.s [],.s [],.s [],.b false,.b false] [],none⟩,
 ⟨some 20,.mv (.t 5),none⟩,
 ⟨none,.store 7 (.t 2) (.t 19),none⟩,
 ⟨some 3,.mv (.t 20),none⟩])
 (.ret))
 (.skip)))
 (.seq (.reg [⟨some 22,.loadn 9 (.t 4),none⟩,
 ⟨some 23,.call 49 [.t 22],none⟩,
 ⟨some 21,.mv (.t 23),none⟩,
 ⟨some 24,.ext (.t 21) 0,none⟩,
 ⟨some 25,.ext (.t 21) 1,none⟩,
 ⟨some 6,.alloc 110 [.s [],.i .i64 0],none⟩,
 ⟨none,.store 2 (.t 6) (.t 24),none⟩,
 ⟨some 5,.mv (.t 25),none⟩])
 (.seq (.seq (.reg [⟨some 26,.mv (.t 5),none⟩,
 ⟨some 27,.bin .neq (.t 26) (.c (.i .i64 0)),none⟩])
 (.cond (.t 27)
 (.seq (.reg [⟨some 28,.build [.s [],.i .i64 0,.s [],.s [],.s [],.b false,.b false] [],none⟩,
 ⟨some 29,.mv (.t 5),none⟩,
 ⟨none,.store 7 (.t 2) (.t 28),none⟩,
 ⟨some 3,.mv (.t 29),none⟩])
 (.ret))
 (.skip)))
 (.seq (.reg [⟨some 31,.loadn 9 (.t 4),none⟩,
 ⟨some 32,.call 50 [.t 31],none⟩,
 ⟨some 30,.mv (.t 32),none⟩,
 ⟨some 33,.ext (.t 30) 0,none⟩,
 ⟨some 34,.ext (.t 30) 1,none⟩,
 ⟨some 7,.alloc 74 [.s [],.i .i64 0,.s [],.s [],.s [],.b false,.b false],none⟩,
 ⟨none,.store 7 (.t 7) (.t 33),none⟩,
 ⟨some 5,.mv (.t 34),none⟩])
 (.seq (.seq (.reg [⟨some 35,.mv (.t 5),none⟩,
 ⟨some 36,.bin .neq (.t 35) (.c (.i .i64 0)),none⟩])
 (.cond (.t 36)
 (.seq (.reg [⟨some 37,.build [.s [],.i .i64 0,.s [],.s [],.s [],.b false,.b false] [],none⟩,
 ⟨some 38,.mv (.t 5),none⟩,
 ⟨none,.store 7 (.t 2) (.t 37),none⟩,
 ⟨some 3,.mv (.t 38),none⟩])
 (.ret))
 (.skip)))
 (.seq (.drw [⟨some 39,.fad 0 (.t 6),none⟩,
 ⟨some 40,.load1 (.t 39),none⟩,
 ⟨some 41,.fad 1 (.t 6),none⟩,
 ⟨some 42,.load1 (.t 41),none⟩,
 ⟨some 43,.fad 0 (.t 7),none⟩,
 ⟨none,.store 1 (.t 43) (.t 40),none⟩,
 ⟨some 44,.fad 1 (.t 7),none⟩,
 ⟨none,.store 1 (.t 44) (.t 42),none⟩] 8 [(41,(43,none))])
 (.seq (.seq (.reg [⟨some 45,.loadn 7 (.t 7),none⟩,
 ⟨some 46,.call 26 [.t 45],none⟩,
 ⟨some 47,.lens (.t 46),none⟩,
 ⟨some 48,.bin .gtr (.t 47) (.c (.i .i64 4096)),none⟩])
 (.cond (.t 48)
 (.seq (.reg [⟨some 49,.build [.s [],.i .i64 0,.s [],.s [],.s [],.b false,.b false] [],none⟩,
 ⟨none,.store 7 (.t 2) (.t 49),none⟩,
 ⟨some 3,.mv (.c (.i .i64 5)),none⟩])
 (.ret))
 (.skip)))
 (.seq (.reg [⟨some 50,.loadn 7 (.t 7),none⟩,
 ⟨none,.store 7 (.t 2) (.t 50),none⟩,
 ⟨some 3,.mv (.c (.i .i64 0)),none⟩])
 (.ret)))))))))))
theorem is_weburl_Parse:FnIs Tryz.prog 24 51 [.celln 2 7,.tmp 3] c_weburl_Parse:=⟨⟨_,_,Tryz.func24,rfl,rfl,by kernel_rfl,by kernel_rfl⟩⟩
def c_weburl_Relative:SCode :=
 .seq (.reg [⟨some 2,.box 74 (.t 0),none⟩,
 ⟨some 4,.alloc 74 [.s [],.i .i64 0,.s [],.s [],.s [],.b false,.b false],none⟩,
 ⟨some 5,.mv (.c (.i .i64 0)),none⟩])
 (.seq (.seq (.reg [⟨some 10,.loadn 7 (.t 2),none⟩,
 ⟨some 11,.call 51 [.t 10],none⟩,
 ⟨some 12,.not (.t 11),none⟩])
 (.cond (.t 12)
 (.seq (.reg [⟨some 13,.build [.s [],.i .i64 0,.s [],.s [],.s [],.b false,.b false] [],none⟩,
 ⟨none,.store 7 (.t 4) (.t 13),none⟩,
 ⟨some 5,.mv (.c (.i .i64 8)),none⟩])
 (.ret))
 (.skip)))
 (.seq (.reg [⟨some 15,.loadn 7 (.t 2),none⟩,
 ⟨some 16,.call 26 [.t 15],none⟩,
 ⟨some 17,.call 48 [.t 16],none⟩,
 ⟨some 14,.mv (.t 17),none⟩,
 ⟨some 18,.ext (.t 14) 0,none⟩,
 ⟨some 19,.ext (.t 14) 1,none⟩,
 ⟨some 6,.alloc 106 [.s [],.s [],.s [],.s [],.s [],.b false,.b false,.b false,.b false],none⟩,
 ⟨none,.store 9 (.t 6) (.t 18),none⟩,
 ⟨some 7,.mv (.t 19),none⟩])
 (.seq (.seq (.reg [⟨some 20,.mv (.t 7),none⟩,
 ⟨some 21,.bin .neq (.t 20) (.c (.i .i64 0)),none⟩])
 (.cond (.t 21)
 (.seq (.reg [⟨some 22,.build [.s [],.i .i64 0,.s [],.s [],.s [],.b false,.b false] [],none⟩,
 ⟨some 23,.mv (.t 7),none⟩,
 ⟨none,.store 7 (.t 4) (.t 22),none⟩,
 ⟨some 5,.mv (.t 23),none⟩])
 (.ret))
 (.skip)))
 (.seq (.reg [⟨some 25,.mv (.t 1),none⟩,
 ⟨some 26,.call 48 [.t 25],none⟩,
 ⟨some 24,.mv (.t 26),none⟩,
 ⟨some 27,.ext (.t 24) 0,none⟩,
 ⟨some 28,.ext (.t 24) 1,none⟩,
 ⟨some 8,.alloc 106 [.s [],.s [],.s [],.s [],.s [],.b false,.b false,.b false,.b false],none⟩,
 ⟨none,.store 9 (.t 8) (.t 27),none⟩,
 ⟨some 7,.mv (.t 28),none⟩])
 (.seq (.seq (.reg [⟨some 29,.mv (.t 7),none⟩,
 ⟨some 30,.bin .neq (.t 29) (.c (.i .i64 0)),none⟩])
 (.cond (.t 30)
 (.seq (.reg [⟨some 31,.build [.s [],.i .i64 0,.s [],.s [],.s [],.b false,.b false] [],none⟩,
 ⟨some 32,.mv (.t 7),none⟩,
 ⟨none,.store 7 (.t 4) (.t 31),none⟩,
 ⟨some 5,.mv (.t 32),none⟩])
 (.ret))
 (.skip)))
 (.seq (.reg [⟨some 33,.loadn 9 (.t 6),none⟩,
 ⟨some 34,.loadn 9 (.t 8),none⟩,
 ⟨some 35,.call 52 [.t 33,.t 34],none⟩,
 ⟨some 9,.alloc 106 [.s [],.s [],.s [],.s [],.s [],.b false,.b false,.b false,.b false],none⟩,
 ⟨none,.store 9 (.t 9) (.t 35),none⟩])
 (.seq (.seq (.reg [⟨some 36,.fad 0 (.t 9),none⟩,
 ⟨some 37,.load1 (.t 36),none⟩,
 ⟨some 38,.call 53 [.t 37,.c (.s [104,116,116,112,115])],none⟩,
 ⟨some 39,.not (.t 38),none⟩])
 (.cond (.t 39)
 (.seq (.reg [⟨some 40,.build [.s [],.i .i64 0,.s [],.s [],.s [],.b false,.b false] [],none⟩,
 ⟨none,.store 7 (.t 4) (.t 40),none⟩,
 ⟨some 5,.mv (.c (.i .i64 253)),none⟩])
 (.ret))
 (.skip)))
 (.seq (.reg [⟨some 41,.loadn 9 (.t 9),none⟩,
 ⟨some 42,.call 54 [.t 41],none⟩,
 ⟨some 43,.call 24 [.t 42],none⟩,
 ⟨some 44,.ext (.t 43) 0,none⟩,
 ⟨some 45,.ext (.t 43) 1,none⟩,
 ⟨none,.store 7 (.t 4) (.t 44),none⟩,
 ⟨some 5,.mv (.t 45),none⟩])
 (.ret)))))))))
theorem is_weburl_Relative:FnIs Tryz.prog 25 46 [.celln 4 7,.tmp 5] c_weburl_Relative:=⟨⟨_,_,Tryz.func25,rfl,rfl,by kernel_rfl,by kernel_rfl⟩⟩
def c_weburl_Format:SCode :=
 .seq (.reg [⟨some 1,.box 74 (.t 0),none⟩,
 ⟨some 2,.mv (.c (.s [])),none⟩])
 (.seq (.drw [⟨some 4,.loadn 7 (.t 1),none⟩,
 ⟨some 5,.call 56 [.t 4],none⟩,
 ⟨some 6,.call 55 [.t 5],none⟩,
 ⟨some 7,.bin .add (.c (.s [104,116,116,112,115,58,47,47])) (.t 6),none⟩,
 ⟨some 8,.loadn 7 (.t 1),none⟩,
 ⟨some 9,.call 57 [.t 8],none⟩,
 ⟨some 10,.bin .add (.t 7) (.t 9),none⟩,
 ⟨some 3,.mv (.t 10),none⟩] 8 [])
 (.seq (.seq (.reg [⟨some 11,.fad 6 (.t 1),none⟩,
 ⟨some 12,.load1 (.t 11),none⟩])
 (.cond (.t 12)
 (.reg [⟨some 13,.mv (.t 3),none⟩,
 ⟨some 14,.fad 4 (.t 1),none⟩,
 ⟨some 15,.load1 (.t 14),none⟩,
 ⟨some 16,.bin .add (.c (.s [35])) (.t 15),none⟩,
 ⟨some 17,.bin .add (.t 13) (.t 16),none⟩,
 ⟨some 3,.mv (.t 17),none⟩])
 (.skip)))
 (.seq (.reg [⟨some 18,.mv (.t 3),none⟩,
 ⟨some 2,.mv (.t 18),none⟩])
 (.ret))))
theorem is_weburl_Format:FnIs Tryz.prog 26 19 [.tmp 2] c_weburl_Format:=⟨⟨_,_,Tryz.func26,rfl,rfl,by kernel_rfl,by kernel_rfl⟩⟩
def c_deref_parts_1:SCode :=
 .seq (.reg [⟨some 6,.load1 (.t 1),none⟩,
 ⟨some 3,.mv (.t 6),none⟩,
 ⟨some 4,.mv (.c (.b true)),none⟩])
 (.blk 0
 (.loop
 (.seq (.seq (.reg [⟨some 7,.mv (.t 4),none⟩])
 (.cond (.t 7)
 (.skip)
 (.exit 0)))
 (.blk 1
 (.seq (.reg [⟨some 5,.mv (.c (.s [])),none⟩])
 (.seq (.reg [⟨some 9,.mv (.t 3),none⟩,
 ⟨some 10,.call 11 [.t 9,.c (.s [38])],none⟩,
 ⟨some 8,.mv (.t 10),none⟩,
 ⟨some 11,.ext (.t 8) 0,none⟩,
 ⟨some 12,.ext (.t 8) 1,none⟩,
 ⟨some 13,.ext (.t 8) 2,none⟩,
 ⟨some 5,.mv (.t 11),none⟩,
 ⟨some 3,.mv (.t 12),none⟩,
 ⟨some 4,.mv (.t 13),none⟩])
 (.seq (.reg [⟨some 14,.mv (.t 5),none⟩,
 ⟨some 15,.bin .neq (.t 14) (.c (.s [])),none⟩,
 ⟨some 16,.mv (.t 15),none⟩,
 ⟨some 17,.mv (.t 0),some (16,true)⟩,
 ⟨some 18,.mv (.t 5),some (16,true)⟩,
 ⟨some 19,.callv (.t 17) [.t 18],some (16,true)⟩,
 ⟨some 20,.not (.t 19),some (16,true)⟩,
 ⟨some 21,.pick (.t 16) (.t 20) (.c (.b false)),none⟩])
 (.cond (.t 21)
 (.ret)
 (.skip)))))))))
theorem is_deref_parts_1:FnIs Tryz.prog 27 22 [] c_deref_parts_1:=⟨⟨_,_,Tryz.func27,rfl,rfl,by kernel_rfl,by kernel_rfl⟩⟩
def c_percent_rewrite:SCode :=
 .seq (.reg [⟨some 4,.mv (.c (.s [])),none⟩,
 ⟨some 5,.mv (.c (.i .i64 0)),none⟩])
 (.seq (.seq (.reg [⟨some 12,.mv (.t 0),none⟩,
 ⟨some 13,.lens (.t 12),none⟩,
 ⟨some 14,.bin .gtr (.t 13) (.c (.i .i64 16384)),none⟩])
 (.cond (.t 14)
 (.seq (.reg [⟨some 4,.mv (.c (.s [])),none⟩,
 ⟨some 5,.mv (.c (.i .i64 5)),none⟩])
 (.ret))
 (.skip)))
 (.seq (.reg [⟨some 15,.mv (.t 0),none⟩,
 ⟨some 16,.lens (.t 15),none⟩,
 ⟨some 17,.mks 5 1 1 (.c (.i .i64 0)) (.t 16),none⟩,
 ⟨some 6,.mv (.t 17),none⟩])
 (.seq (.reg [⟨some 7,.mv (.c (.i .i64 0)),none⟩])
 (.seq (.seq (.reg [⟨some 18,.mv (.t 0),none⟩,
 ⟨some 19,.lens (.t 18),none⟩,
 ⟨some 20,.mv (.c (.i .i64 0)),none⟩])
 (.blk 0
 (.loop
 (.seq (.reg [⟨some 21,.bin .lss (.t 20) (.t 19),none⟩])
 (.seq (.cond (.t 21)
 (.skip)
 (.exit 0))
 (.seq (.blk 1
 (.seq (.reg [⟨some 22,.mv (.t 20),none⟩,
 ⟨some 8,.mv (.t 22),none⟩])
 (.seq (.seq (.reg [⟨some 23,.mv (.t 8),none⟩,
 ⟨some 24,.mv (.t 7),none⟩,
 ⟨some 25,.bin .lss (.t 23) (.t 24),none⟩])
 (.cond (.t 25)
 (.exit 1)
 (.skip)))
 (.seq (.reg [⟨some 26,.mv (.t 0),none⟩,
 ⟨some 27,.mv (.t 8),none⟩,
 ⟨some 28,.idx (.t 26) (.t 27),none⟩,
 ⟨some 9,.mv (.t 28),none⟩,
 ⟨some 10,.mv (.c (.i .i64 1)),none⟩])
 (.seq (.seq (.reg [⟨some 29,.mv (.t 9),none⟩,
 ⟨some 30,.bin .eql (.t 29) (.c (.i .u8 37)),none⟩])
 (.cond (.t 30)
 (.seq (.seq (.reg [⟨some 31,.mv (.t 0),none⟩,
 ⟨some 32,.mv (.t 8),none⟩,
 ⟨some 33,.call 59 [.t 31,.t 32],none⟩,
 ⟨some 34,.not (.t 33),none⟩])
 (.cond (.t 34)
 (.seq (.reg [⟨some 4,.mv (.c (.s [])),none⟩,
 ⟨some 5,.mv (.c (.i .i64 2)),none⟩])
 (.ret))
 (.skip)))
 (.drw [⟨some 35,.mv (.t 0),none⟩,
 ⟨some 36,.mv (.t 8),none⟩,
 ⟨some 37,.bin .add (.t 36) (.c (.i .i64 1)),none⟩,
 ⟨some 38,.idx (.t 35) (.t 37),none⟩,
 ⟨some 39,.call 60 [.t 38],none⟩,
 ⟨some 40,.pu .shl [.t 39,.c (.i .u64 4)],none⟩,
 ⟨some 41,.mv (.t 0),none⟩,
 ⟨some 42,.mv (.t 8),none⟩,
 ⟨some 43,.bin .add (.t 42) (.c (.i .i64 2)),none⟩,
 ⟨some 44,.idx (.t 41) (.t 43),none⟩,
 ⟨some 45,.call 60 [.t 44],none⟩,
 ⟨some 46,.pu (.bits .or) [.t 40,.t 45],none⟩,
 ⟨some 9,.mv (.t 46),none⟩,
 ⟨some 10,.mv (.c (.i .i64 3)),none⟩] 14 []))
 (.skip)))
 (.seq (.reg [⟨some 11,.mv (.c (.i .i64 0)),none⟩])
 (.seq (.seq (.reg [⟨some 48,.mv (.t 1),none⟩,
 ⟨some 49,.mv (.t 6),none⟩,
 ⟨some 50,.mv (.t 9),none⟩,
 ⟨some 51,.mv (.t 10),none⟩,
 ⟨some 52,.bin .eql (.t 51) (.c (.i .i64 3)),none⟩,
 ⟨some 53,.callv (.t 48) [.t 49,.t 50,.t 52],none⟩,
 ⟨some 47,.mv (.t 53),none⟩,
 ⟨some 54,.ext (.t 47) 0,none⟩,
 ⟨some 55,.ext (.t 47) 1,none⟩,
 ⟨some 6,.mv (.t 54),none⟩,
 ⟨some 11,.mv (.t 55),none⟩])
 (.seq (.reg [⟨some 56,.mv (.t 11),none⟩,
 ⟨some 57,.bin .neq (.t 56) (.c (.i .i64 0)),none⟩])
 (.cond (.t 57)
 (.seq (.reg [⟨some 58,.mv (.t 11),none⟩,
 ⟨some 4,.mv (.c (.s [])),none⟩,
 ⟨some 5,.mv (.t 58),none⟩])
 (.ret))
 (.skip))))
 (.reg [⟨some 59,.mv (.t 8),none⟩,
 ⟨some 60,.mv (.t 10),none⟩,
 ⟨some 61,.bin .add (.t 59) (.t 60),none⟩,
 ⟨some 7,.mv (.t 61),none⟩]))))))))
 (.reg [⟨some 62,.bin .add (.t 20) (.c (.i .i64 1)),none⟩,
 ⟨some 20,.mv (.t 62),none⟩])))))))
 (.seq (.reg [⟨some 63,.mv (.t 6),none⟩,
 ⟨some 64,.cvbs (.t 63),none⟩,
 ⟨some 4,.mv (.t 64),none⟩,
 ⟨some 5,.mv (.c (.i .i64 0)),none⟩])
 (.ret))))))
theorem is_percent_rewrite:FnIs Tryz.prog 29 65 [.tmp 4,.tmp 5] c_percent_rewrite:=⟨⟨_,_,Tryz.func29,rfl,rfl,by kernel_rfl,by kernel_rfl⟩⟩
def c_percent_Decode_1:SCode :=
 .seq (.reg [⟨some 6,.mv (.c .nil),none⟩,
 ⟨some 7,.mv (.c (.i .i64 0)),none⟩])
 (.seq (.reg [⟨some 8,.mv (.t 0),none⟩,
 ⟨some 9,.mv (.t 1),none⟩,
 ⟨some 10,.bslice 1 [.i .u8 0] [(0,(1,.t 9))],none⟩,
 ⟨some 11,.app 5 1 1 (.t 8) (.t 10),none⟩,
 ⟨some 6,.mv (.t 11),none⟩,
 ⟨some 7,.mv (.c (.i .i64 0)),none⟩])
 (.ret))
theorem is_percent_Decode_1:FnIs Tryz.prog 30 12 [.tmp 6,.tmp 7] c_percent_Decode_1:=⟨⟨_,_,Tryz.func30,rfl,rfl,by kernel_rfl,by kernel_rfl⟩⟩
def c_ref01_In:SCode :=
 .seq (.reg [⟨some 4,.mv (.c (.b false)),none⟩])
 (.seq (.seq (.reg [⟨some 5,.mv (.c (.i .i64 0)),none⟩])
 (.blk 0
 (.loop
 (.seq (.seq (.reg [⟨some 6,.mv (.t 5),none⟩,
 ⟨some 7,.mv (.t 1),none⟩,
 ⟨some 8,.lens (.t 7),none⟩,
 ⟨some 9,.bin .lss (.t 6) (.t 8),none⟩])
 (.cond (.t 9)
 (.skip)
 (.exit 0)))
 (.seq (.blk 1
 (.seq (.reg [⟨some 12,.mv (.t 1),none⟩,
 ⟨some 13,.mv (.t 5),none⟩,
 ⟨some 14,.idx (.t 12) (.t 13),none⟩,
 ⟨some 15,.mv (.t 0),none⟩,
 ⟨some 16,.bin .eql (.t 14) (.t 15),none⟩])
 (.cond (.t 16)
 (.seq (.reg [⟨some 4,.mv (.c (.b true)),none⟩])
 (.ret))
 (.skip))))
 (.reg [⟨some 10,.mv (.t 5),none⟩,
 ⟨some 11,.bin .add (.t 10) (.c (.i .i64 1)),none⟩,
 ⟨some 5,.mv (.t 11),none⟩]))))))
 (.seq (.reg [⟨some 4,.mv (.c (.b false)),none⟩])
 (.ret)))
theorem is_ref01_In:FnIs Tryz.prog 31 17 [.tmp 4] c_ref01_In:=⟨⟨_,_,Tryz.func31,rfl,rfl,by kernel_rfl,by kernel_rfl⟩⟩
def c_ref03_escape:SCode :=
 .seq (.reg [⟨some 4,.mv (.c (.i .u8 0)),none⟩,
 ⟨some 5,.mv (.c (.b false)),none⟩])
 (.seq (.seq (.reg [⟨some 6,.mv (.t 1),none⟩,
 ⟨some 7,.bin .add (.t 6) (.c (.i .i64 2)),none⟩,
 ⟨some 8,.mv (.t 0),none⟩,
 ⟨some 9,.lens (.t 8),none⟩,
 ⟨some 10,.bin .geq (.t 7) (.t 9),none⟩,
 ⟨some 11,.mv (.t 10),none⟩,
 ⟨some 12,.mv (.t 0),some (11,false)⟩,
 ⟨some 13,.mv (.t 1),some (11,false)⟩,
 ⟨some 14,.idx (.t 12) (.t 13),some (11,false)⟩,
 ⟨some 15,.bin .neq (.t 14) (.c (.i .u8 37)),some (11,false)⟩,
 ⟨some 16,.pick (.t 11) (.c (.b true)) (.t 15),none⟩,
 ⟨some 17,.mv (.t 16),none⟩,
 ⟨some 18,.mv (.t 0),some (17,false)⟩,
 ⟨some 19,.mv (.t 1),some (17,false)⟩,
 ⟨some 20,.bin .add (.t 19) (.c (.i .i64 1)),some (17,false)⟩,
 ⟨some 21,.idx (.t 18) (.t 20),some (17,false)⟩,
 ⟨some 22,.call 61 [.t 21],some (17,false)⟩,
 ⟨some 23,.not (.t 22),some (17,false)⟩,
 ⟨some 24,.pick (.t 17) (.c (.b true)) (.t 23),none⟩,
 ⟨some 25,.mv (.t 24),none⟩,
 ⟨some 26,.mv (.t 0),some (25,false)⟩,
 ⟨some 27,.mv (.t 1),some (25,false)⟩,
 ⟨some 28,.bin .add (.t 27) (.c (.i .i64 2)),some (25,false)⟩,
 ⟨some 29,.idx (.t 26) (.t 28),some (25,false)⟩,
 ⟨some 30,.call 61 [.t 29],some (25,false)⟩,
 ⟨some 31,.not (.t 30),some (25,false)⟩,
 ⟨some 32,.pick (.t 25) (.c (.b true)) (.t 31),none⟩])
 (.cond (.t 32)
 (.seq (.reg [⟨some 4,.mv (.c (.i .u8 0)),none⟩,
 ⟨some 5,.mv (.c (.b false)),none⟩])
 (.ret))
 (.skip)))
 (.seq (.drw [⟨some 33,.mv (.t 0),none⟩,
 ⟨some 34,.mv (.t 1),none⟩,
 ⟨some 35,.bin .add (.t 34) (.c (.i .i64 1)),none⟩,
 ⟨some 36,.idx (.t 33) (.t 35),none⟩,
 ⟨some 37,.call 62 [.t 36],none⟩,
 ⟨some 38,.bin .mul (.c (.i .u8 16)) (.t 37),none⟩,
 ⟨some 39,.mv (.t 0),none⟩,
 ⟨some 40,.mv (.t 1),none⟩,
 ⟨some 41,.bin .add (.t 40) (.c (.i .i64 2)),none⟩,
 ⟨some 42,.idx (.t 39) (.t 41),none⟩,
 ⟨some 43,.call 62 [.t 42],none⟩,
 ⟨some 44,.bin .add (.t 38) (.t 43),none⟩,
 ⟨some 4,.mv (.t 44),none⟩,
 ⟨some 5,.mv (.c (.b true)),none⟩] 14 [])
 (.ret)))
theorem is_ref03_escape:FnIs Tryz.prog 32 45 [.tmp 4,.tmp 5] c_ref03_escape:=⟨⟨_,_,Tryz.func32,rfl,rfl,by kernel_rfl,by kernel_rfl⟩⟩
def c_ref14_is:SCode :=
 .seq (.reg [⟨some 2,.box 56 (.t 0),none⟩,
 ⟨some 4,.mv (.c (.b false)),none⟩])
 (.seq (.reg [⟨some 5,.fad 0 (.t 2),none⟩,
 ⟨some 6,.load1 (.t 5),none⟩,
 ⟨some 7,.bin .eql (.t 6) (.c (.i .i64 2)),none⟩,
 ⟨some 8,.mv (.t 7),none⟩,
 ⟨some 9,.fad 1 (.t 2),some (8,true)⟩,
 ⟨some 10,.load1 (.t 9),some (8,true)⟩,
 ⟨some 11,.mv (.t 1),some (8,true)⟩,
 ⟨some 12,.bin .eql (.t 10) (.t 11),some (8,true)⟩,
 ⟨some 13,.pick (.t 8) (.t 12) (.c (.b false)),none⟩,
 ⟨some 4,.mv (.t 13),none⟩])
 (.ret))
theorem is_ref14_is:FnIs Tryz.prog 33 14 [.tmp 4] c_ref14_is:=⟨⟨_,_,Tryz.func33,rfl,rfl,by kernel_rfl,by kernel_rfl⟩⟩
def c_ref13_Number:SCode :=
 .seq (.reg [⟨some 2,.mv (.c (.s [])),none⟩,
 ⟨some 3,.mv (.c (.i .i64 0)),none⟩])
 (.seq (.seq (.reg [⟨some 9,.mv (.t 0),none⟩,
 ⟨some 10,.bin .eql (.t 9) (.c (.s [])),none⟩,
 ⟨some 11,.mv (.t 10),none⟩,
 ⟨some 12,.mv (.t 0),some (11,false)⟩,
 ⟨some 13,.call 63 [.t 12],some (11,false)⟩,
 ⟨some 14,.mv (.t 0),some (11,false)⟩,
 ⟨some 15,.lens (.t 14),some (11,false)⟩,
 ⟨some 16,.bin .neq (.t 13) (.t 15),some (11,false)⟩,
 ⟨some 17,.pick (.t 11) (.c (.b true)) (.t 16),none⟩])
 (.cond (.t 17)
 (.seq (.reg [⟨some 2,.mv (.c (.s [])),none⟩,
 ⟨some 3,.mv (.c (.i .i64 130)),none⟩])
 (.ret))
 (.skip)))
 (.seq (.reg [⟨some 4,.mv (.c (.s [])),none⟩])
 (.seq (.seq (.reg [⟨some 18,.mv (.t 0),none⟩,
 ⟨some 19,.idx (.t 18) (.c (.i .i64 0)),none⟩,
 ⟨some 20,.bin .eql (.t 19) (.c (.i .u8 45)),none⟩])
 (.cond (.t 20)
 (.drw [⟨some 21,.mv (.t 0),none⟩,
 ⟨some 22,.slcs (.t 21) (some (.c (.i .i64 1))) none,none⟩,
 ⟨some 4,.mv (.c (.s [45])),none⟩,
 ⟨some 0,.mv (.t 22),none⟩] 4 [])
 (.skip)))
 (.seq (.reg [⟨some 23,.mv (.t 0),none⟩,
 ⟨some 24,.call 14 [.t 23,.c (.s [101,69])],none⟩,
 ⟨some 5,.mv (.t 24),none⟩])
 (.seq (.drw [⟨some 25,.mv (.t 0),none⟩,
 ⟨some 26,.mv (.t 5),none⟩,
 ⟨some 27,.bin .add (.t 26) (.c (.i .i64 1)),none⟩,
 ⟨some 28,.call 65 [.t 25,.t 27],none⟩,
 ⟨some 29,.call 64 [.t 28],none⟩,
 ⟨some 30,.mv (.t 0),none⟩,
 ⟨some 31,.mv (.t 5),none⟩,
 ⟨some 32,.slcs (.t 30) none (some (.t 31)),none⟩,
 ⟨some 6,.mv (.t 29),none⟩,
 ⟨some 7,.mv (.t 32),none⟩] 10 [])
 (.seq (.seq (.reg [⟨some 33,.mv (.t 7),none⟩,
 ⟨some 34,.call 14 [.t 33,.c (.s [46])],none⟩,
 ⟨some 8,.mv (.t 34),none⟩])
 (.seq (.reg [⟨some 35,.mv (.t 8),none⟩,
 ⟨some 36,.mv (.t 7),none⟩,
 ⟨some 37,.lens (.t 36),none⟩,
 ⟨some 38,.bin .lss (.t 35) (.t 37),none⟩])
 (.cond (.t 38)
 (.drw [⟨some 39,.mv (.t 6),none⟩,
 ⟨some 40,.mv (.t 7),none⟩,
 ⟨some 41,.lens (.t 40),none⟩,
 ⟨some 42,.mv (.t 8),none⟩,
 ⟨some 43,.bin .sub (.t 41) (.t 42),none⟩,
 ⟨some 44,.bin .sub (.t 43) (.c (.i .i64 1)),none⟩,
 ⟨some 45,.bin .sub (.t 39) (.t 44),none⟩,
 ⟨some 46,.mv (.t 7),none⟩,
 ⟨some 47,.mv (.t 8),none⟩,
 ⟨some 48,.slcs (.t 46) none (some (.t 47)),none⟩,
 ⟨some 49,.mv (.t 7),none⟩,
 ⟨some 50,.mv (.t 8),none⟩,
 ⟨some 51,.bin .add (.t 50) (.c (.i .i64 1)),none⟩,
 ⟨some 52,.slcs (.t 49) (some (.t 51)) none,none⟩,
 ⟨some 53,.bin .add (.t 48) (.t 52),none⟩,
 ⟨some 6,.mv (.t 45),none⟩,
 ⟨some 7,.mv (.t 53),none⟩] 17 [])
 (.skip))))
 (.seq (.blk 0
 (.loop
 (.seq (.seq (.reg [⟨some 54,.mv (.t 7),none⟩,
 ⟨some 55,.lens (.t 54),none⟩,
 ⟨some 56,.bin .gtr (.t 55) (.c (.i .i64 0)),none⟩,
 ⟨some 57,.mv (.t 56),none⟩,
 ⟨some 58,.mv (.t 7),some (57,true)⟩,
 ⟨some 59,.idx (.t 58) (.c (.i .i64 0)),some (57,true)⟩,
 ⟨some 60,.bin .eql (.t 59) (.c (.i .u8 48)),some (57,true)⟩,
 ⟨some 61,.pick (.t 57) (.t 60) (.c (.b false)),none⟩])
 (.cond (.t 61)
 (.skip)
 (.exit 0)))
 (.blk 1
 (.reg [⟨some 62,.mv (.t 7),none⟩,
 ⟨some 63,.slcs (.t 62) (some (.c (.i .i64 1))) none,none⟩,
 ⟨some 7,.mv (.t 63),none⟩])))))
 (.seq (.seq (.reg [⟨some 64,.mv (.t 7),none⟩,
 ⟨some 65,.bin .eql (.t 64) (.c (.s [])),none⟩])
 (.cond (.t 65)
 (.seq (.reg [⟨some 2,.mv (.c (.s [48])),none⟩,
 ⟨some 3,.mv (.c (.i .i64 0)),none⟩])
 (.ret))
 (.skip)))
 (.seq (.blk 2
 (.loop
 (.seq (.seq (.reg [⟨some 66,.mv (.t 7),none⟩,
 ⟨some 67,.mv (.t 7),none⟩,
 ⟨some 68,.lens (.t 67),none⟩,
 ⟨some 69,.bin .sub (.t 68) (.c (.i .i64 1)),none⟩,
 ⟨some 70,.idx (.t 66) (.t 69),none⟩,
 ⟨some 71,.bin .eql (.t 70) (.c (.i .u8 48)),none⟩])
 (.cond (.t 71)
 (.skip)
 (.exit 2)))
 (.blk 3
 (.reg [⟨some 72,.mv (.t 7),none⟩,
 ⟨some 73,.mv (.t 7),none⟩,
 ⟨some 74,.lens (.t 73),none⟩,
 ⟨some 75,.bin .sub (.t 74) (.c (.i .i64 1)),none⟩,
 ⟨some 76,.slcs (.t 72) none (some (.t 75)),none⟩,
 ⟨some 77,.mv (.t 6),none⟩,
 ⟨some 78,.bin .add (.t 77) (.c (.i .i64 1)),none⟩,
 ⟨some 7,.mv (.t 76),none⟩,
 ⟨some 6,.mv (.t 78),none⟩])))))
 (.seq (.blk 4
 (.seq (.reg [⟨some 80,.mv (.t 7),none⟩,
 ⟨some 81,.lens (.t 80),none⟩,
 ⟨some 82,.bin .gtr (.t 81) (.c (.i .i64 40)),none⟩,
 ⟨some 83,.mv (.t 82),none⟩,
 ⟨some 84,.mv (.t 6),some (83,false)⟩,
 ⟨some 85,.bin .gtr (.t 84) (.c (.i .i64 400)),some (83,false)⟩,
 ⟨some 86,.pick (.t 83) (.c (.b true)) (.t 85),none⟩,
 ⟨some 87,.mv (.t 86),none⟩,
 ⟨some 88,.mv (.t 6),some (87,false)⟩,
 ⟨some 89,.bin .lss (.t 88) (.c (.i .i64 (-400))),some (87,false)⟩,
 ⟨some 90,.pick (.t 87) (.c (.b true)) (.t 89),none⟩,
 ⟨some 79,.mv (.t 90),none⟩])
 (.cond (.t 79)
 (.seq (.reg [⟨some 2,.mv (.c (.s [])),none⟩,
 ⟨some 3,.mv (.c (.i .i64 144)),none⟩])
 (.ret))
 (.seq (.reg [⟨some 92,.mv (.t 6),none⟩,
 ⟨some 93,.bin .lss (.t 92) (.c (.i .i64 0)),none⟩,
 ⟨some 91,.mv (.t 93),none⟩])
 (.cond (.t 91)
 (.seq (.reg [⟨some 94,.mv (.t 4),none⟩,
 ⟨some 95,.mv (.t 7),none⟩,
 ⟨some 96,.bin .add (.t 94) (.t 95),none⟩,
 ⟨some 97,.bin .add (.t 96) (.c (.s [101,45])),none⟩,
 ⟨some 98,.mv (.t 6),none⟩,
 ⟨some 99,.neg (.t 98),none⟩,
 ⟨some 100,.cvi .u64 (.t 99),none⟩,
 ⟨some 101,.call 66 [.t 100],none⟩,
 ⟨some 102,.bin .add (.t 97) (.t 101),none⟩,
 ⟨some 2,.mv (.t 102),none⟩,
 ⟨some 3,.mv (.c (.i .i64 0)),none⟩])
 (.ret))
 (.seq (.reg [⟨some 104,.mv (.t 6),none⟩,
 ⟨some 105,.bin .gtr (.t 104) (.c (.i .i64 0)),none⟩,
 ⟨some 103,.mv (.t 105),none⟩])
 (.cond (.t 103)
 (.seq (.reg [⟨some 106,.mv (.t 4),none⟩,
 ⟨some 107,.mv (.t 7),none⟩,
 ⟨some 108,.bin .add (.t 106) (.t 107),none⟩,
 ⟨some 109,.bin .add (.t 108) (.c (.s [101])),none⟩,
 ⟨some 110,.mv (.t 6),none⟩,
 ⟨some 111,.cvi .u64 (.t 110),none⟩,
 ⟨some 112,.call 66 [.t 111],none⟩,
 ⟨some 113,.bin .add (.t 109) (.t 112),none⟩,
 ⟨some 2,.mv (.t 113),none⟩,
 ⟨some 3,.mv (.c (.i .i64 0)),none⟩])
 (.ret))
 (.skip))))))))
 (.seq (.reg [⟨some 114,.mv (.t 4),none⟩,
 ⟨some 115,.mv (.t 7),none⟩,
 ⟨some 116,.bin .add (.t 114) (.t 115),none⟩,
 ⟨some 2,.mv (.t 116),none⟩,
 ⟨some 3,.mv (.c (.i .i64 0)),none⟩])
 (.ret))))))))))))
theorem is_ref13_Number:FnIs Tryz.prog 34 117 [.tmp 2,.tmp 3] c_ref13_Number:=⟨⟨_,_,Tryz.func34,rfl,rfl,by kernel_rfl,by kernel_rfl⟩⟩
def c_ref14_word:SCode :=
 .seq (.reg [⟨some 2,.mv (.c (.i .i64 0)),none⟩])
 (.seq (.seq (.reg [⟨some 3,.mv (.t 0),none⟩])
 (.blk 0
 (.seq (.reg [⟨some 5,.bin .eql (.t 3) (.c (.s [116,114,117,101])),none⟩,
 ⟨some 4,.mv (.t 5),none⟩])
 (.cond (.t 4)
 (.seq (.reg [⟨some 2,.mv (.c (.i .i64 3)),none⟩])
 (.ret))
 (.seq (.reg [⟨some 7,.bin .eql (.t 3) (.c (.s [102,97,108,115,101])),none⟩,
 ⟨some 6,.mv (.t 7),none⟩])
 (.cond (.t 6)
 (.seq (.reg [⟨some 2,.mv (.c (.i .i64 2)),none⟩])
 (.ret))
 (.skip)))))))
 (.seq (.reg [⟨some 2,.mv (.c (.i .i64 1)),none⟩])
 (.ret)))
theorem is_ref14_word:FnIs Tryz.prog 35 8 [.tmp 2] c_ref14_word:=⟨⟨_,_,Tryz.func35,rfl,rfl,by kernel_rfl,by kernel_rfl⟩⟩
def c_ref14_parser_array:SCode :=
 .seq (.reg [⟨some 4,.alloc 30 [.i .i64 0,.s [],.nil,.nil],none⟩])
 (.seq (.reg [⟨some 7,.build [.i .i64 0,.s [],.nil,.nil] [(0,(1,.c (.i .i64 6)))],none⟩,
 ⟨some 5,.alloc 30 [.i .i64 0,.s [],.nil,.nil],none⟩,
 ⟨none,.store 4 (.t 5) (.t 7),none⟩])
 (.seq (.reg [⟨some 8,.mv (.t 0),none⟩,
 ⟨some 9,.call 18 [.t 8],none⟩,
 ⟨some 6,.alloc 56 [.i .i64 0,.s [],.i .i64 0],none⟩,
 ⟨none,.store 3 (.t 6) (.t 9),none⟩])
 (.seq (.seq (.reg [⟨some 10,.loadn 3 (.t 6),none⟩,
 ⟨some 11,.call 33 [.t 10,.c (.s [93])],none⟩])
 (.cond (.t 11)
 (.seq (.reg [⟨some 12,.loadn 4 (.t 5),none⟩,
 ⟨none,.store 4 (.t 4) (.t 12),none⟩])
 (.ret))
 (.skip)))
 (.seq (.blk 0
 (.loop
 (.seq (.seq (.reg [⟨some 13,.mv (.t 0),none⟩,
 ⟨some 14,.nck (.t 13),none⟩,
 ⟨some 15,.fad 3 (.t 14),none⟩,
 ⟨some 16,.load1 (.t 15),none⟩,
 ⟨some 17,.bin .eql (.t 16) (.c (.i .i64 0)),none⟩])
 (.cond (.t 17)
 (.skip)
 (.exit 0)))
 (.blk 1
 (.seq (.crg [⟨some 18,.fad 3 (.t 5),none⟩,⟨some 19,.load1 (.t 18),none⟩,⟨some 20,.mv (.t 0),none⟩,⟨some 21,.loadn 3 (.t 6),none⟩,⟨some 22,.mv (.t 1),none⟩] ⟨some 23,.call 17 [.t 20,.t 21,.t 22],none⟩ [⟨some 24,.bslice 1 [.i .i64 0,.s [],.nil,.nil] [(0,(4,.t 23))],none⟩,⟨some 25,.app 30 4 72 (.t 19) (.t 24),none⟩,⟨some 26,.fad 3 (.t 5),none⟩,⟨none,.store 1 (.t 26) (.t 25),none⟩])
 (.seq (.reg [⟨some 27,.mv (.t 0),none⟩,
 ⟨some 28,.call 18 [.t 27],none⟩,
 ⟨none,.store 3 (.t 6) (.t 28),none⟩])
 (.seq (.seq (.reg [⟨some 29,.loadn 3 (.t 6),none⟩,
 ⟨some 30,.call 33 [.t 29,.c (.s [93])],none⟩])
 (.cond (.t 30)
 (.seq (.reg [⟨some 31,.loadn 4 (.t 5),none⟩,
 ⟨none,.store 4 (.t 4) (.t 31),none⟩])
 (.ret))
 (.skip)))
 (.seq (.seq (.reg [⟨some 32,.mv (.t 0),none⟩,
 ⟨some 33,.nck (.t 32),none⟩,
 ⟨some 34,.fad 3 (.t 33),none⟩,
 ⟨some 35,.load1 (.t 34),none⟩,
 ⟨some 36,.bin .eql (.t 35) (.c (.i .i64 0)),none⟩,
 ⟨some 37,.mv (.t 36),none⟩,
 ⟨some 38,.loadn 3 (.t 6),some (37,true)⟩,
 ⟨some 39,.call 33 [.t 38,.c (.s [44])],some (37,true)⟩,
 ⟨some 40,.not (.t 39),some (37,true)⟩,
 ⟨some 41,.pick (.t 37) (.t 40) (.c (.b false)),none⟩])
 (.cond (.t 41)
 (.reg [⟨some 42,.mv (.t 0),none⟩,
 ⟨some 43,.fad 2 (.t 6),none⟩,
 ⟨some 44,.load1 (.t 43),none⟩,
 ⟨some 45,.call 19 [.t 42,.t 44,.c (.i .i64 140)],none⟩])
 (.skip)))
 (.reg [⟨some 46,.mv (.t 0),none⟩,
 ⟨some 47,.call 18 [.t 46],none⟩,
 ⟨none,.store 3 (.t 6) (.t 47),none⟩])))))))))
 (.seq (.reg [⟨some 48,.loadn 4 (.t 5),none⟩,
 ⟨none,.store 4 (.t 4) (.t 48),none⟩])
 (.ret))))))
theorem is_ref14_parser_array:FnIs Tryz.prog 36 49 [.celln 4 4] c_ref14_parser_array:=⟨⟨_,_,Tryz.func36,rfl,rfl,by kernel_rfl,by kernel_rfl⟩⟩
def c_ref14_parser_object:SCode :=
 .seq (.reg [⟨some 4,.alloc 30 [.i .i64 0,.s [],.nil,.nil],none⟩])
 (.seq (.reg [⟨some 11,.build [.i .i64 0,.s [],.nil,.nil] [(0,(1,.c (.i .i64 7)))],none⟩,
 ⟨some 5,.alloc 30 [.i .i64 0,.s [],.nil,.nil],none⟩,
 ⟨none,.store 4 (.t 5) (.t 11),none⟩])
 (.seq (.reg [⟨some 12,.mv (.t 0),none⟩,
 ⟨some 13,.call 18 [.t 12],none⟩,
 ⟨some 6,.alloc 56 [.i .i64 0,.s [],.i .i64 0],none⟩,
 ⟨none,.store 3 (.t 6) (.t 13),none⟩])
 (.seq (.seq (.reg [⟨some 14,.loadn 3 (.t 6),none⟩,
 ⟨some 15,.call 33 [.t 14,.c (.s [125])],none⟩])
 (.cond (.t 15)
 (.seq (.reg [⟨some 16,.loadn 4 (.t 5),none⟩,
 ⟨none,.store 4 (.t 4) (.t 16),none⟩])
 (.ret))
 (.skip)))
 (.seq (.blk 0
 (.loop
 (.seq (.seq (.reg [⟨some 17,.mv (.t 0),none⟩,
 ⟨some 18,.nck (.t 17),none⟩,
 ⟨some 19,.fad 3 (.t 18),none⟩,
 ⟨some 20,.load1 (.t 19),none⟩,
 ⟨some 21,.bin .eql (.t 20) (.c (.i .i64 0)),none⟩])
 (.cond (.t 21)
 (.skip)
 (.exit 0)))
 (.blk 1
 (.seq (.seq (.reg [⟨some 22,.fad 0 (.t 6),none⟩,
 ⟨some 23,.load1 (.t 22),none⟩,
 ⟨some 24,.bin .neq (.t 23) (.c (.i .i64 3)),none⟩])
 (.cond (.t 24)
 (.reg [⟨some 25,.mv (.t 0),none⟩,
 ⟨some 26,.fad 2 (.t 6),none⟩,
 ⟨some 27,.load1 (.t 26),none⟩,
 ⟨some 28,.call 19 [.t 25,.t 27,.c (.i .i64 140)],none⟩])
 (.skip)))
 (.seq (.seq (.reg [⟨some 30,.loadn 4 (.t 5),none⟩,
 ⟨some 31,.fad 1 (.t 6),none⟩,
 ⟨some 32,.load1 (.t 31),none⟩,
 ⟨some 33,.call 67 [.t 30,.t 32],none⟩,
 ⟨some 29,.mv (.t 33),none⟩,
 ⟨some 34,.ext (.t 29) 0,none⟩,
 ⟨some 35,.ext (.t 29) 1,none⟩,
 ⟨some 7,.alloc 30 [.i .i64 0,.s [],.nil,.nil],none⟩,
 ⟨none,.store 4 (.t 7) (.t 34),none⟩,
 ⟨some 8,.mv (.t 35),none⟩])
 (.seq (.reg [⟨some 36,.mv (.t 8),none⟩])
 (.cond (.t 36)
 (.reg [⟨some 37,.mv (.t 0),none⟩,
 ⟨some 38,.fad 2 (.t 6),none⟩,
 ⟨some 39,.load1 (.t 38),none⟩,
 ⟨some 40,.call 19 [.t 37,.t 39,.c (.i .i64 143)],none⟩])
 (.skip))))
 (.seq (.reg [⟨some 41,.fad 1 (.t 6),none⟩,
 ⟨some 42,.load1 (.t 41),none⟩,
 ⟨some 9,.mv (.t 42),none⟩])
 (.seq (.seq (.reg [⟨some 43,.mv (.t 0),none⟩,
 ⟨some 44,.call 18 [.t 43],none⟩,
 ⟨none,.store 3 (.t 6) (.t 44),none⟩])
 (.seq (.reg [⟨some 45,.mv (.t 0),none⟩,
 ⟨some 46,.nck (.t 45),none⟩,
 ⟨some 47,.fad 3 (.t 46),none⟩,
 ⟨some 48,.load1 (.t 47),none⟩,
 ⟨some 49,.bin .eql (.t 48) (.c (.i .i64 0)),none⟩,
 ⟨some 50,.mv (.t 49),none⟩,
 ⟨some 51,.loadn 3 (.t 6),some (50,true)⟩,
 ⟨some 52,.call 33 [.t 51,.c (.s [58])],some (50,true)⟩,
 ⟨some 53,.not (.t 52),some (50,true)⟩,
 ⟨some 54,.pick (.t 50) (.t 53) (.c (.b false)),none⟩])
 (.cond (.t 54)
 (.reg [⟨some 55,.mv (.t 0),none⟩,
 ⟨some 56,.fad 2 (.t 6),none⟩,
 ⟨some 57,.load1 (.t 56),none⟩,
 ⟨some 58,.call 19 [.t 55,.t 57,.c (.i .i64 140)],none⟩])
 (.skip))))
 (.seq (.reg [⟨some 59,.mv (.t 0),none⟩,
 ⟨some 60,.mv (.t 0),none⟩,
 ⟨some 61,.call 18 [.t 60],none⟩,
 ⟨some 62,.mv (.t 1),none⟩,
 ⟨some 63,.call 17 [.t 59,.t 61,.t 62],none⟩,
 ⟨some 10,.alloc 30 [.i .i64 0,.s [],.nil,.nil],none⟩,
 ⟨none,.store 4 (.t 10) (.t 63),none⟩])
 (.seq (.drw [⟨some 64,.fad 2 (.t 5),none⟩,
 ⟨some 65,.load1 (.t 64),none⟩,
 ⟨some 66,.mv (.t 9),none⟩,
 ⟨some 67,.bslice 1 [.s []] [(0,(1,.t 66))],none⟩,
 ⟨some 68,.app 9 1 16 (.t 65) (.t 67),none⟩,
 ⟨some 69,.fad 3 (.t 5),none⟩,
 ⟨some 70,.load1 (.t 69),none⟩,
 ⟨some 71,.loadn 4 (.t 10),none⟩,
 ⟨some 72,.bslice 1 [.i .i64 0,.s [],.nil,.nil] [(0,(4,.t 71))],none⟩,
 ⟨some 73,.app 30 4 72 (.t 70) (.t 72),none⟩,
 ⟨some 74,.fad 2 (.t 5),none⟩,
 ⟨none,.store 1 (.t 74) (.t 68),none⟩,
 ⟨some 75,.fad 3 (.t 5),none⟩,
 ⟨none,.store 1 (.t 75) (.t 73),none⟩] 14 [(69,(68,none)),(10,(68,none))])
 (.seq (.reg [⟨some 76,.mv (.t 0),none⟩,
 ⟨some 77,.call 18 [.t 76],none⟩,
 ⟨none,.store 3 (.t 6) (.t 77),none⟩])
 (.seq (.seq (.reg [⟨some 78,.loadn 3 (.t 6),none⟩,
 ⟨some 79,.call 33 [.t 78,.c (.s [125])],none⟩])
 (.cond (.t 79)
 (.seq (.reg [⟨some 80,.loadn 4 (.t 5),none⟩,
 ⟨none,.store 4 (.t 4) (.t 80),none⟩])
 (.ret))
 (.skip)))
 (.seq (.seq (.reg [⟨some 81,.mv (.t 0),none⟩,
 ⟨some 82,.nck (.t 81),none⟩,
 ⟨some 83,.fad 3 (.t 82),none⟩,
 ⟨some 84,.load1 (.t 83),none⟩,
 ⟨some 85,.bin .eql (.t 84) (.c (.i .i64 0)),none⟩,
 ⟨some 86,.mv (.t 85),none⟩,
 ⟨some 87,.loadn 3 (.t 6),some (86,true)⟩,
 ⟨some 88,.call 33 [.t 87,.c (.s [44])],some (86,true)⟩,
 ⟨some 89,.not (.t 88),some (86,true)⟩,
 ⟨some 90,.pick (.t 86) (.t 89) (.c (.b false)),none⟩])
 (.cond (.t 90)
 (.reg [⟨some 91,.mv (.t 0),none⟩,
 ⟨some 92,.fad 2 (.t 6),none⟩,
 ⟨some 93,.load1 (.t 92),none⟩,
 ⟨some 94,.call 19 [.t 91,.t 93,.c (.i .i64 140)],none⟩])
 (.skip)))
 (.reg [⟨some 95,.mv (.t 0),none⟩,
 ⟨some 96,.call 18 [.t 95],none⟩,
 ⟨none,.store 3 (.t 6) (.t 96),none⟩]))))))))))))))
 (.seq (.reg [⟨some 97,.loadn 4 (.t 5),none⟩,
 ⟨none,.store 4 (.t 4) (.t 97),none⟩])
 (.ret))))))
theorem is_ref14_parser_object:FnIs Tryz.prog 37 98 [.celln 4 4] c_ref14_parser_object:=⟨⟨_,_,Tryz.func37,rfl,rfl,by kernel_rfl,by kernel_rfl⟩⟩
def c_ref13_Next:SCode :=
 .seq (.reg [⟨some 4,.alloc 56 [.i .i64 0,.s [],.i .i64 0],none⟩,
 ⟨some 5,.mv (.c (.i .i64 0)),none⟩,
 ⟨some 6,.mv (.c (.i .i64 0)),none⟩])
 (.seq (.seq (.reg [⟨some 14,.mv (.t 1),none⟩,
 ⟨some 15,.bin .lss (.t 14) (.c (.i .i64 0)),none⟩,
 ⟨some 16,.mv (.t 15),none⟩,
 ⟨some 17,.mv (.t 1),some (16,false)⟩,
 ⟨some 18,.mv (.t 0),some (16,false)⟩,
 ⟨some 19,.lens (.t 18),some (16,false)⟩,
 ⟨some 20,.bin .gtr (.t 17) (.t 19),some (16,false)⟩,
 ⟨some 21,.pick (.t 16) (.c (.b true)) (.t 20),none⟩])
 (.cond (.t 21)
 (.seq (.reg [⟨some 22,.build [.i .i64 0,.s [],.i .i64 0] [],none⟩,
 ⟨none,.store 3 (.t 4) (.t 22),none⟩,
 ⟨some 5,.mv (.c (.i .i64 0)),none⟩,
 ⟨some 6,.mv (.c (.i .i64 4)),none⟩])
 (.ret))
 (.skip)))
 (.seq (.blk 0
 (.loop
 (.seq (.seq (.reg [⟨some 23,.mv (.t 1),none⟩,
 ⟨some 24,.mv (.t 0),none⟩,
 ⟨some 25,.lens (.t 24),none⟩,
 ⟨some 26,.bin .lss (.t 23) (.t 25),none⟩,
 ⟨some 27,.mv (.t 26),none⟩,
 ⟨some 28,.mv (.t 0),some (27,true)⟩,
 ⟨some 29,.mv (.t 1),some (27,true)⟩,
 ⟨some 30,.idx (.t 28) (.t 29),some (27,true)⟩,
 ⟨some 31,.call 68 [.t 30],some (27,true)⟩,
 ⟨some 32,.pick (.t 27) (.t 31) (.c (.b false)),none⟩])
 (.cond (.t 32)
 (.skip)
 (.exit 0)))
 (.blk 1
 (.reg [⟨some 33,.mv (.t 1),none⟩,
 ⟨some 34,.bin .add (.t 33) (.c (.i .i64 1)),none⟩,
 ⟨some 1,.mv (.t 34),none⟩])))))
 (.seq (.seq (.reg [⟨some 35,.mv (.t 1),none⟩,
 ⟨some 36,.mv (.t 0),none⟩,
 ⟨some 37,.lens (.t 36),none⟩,
 ⟨some 38,.bin .eql (.t 35) (.t 37),none⟩])
 (.cond (.t 38)
 (.seq (.reg [⟨some 39,.mv (.t 1),none⟩,
 ⟨some 40,.build [.i .i64 0,.s [],.i .i64 0] [(0,(1,.c (.i .i64 1))),(2,(1,.t 39))],none⟩,
 ⟨some 41,.mv (.t 1),none⟩,
 ⟨none,.store 3 (.t 4) (.t 40),none⟩,
 ⟨some 5,.mv (.t 41),none⟩,
 ⟨some 6,.mv (.c (.i .i64 0)),none⟩])
 (.ret))
 (.skip)))
 (.seq (.seq (.reg [⟨some 42,.mv (.t 0),none⟩,
 ⟨some 43,.mv (.t 1),none⟩,
 ⟨some 44,.idx (.t 42) (.t 43),none⟩,
 ⟨some 7,.mv (.t 44),none⟩])
 (.blk 2
 (.seq (.reg [⟨some 46,.mv (.t 7),none⟩,
 ⟨some 47,.call 31 [.t 46,.c (.s [123,125,91,93,58,44])],none⟩,
 ⟨some 45,.mv (.t 47),none⟩])
 (.cond (.t 45)
 (.seq (.reg [⟨some 48,.mv (.t 0),none⟩,
 ⟨some 49,.mv (.t 1),none⟩,
 ⟨some 50,.mv (.t 1),none⟩,
 ⟨some 51,.bin .add (.t 50) (.c (.i .i64 1)),none⟩,
 ⟨some 52,.slcs (.t 48) (some (.t 49)) (some (.t 51)),none⟩,
 ⟨some 53,.mv (.t 1),none⟩,
 ⟨some 54,.build [.i .i64 0,.s [],.i .i64 0] [(0,(1,.c (.i .i64 2))),(1,(1,.t 52)),(2,(1,.t 53))],none⟩,
 ⟨some 55,.mv (.t 1),none⟩,
 ⟨some 56,.bin .add (.t 55) (.c (.i .i64 1)),none⟩,
 ⟨none,.store 3 (.t 4) (.t 54),none⟩,
 ⟨some 5,.mv (.t 56),none⟩,
 ⟨some 6,.mv (.c (.i .i64 0)),none⟩])
 (.ret))
 (.seq (.reg [⟨some 58,.mv (.t 7),none⟩,
 ⟨some 59,.bin .eql (.t 58) (.c (.i .u8 34)),none⟩,
 ⟨some 57,.mv (.t 59),none⟩])
 (.cond (.t 57)
 (.seq (.reg [⟨some 61,.mv (.t 0),none⟩,
 ⟨some 62,.mv (.t 1),none⟩,
 ⟨some 63,.call 69 [.t 61,.t 62],none⟩,
 ⟨some 60,.mv (.t 63),none⟩,
 ⟨some 64,.ext (.t 60) 0,none⟩,
 ⟨some 65,.ext (.t 60) 1,none⟩,
 ⟨some 66,.ext (.t 60) 2,none⟩,
 ⟨some 8,.mv (.t 64),none⟩,
 ⟨some 9,.mv (.t 65),none⟩,
 ⟨some 10,.mv (.t 66),none⟩])
 (.seq (.seq (.reg [⟨some 67,.mv (.t 10),none⟩,
 ⟨some 68,.bin .neq (.t 67) (.c (.i .i64 0)),none⟩])
 (.cond (.t 68)
 (.seq (.reg [⟨some 69,.build [.i .i64 0,.s [],.i .i64 0] [],none⟩,
 ⟨some 70,.mv (.t 10),none⟩,
 ⟨none,.store 3 (.t 4) (.t 69),none⟩,
 ⟨some 5,.mv (.c (.i .i64 0)),none⟩,
 ⟨some 6,.mv (.t 70),none⟩])
 (.ret))
 (.skip)))
 (.seq (.reg [⟨some 71,.mv (.t 8),none⟩,
 ⟨some 72,.mv (.t 1),none⟩,
 ⟨some 73,.build [.i .i64 0,.s [],.i .i64 0] [(0,(1,.c (.i .i64 3))),(1,(1,.t 71)),(2,(1,.t 72))],none⟩,
 ⟨some 74,.mv (.t 9),none⟩,
 ⟨none,.store 3 (.t 4) (.t 73),none⟩,
 ⟨some 5,.mv (.t 74),none⟩,
 ⟨some 6,.mv (.c (.i .i64 0)),none⟩])
 (.ret))))
 (.seq (.reg [⟨some 76,.mv (.t 7),none⟩,
 ⟨some 77,.bin .eql (.t 76) (.c (.i .u8 45)),none⟩,
 ⟨some 78,.mv (.t 77),none⟩,
 ⟨some 79,.mv (.t 7),some (78,false)⟩,
 ⟨some 80,.call 70 [.t 79],some (78,false)⟩,
 ⟨some 81,.pick (.t 78) (.c (.b true)) (.t 80),none⟩,
 ⟨some 75,.mv (.t 81),none⟩])
 (.cond (.t 75)
 (.seq (.reg [⟨some 82,.mv (.t 0),none⟩,
 ⟨some 83,.mv (.t 1),none⟩,
 ⟨some 84,.slcs (.t 82) (some (.t 83)) none,none⟩,
 ⟨some 85,.call 63 [.t 84],none⟩,
 ⟨some 11,.mv (.t 85),none⟩])
 (.seq (.seq (.reg [⟨some 86,.mv (.t 11),none⟩,
 ⟨some 87,.bin .eql (.t 86) (.c (.i .i64 0)),none⟩])
 (.cond (.t 87)
 (.seq (.reg [⟨some 88,.build [.i .i64 0,.s [],.i .i64 0] [],none⟩,
 ⟨none,.store 3 (.t 4) (.t 88),none⟩,
 ⟨some 5,.mv (.c (.i .i64 0)),none⟩,
 ⟨some 6,.mv (.c (.i .i64 130)),none⟩])
 (.ret))
 (.skip)))
 (.seq (.reg [⟨some 89,.mv (.t 0),none⟩,
 ⟨some 90,.mv (.t 1),none⟩,
 ⟨some 91,.mv (.t 1),none⟩,
 ⟨some 92,.mv (.t 11),none⟩,
 ⟨some 93,.bin .add (.t 91) (.t 92),none⟩,
 ⟨some 94,.slcs (.t 89) (some (.t 90)) (some (.t 93)),none⟩,
 ⟨some 95,.mv (.t 1),none⟩,
 ⟨some 96,.build [.i .i64 0,.s [],.i .i64 0] [(0,(1,.c (.i .i64 4))),(1,(1,.t 94)),(2,(1,.t 95))],none⟩,
 ⟨some 97,.mv (.t 1),none⟩,
 ⟨some 98,.mv (.t 11),none⟩,
 ⟨some 99,.bin .add (.t 97) (.t 98),none⟩,
 ⟨none,.store 3 (.t 4) (.t 96),none⟩,
 ⟨some 5,.mv (.t 99),none⟩,
 ⟨some 6,.mv (.c (.i .i64 0)),none⟩])
 (.ret))))
 (.skip)))))))))
 (.seq (.reg [⟨some 12,.mv (.c (.i .i64 0)),none⟩])
 (.seq (.blk 3
 (.loop
 (.seq (.seq (.reg [⟨some 100,.mv (.t 1),none⟩,
 ⟨some 101,.mv (.t 12),none⟩,
 ⟨some 102,.bin .add (.t 100) (.t 101),none⟩,
 ⟨some 103,.mv (.t 0),none⟩,
 ⟨some 104,.lens (.t 103),none⟩,
 ⟨some 105,.bin .lss (.t 102) (.t 104),none⟩,
 ⟨some 106,.mv (.t 105),none⟩,
 ⟨some 107,.mv (.t 0),some (106,true)⟩,
 ⟨some 108,.mv (.t 1),some (106,true)⟩,
 ⟨some 109,.mv (.t 12),some (106,true)⟩,
 ⟨some 110,.bin .add (.t 108) (.t 109),some (106,true)⟩,
 ⟨some 111,.idx (.t 107) (.t 110),some (106,true)⟩,
 ⟨some 112,.call 71 [.t 111],some (106,true)⟩,
 ⟨some 113,.pick (.t 106) (.t 112) (.c (.b false)),none⟩])
 (.cond (.t 113)
 (.skip)
 (.exit 3)))
 (.blk 4
 (.reg [⟨some 114,.mv (.t 12),none⟩,
 ⟨some 115,.bin .add (.t 114) (.c (.i .i64 1)),none⟩,
 ⟨some 12,.mv (.t 115),none⟩])))))
 (.seq (.seq (.reg [⟨some 116,.mv (.t 0),none⟩,
 ⟨some 117,.mv (.t 1),none⟩,
 ⟨some 118,.mv (.t 1),none⟩,
 ⟨some 119,.mv (.t 12),none⟩,
 ⟨some 120,.bin .add (.t 118) (.t 119),none⟩,
 ⟨some 121,.slcs (.t 116) (some (.t 117)) (some (.t 120)),none⟩,
 ⟨some 13,.mv (.t 121),none⟩])
 (.seq (.reg [⟨some 122,.mv (.t 13),none⟩,
 ⟨some 123,.bin .eql (.t 122) (.c (.s [116,114,117,101])),none⟩,
 ⟨some 124,.mv (.t 123),none⟩,
 ⟨some 125,.mv (.t 13),some (124,false)⟩,
 ⟨some 126,.bin .eql (.t 125) (.c (.s [102,97,108,115,101])),some (124,false)⟩,
 ⟨some 127,.pick (.t 124) (.c (.b true)) (.t 126),none⟩,
 ⟨some 128,.mv (.t 127),none⟩,
 ⟨some 129,.mv (.t 13),some (128,false)⟩,
 ⟨some 130,.bin .eql (.t 129) (.c (.s [110,117,108,108])),some (128,false)⟩,
 ⟨some 131,.pick (.t 128) (.c (.b true)) (.t 130),none⟩])
 (.cond (.t 131)
 (.seq (.reg [⟨some 132,.mv (.t 13),none⟩,
 ⟨some 133,.mv (.t 1),none⟩,
 ⟨some 134,.build [.i .i64 0,.s [],.i .i64 0] [(0,(1,.c (.i .i64 5))),(1,(1,.t 132)),(2,(1,.t 133))],none⟩,
 ⟨some 135,.mv (.t 1),none⟩,
 ⟨some 136,.mv (.t 12),none⟩,
 ⟨some 137,.bin .add (.t 135) (.t 136),none⟩,
 ⟨none,.store 3 (.t 4) (.t 134),none⟩,
 ⟨some 5,.mv (.t 137),none⟩,
 ⟨some 6,.mv (.c (.i .i64 0)),none⟩])
 (.ret))
 (.skip))))
 (.seq (.reg [⟨some 138,.build [.i .i64 0,.s [],.i .i64 0] [],none⟩,
 ⟨none,.store 3 (.t 4) (.t 138),none⟩,
 ⟨some 5,.mv (.c (.i .i64 0)),none⟩,
 ⟨some 6,.mv (.c (.i .i64 130)),none⟩])
 (.ret)))))))))
theorem is_ref13_Next:FnIs Tryz.prog 38 139 [.celln 4 3,.tmp 5,.tmp 6] c_ref13_Next:=⟨⟨_,_,Tryz.func38,rfl,rfl,by kernel_rfl,by kernel_rfl⟩⟩
def c_diddoc_membersOf:SCode :=
 .seq (.reg [⟨some 1,.box 30 (.t 0),none⟩,
 ⟨some 2,.mv (.c (.o .nilFunc)),none⟩])
 (.seq (.reg [⟨some 3,.mkf 72 [] [.t 1],none⟩,
 ⟨some 2,.mv (.t 3),none⟩])
 (.ret))
theorem is_diddoc_membersOf:FnIs Tryz.prog 39 4 [.tmp 2] c_diddoc_membersOf:=⟨⟨_,_,Tryz.func39,rfl,rfl,by kernel_rfl,by kernel_rfl⟩⟩
def c_diddoc_subject:SCode :=
 .seq (.reg [⟨some 1,.box 30 (.t 0),none⟩,
 ⟨some 2,.alloc 37 [.s [],.s []],none⟩,
 ⟨some 3,.mv (.c (.i .i64 0)),none⟩])
 (.seq (.reg [⟨some 9,.loadn 4 (.t 1),none⟩,
 ⟨some 10,.call 74 [.t 9,.c (.s [105,100])],none⟩,
 ⟨some 8,.mv (.t 10),none⟩,
 ⟨some 11,.ext (.t 8) 0,none⟩,
 ⟨some 12,.ext (.t 8) 1,none⟩,
 ⟨some 4,.mv (.t 11),none⟩,
 ⟨some 5,.mv (.t 12),none⟩])
 (.seq (.seq (.reg [⟨some 13,.mv (.t 5),none⟩,
 ⟨some 14,.not (.t 13),none⟩])
 (.cond (.t 14)
 (.seq (.reg [⟨some 15,.build [.s [],.s []] [],none⟩,
 ⟨none,.store 2 (.t 2) (.t 15),none⟩,
 ⟨some 3,.mv (.c (.i .i64 160)),none⟩])
 (.ret))
 (.skip)))
 (.seq (.reg [⟨some 17,.mv (.t 4),none⟩,
 ⟨some 18,.call 75 [.t 17],none⟩,
 ⟨some 16,.mv (.t 18),none⟩,
 ⟨some 19,.ext (.t 16) 0,none⟩,
 ⟨some 20,.ext (.t 16) 1,none⟩,
 ⟨some 6,.alloc 37 [.s [],.s []],none⟩,
 ⟨none,.store 2 (.t 6) (.t 19),none⟩,
 ⟨some 7,.mv (.t 20),none⟩])
 (.seq (.seq (.reg [⟨some 21,.mv (.t 7),none⟩,
 ⟨some 22,.bin .neq (.t 21) (.c (.i .i64 0)),none⟩])
 (.cond (.t 22)
 (.seq (.reg [⟨some 23,.build [.s [],.s []] [],none⟩,
 ⟨none,.store 2 (.t 2) (.t 23),none⟩,
 ⟨some 3,.mv (.c (.i .i64 160)),none⟩])
 (.ret))
 (.skip)))
 (.seq (.reg [⟨some 24,.loadn 2 (.t 6),none⟩,
 ⟨none,.store 2 (.t 2) (.t 24),none⟩,
 ⟨some 3,.mv (.c (.i .i64 0)),none⟩])
 (.ret))))))
theorem is_diddoc_subject:FnIs Tryz.prog 40 25 [.celln 2 2,.tmp 3] c_diddoc_subject:=⟨⟨_,_,Tryz.func40,rfl,rfl,by kernel_rfl,by kernel_rfl⟩⟩
def c_diddoc_listed:SCode :=
 .seq (.reg [⟨some 1,.box 30 (.t 0),none⟩,
 ⟨some 2,.mv (.c .nil),none⟩,
 ⟨some 3,.mv (.c (.i .i64 0)),none⟩])
 (.seq (.seq (.reg [⟨some 4,.fad 0 (.t 1),none⟩,
 ⟨some 5,.load1 (.t 4),none⟩,
 ⟨some 6,.bin .neq (.t 5) (.c (.i .i64 6)),none⟩])
 (.cond (.t 6)
 (.seq (.reg [⟨some 2,.mv (.c .nil),none⟩,
 ⟨some 3,.mv (.c (.i .i64 160)),none⟩])
 (.ret))
 (.skip)))
 (.seq (.reg [⟨some 7,.fad 3 (.t 1),none⟩,
 ⟨some 8,.load1 (.t 7),none⟩,
 ⟨some 9,.call 76 [.t 8],none⟩,
 ⟨some 10,.ext (.t 9) 0,none⟩,
 ⟨some 11,.ext (.t 9) 1,none⟩,
 ⟨some 2,.mv (.t 10),none⟩,
 ⟨some 3,.mv (.t 11),none⟩])
 (.ret)))
theorem is_diddoc_listed:FnIs Tryz.prog 41 12 [.tmp 2,.tmp 3] c_diddoc_listed:=⟨⟨_,_,Tryz.func41,rfl,rfl,by kernel_rfl,by kernel_rfl⟩⟩
def c_diddoc_oneOrListed:SCode :=
 .seq (.reg [⟨some 1,.box 30 (.t 0),none⟩,
 ⟨some 2,.mv (.c .nil),none⟩,
 ⟨some 3,.mv (.c (.i .i64 0)),none⟩])
 (.seq (.seq (.reg [⟨some 4,.fad 0 (.t 1),none⟩,
 ⟨some 5,.load1 (.t 4),none⟩,
 ⟨some 6,.bin .eql (.t 5) (.c (.i .i64 6)),none⟩])
 (.cond (.t 6)
 (.seq (.reg [⟨some 7,.loadn 4 (.t 1),none⟩,
 ⟨some 8,.call 41 [.t 7],none⟩,
 ⟨some 9,.ext (.t 8) 0,none⟩,
 ⟨some 10,.ext (.t 8) 1,none⟩,
 ⟨some 2,.mv (.t 9),none⟩,
 ⟨some 3,.mv (.t 10),none⟩])
 (.ret))
 (.skip)))
 (.seq (.reg [⟨some 11,.loadn 4 (.t 1),none⟩,
 ⟨some 12,.bslice 1 [.i .i64 0,.s [],.nil,.nil] [(0,(4,.t 11))],none⟩,
 ⟨some 13,.call 76 [.t 12],none⟩,
 ⟨some 14,.ext (.t 13) 0,none⟩,
 ⟨some 15,.ext (.t 13) 1,none⟩,
 ⟨some 2,.mv (.t 14),none⟩,
 ⟨some 3,.mv (.t 15),none⟩])
 (.ret)))
theorem is_diddoc_oneOrListed:FnIs Tryz.prog 42 16 [.tmp 2,.tmp 3] c_diddoc_oneOrListed:=⟨⟨_,_,Tryz.func42,rfl,rfl,by kernel_rfl,by kernel_rfl⟩⟩
def c_diddoc_elements__api_Method:SCode :=
 .seq (.reg [⟨some 3,.box 30 (.t 0),none⟩,
 ⟨some 4,.box 37 (.t 1),none⟩,
 ⟨some 6,.mv (.c .nil),none⟩,
 ⟨some 7,.mv (.c (.i .i64 0)),none⟩])
 (.seq (.seq (.reg [⟨some 13,.fad 0 (.t 3),none⟩,
 ⟨some 14,.load1 (.t 13),none⟩,
 ⟨some 15,.bin .neq (.t 14) (.c (.i .i64 6)),none⟩])
 (.cond (.t 15)
 (.seq (.reg [⟨some 6,.mv (.c .nil),none⟩,
 ⟨some 7,.mv (.c (.i .i64 160)),none⟩])
 (.ret))
 (.skip)))
 (.seq (.seq (.reg [⟨some 16,.fad 3 (.t 3),none⟩,
 ⟨some 17,.load1 (.t 16),none⟩,
 ⟨some 18,.lenr (.t 17),none⟩,
 ⟨some 19,.bin .gtr (.t 18) (.c (.i .i64 64)),none⟩])
 (.cond (.t 19)
 (.seq (.reg [⟨some 6,.mv (.c .nil),none⟩,
 ⟨some 7,.mv (.c (.i .i64 161)),none⟩])
 (.ret))
 (.skip)))
 (.seq (.reg [⟨some 8,.mv (.c .nil),none⟩])
 (.seq (.seq (.reg [⟨some 20,.fad 3 (.t 3),none⟩,
 ⟨some 21,.load1 (.t 20),none⟩,
 ⟨some 22,.lenr (.t 21),none⟩,
 ⟨some 23,.mv (.c (.i .i64 0)),none⟩])
 (.blk 0
 (.loop
 (.seq (.reg [⟨some 24,.bin .lss (.t 23) (.t 22),none⟩])
 (.seq (.cond (.t 24)
 (.skip)
 (.exit 0))
 (.seq (.blk 1
 (.seq (.reg [⟨some 25,.iad 4 (.t 21) (.t 23),none⟩,
 ⟨some 26,.loadn 4 (.t 25),none⟩,
 ⟨some 10,.alloc 30 [.i .i64 0,.s [],.nil,.nil],none⟩,
 ⟨none,.store 4 (.t 10) (.t 26),none⟩])
 (.seq (.reg [⟨some 28,.mv (.t 2),none⟩,
 ⟨some 29,.loadn 4 (.t 10),none⟩,
 ⟨some 30,.loadn 2 (.t 4),none⟩,
 ⟨some 31,.callv (.t 28) [.t 29,.t 30],none⟩,
 ⟨some 27,.mv (.t 31),none⟩,
 ⟨some 32,.ext (.t 27) 0,none⟩,
 ⟨some 33,.ext (.t 27) 1,none⟩,
 ⟨some 11,.alloc 100 [.s [],.s [],.s []],none⟩,
 ⟨none,.store 3 (.t 11) (.t 32),none⟩,
 ⟨some 12,.mv (.t 33),none⟩])
 (.seq (.seq (.reg [⟨some 34,.mv (.t 12),none⟩,
 ⟨some 35,.bin .neq (.t 34) (.c (.i .i64 0)),none⟩])
 (.cond (.t 35)
 (.seq (.reg [⟨some 36,.mv (.t 12),none⟩,
 ⟨some 6,.mv (.c .nil),none⟩,
 ⟨some 7,.mv (.t 36),none⟩])
 (.ret))
 (.skip)))
 (.reg [⟨some 37,.mv (.t 8),none⟩,
 ⟨some 38,.loadn 3 (.t 11),none⟩,
 ⟨some 39,.bslice 1 [.s [],.s [],.s []] [(0,(3,.t 38))],none⟩,
 ⟨some 40,.app 100 3 48 (.t 37) (.t 39),none⟩,
 ⟨some 8,.mv (.t 40),none⟩])))))
 (.reg [⟨some 41,.bin .add (.t 23) (.c (.i .i64 1)),none⟩,
 ⟨some 23,.mv (.t 41),none⟩])))))))
 (.seq (.reg [⟨some 42,.mv (.t 8),none⟩,
 ⟨some 6,.mv (.t 42),none⟩,
 ⟨some 7,.mv (.c (.i .i64 0)),none⟩])
 (.ret))))))
theorem is_diddoc_elements__api_Method:FnIs Tryz.prog 43 43 [.tmp 6,.tmp 7] c_diddoc_elements__api_Method:=⟨⟨_,_,Tryz.func43,rfl,rfl,by kernel_rfl,by kernel_rfl⟩⟩
def c_diddoc_decodeMethod:SCode :=
 .seq (.reg [⟨some 2,.box 30 (.t 0),none⟩,
 ⟨some 3,.box 37 (.t 1),none⟩,
 ⟨some 4,.alloc 100 [.s [],.s [],.s []],none⟩,
 ⟨some 5,.mv (.c (.i .i64 0)),none⟩])
 (.seq (.reg [⟨some 13,.loadn 4 (.t 2),none⟩,
 ⟨some 14,.loadn 2 (.t 3),none⟩,
 ⟨some 15,.call 77 [.t 13,.t 14],none⟩,
 ⟨some 12,.mv (.t 15),none⟩,
 ⟨some 16,.ext (.t 12) 0,none⟩,
 ⟨some 17,.ext (.t 12) 1,none⟩,
 ⟨some 6,.mv (.t 16),none⟩,
 ⟨some 7,.mv (.t 17),none⟩])
 (.seq (.seq (.reg [⟨some 18,.mv (.t 7),none⟩,
 ⟨some 19,.bin .neq (.t 18) (.c (.i .i64 0)),none⟩])
 (.cond (.t 19)
 (.seq (.reg [⟨some 20,.build [.s [],.s [],.s []] [],none⟩,
 ⟨some 21,.mv (.t 7),none⟩,
 ⟨none,.store 3 (.t 4) (.t 20),none⟩,
 ⟨some 5,.mv (.t 21),none⟩])
 (.ret))
 (.skip)))
 (.seq (.reg [⟨some 23,.loadn 4 (.t 2),none⟩,
 ⟨some 24,.call 74 [.t 23,.c (.s [116,121,112,101])],none⟩,
 ⟨some 22,.mv (.t 24),none⟩,
 ⟨some 25,.ext (.t 22) 0,none⟩,
 ⟨some 26,.ext (.t 22) 1,none⟩,
 ⟨some 8,.mv (.t 25),none⟩,
 ⟨some 9,.mv (.t 26),none⟩])
 (.seq (.reg [⟨some 28,.loadn 4 (.t 2),none⟩,
 ⟨some 29,.call 74 [.t 28,.c (.s [99,111,110,116,114,111,108,108,101,114])],none⟩,
 ⟨some 27,.mv (.t 29),none⟩,
 ⟨some 30,.ext (.t 27) 0,none⟩,
 ⟨some 31,.ext (.t 27) 1,none⟩,
 ⟨some 10,.mv (.t 30),none⟩,
 ⟨some 11,.mv (.t 31),none⟩])
 (.seq (.seq (.reg [⟨some 32,.mv (.t 9),none⟩,
 ⟨some 33,.not (.t 32),none⟩,
 ⟨some 34,.mv (.t 33),none⟩,
 ⟨some 35,.mv (.t 11),some (34,false)⟩,
 ⟨some 36,.not (.t 35),some (34,false)⟩,
 ⟨some 37,.pick (.t 34) (.c (.b true)) (.t 36),none⟩])
 (.cond (.t 37)
 (.seq (.reg [⟨some 38,.build [.s [],.s [],.s []] [],none⟩,
 ⟨none,.store 3 (.t 4) (.t 38),none⟩,
 ⟨some 5,.mv (.c (.i .i64 160)),none⟩])
 (.ret))
 (.skip)))
 (.seq (.reg [⟨some 39,.mv (.t 6),none⟩,
 ⟨some 40,.mv (.t 8),none⟩,
 ⟨some 41,.mv (.t 10),none⟩,
 ⟨some 42,.build [.s [],.s [],.s []] [(0,(1,.t 39)),(1,(1,.t 40)),(2,(1,.t 41))],none⟩,
 ⟨none,.store 3 (.t 4) (.t 42),none⟩,
 ⟨some 5,.mv (.c (.i .i64 0)),none⟩])
 (.ret)))))))
theorem is_diddoc_decodeMethod:FnIs Tryz.prog 44 43 [.celln 4 3,.tmp 5] c_diddoc_decodeMethod:=⟨⟨_,_,Tryz.func44,rfl,rfl,by kernel_rfl,by kernel_rfl⟩⟩
def c_diddoc_elements__api_Service:SCode :=
 .seq (.reg [⟨some 3,.box 30 (.t 0),none⟩,
 ⟨some 4,.box 37 (.t 1),none⟩,
 ⟨some 6,.mv (.c .nil),none⟩,
 ⟨some 7,.mv (.c (.i .i64 0)),none⟩])
 (.seq (.seq (.reg [⟨some 13,.fad 0 (.t 3),none⟩,
 ⟨some 14,.load1 (.t 13),none⟩,
 ⟨some 15,.bin .neq (.t 14) (.c (.i .i64 6)),none⟩])
 (.cond (.t 15)
 (.seq (.reg [⟨some 6,.mv (.c .nil),none⟩,
 ⟨some 7,.mv (.c (.i .i64 160)),none⟩])
 (.ret))
 (.skip)))
 (.seq (.seq (.reg [⟨some 16,.fad 3 (.t 3),none⟩,
 ⟨some 17,.load1 (.t 16),none⟩,
 ⟨some 18,.lenr (.t 17),none⟩,
 ⟨some 19,.bin .gtr (.t 18) (.c (.i .i64 64)),none⟩])
 (.cond (.t 19)
 (.seq (.reg [⟨some 6,.mv (.c .nil),none⟩,
 ⟨some 7,.mv (.c (.i .i64 161)),none⟩])
 (.ret))
 (.skip)))
 (.seq (.reg [⟨some 8,.mv (.c .nil),none⟩])
 (.seq (.seq (.reg [⟨some 20,.fad 3 (.t 3),none⟩,
 ⟨some 21,.load1 (.t 20),none⟩,
 ⟨some 22,.lenr (.t 21),none⟩,
 ⟨some 23,.mv (.c (.i .i64 0)),none⟩])
 (.blk 0
 (.loop
 (.seq (.reg [⟨some 24,.bin .lss (.t 23) (.t 22),none⟩])
 (.seq (.cond (.t 24)
 (.skip)
 (.exit 0))
 (.seq (.blk 1
 (.seq (.reg [⟨some 25,.iad 4 (.t 21) (.t 23),none⟩,
 ⟨some 26,.loadn 4 (.t 25),none⟩,
 ⟨some 10,.alloc 30 [.i .i64 0,.s [],.nil,.nil],none⟩,
 ⟨none,.store 4 (.t 10) (.t 26),none⟩])
 (.seq (.reg [⟨some 28,.mv (.t 2),none⟩,
 ⟨some 29,.loadn 4 (.t 10),none⟩,
 ⟨some 30,.loadn 2 (.t 4),none⟩,
 ⟨some 31,.callv (.t 28) [.t 29,.t 30],none⟩,
 ⟨some 27,.mv (.t 31),none⟩,
 ⟨some 32,.ext (.t 27) 0,none⟩,
 ⟨some 33,.ext (.t 27) 1,none⟩,
 ⟨some 11,.alloc 69 [.s [],.nil,.nil],none⟩,
 ⟨none,.store 3 (.t 11) (.t 32),none⟩,
 ⟨some 12,.mv (.t 33),none⟩])
 (.seq (.seq (.reg [⟨some 34,.mv (.t 12),none⟩,
 ⟨some 35,.bin .neq (.t 34) (.c (.i .i64 0)),none⟩])
 (.cond (.t 35)
 (.seq (.reg [⟨some 36,.mv (.t 12),none⟩,
 ⟨some 6,.mv (.c .nil),none⟩,
 ⟨some 7,.mv (.t 36),none⟩])
 (.ret))
 (.skip)))
 (.reg [⟨some 37,.mv (.t 8),none⟩,
 ⟨some 38,.loadn 3 (.t 11),none⟩,
 ⟨some 39,.bslice 1 [.s [],.nil,.nil] [(0,(3,.t 38))],none⟩,
 ⟨some 40,.app 69 3 64 (.t 37) (.t 39),none⟩,
 ⟨some 8,.mv (.t 40),none⟩])))))
 (.reg [⟨some 41,.bin .add (.t 23) (.c (.i .i64 1)),none⟩,
 ⟨some 23,.mv (.t 41),none⟩])))))))
 (.seq (.reg [⟨some 42,.mv (.t 8),none⟩,
 ⟨some 6,.mv (.t 42),none⟩,
 ⟨some 7,.mv (.c (.i .i64 0)),none⟩])
 (.ret))))))
theorem is_diddoc_elements__api_Service:FnIs Tryz.prog 45 43 [.tmp 6,.tmp 7] c_diddoc_elements__api_Service:=⟨⟨_,_,Tryz.func45,rfl,rfl,by kernel_rfl,by kernel_rfl⟩⟩
def c_diddoc_decodeService:SCode :=
 .seq (.reg [⟨some 2,.box 30 (.t 0),none⟩,
 ⟨some 3,.box 37 (.t 1),none⟩,
 ⟨some 4,.alloc 69 [.s [],.nil,.nil],none⟩,
 ⟨some 5,.mv (.c (.i .i64 0)),none⟩])
 (.seq (.reg [⟨some 14,.loadn 4 (.t 2),none⟩,
 ⟨some 15,.call 39 [.t 14],none⟩,
 ⟨some 6,.mv (.t 15),none⟩])
 (.seq (.reg [⟨some 17,.loadn 4 (.t 2),none⟩,
 ⟨some 18,.loadn 2 (.t 3),none⟩,
 ⟨some 19,.call 77 [.t 17,.t 18],none⟩,
 ⟨some 16,.mv (.t 19),none⟩,
 ⟨some 20,.ext (.t 16) 0,none⟩,
 ⟨some 21,.ext (.t 16) 1,none⟩,
 ⟨some 7,.mv (.t 20),none⟩,
 ⟨some 8,.mv (.t 21),none⟩])
 (.seq (.seq (.reg [⟨some 22,.mv (.t 8),none⟩,
 ⟨some 23,.bin .neq (.t 22) (.c (.i .i64 0)),none⟩])
 (.cond (.t 23)
 (.seq (.reg [⟨some 24,.build [.s [],.nil,.nil] [],none⟩,
 ⟨some 25,.mv (.t 8),none⟩,
 ⟨none,.store 3 (.t 4) (.t 24),none⟩,
 ⟨some 5,.mv (.t 25),none⟩])
 (.ret))
 (.skip)))
 (.seq (.reg [⟨some 26,.mv (.t 7),none⟩,
 ⟨some 27,.build [.s [],.nil,.nil] [(0,(1,.t 26))],none⟩,
 ⟨some 9,.alloc 69 [.s [],.nil,.nil],none⟩,
 ⟨none,.store 3 (.t 9) (.t 27),none⟩])
 (.seq (.reg [⟨some 29,.mv (.t 6),none⟩,
 ⟨some 30,.callv (.t 29) [.c (.s [116,121,112,101])],none⟩,
 ⟨some 28,.mv (.t 30),none⟩,
 ⟨some 31,.ext (.t 28) 0,none⟩,
 ⟨some 32,.ext (.t 28) 1,none⟩,
 ⟨some 10,.alloc 30 [.i .i64 0,.s [],.nil,.nil],none⟩,
 ⟨none,.store 4 (.t 10) (.t 31),none⟩,
 ⟨some 11,.mv (.t 32),none⟩])
 (.seq (.seq (.reg [⟨some 34,.loadn 4 (.t 10),none⟩,
 ⟨some 35,.call 42 [.t 34],none⟩,
 ⟨some 33,.mv (.t 35),none⟩,
 ⟨some 36,.ext (.t 33) 0,none⟩,
 ⟨some 37,.ext (.t 33) 1,none⟩,
 ⟨some 38,.fad 1 (.t 9),none⟩,
 ⟨none,.store 1 (.t 38) (.t 36),none⟩,
 ⟨some 8,.mv (.t 37),none⟩])
 (.seq (.reg [⟨some 39,.mv (.t 8),none⟩,
 ⟨some 40,.bin .neq (.t 39) (.c (.i .i64 0)),none⟩])
 (.cond (.t 40)
 (.seq (.reg [⟨some 41,.build [.s [],.nil,.nil] [],none⟩,
 ⟨some 42,.mv (.t 8),none⟩,
 ⟨none,.store 3 (.t 4) (.t 41),none⟩,
 ⟨some 5,.mv (.t 42),none⟩])
 (.ret))
 (.skip))))
 (.seq (.reg [⟨some 44,.mv (.t 6),none⟩,
 ⟨some 45,.callv (.t 44) [.c (.s [115,101,114,118,105,99,101,69,110,100,112,111,105,110,116])],none⟩,
 ⟨some 43,.mv (.t 45),none⟩,
 ⟨some 46,.ext (.t 43) 0,none⟩,
 ⟨some 47,.ext (.t 43) 1,none⟩,
 ⟨some 12,.alloc 30 [.i .i64 0,.s [],.nil,.nil],none⟩,
 ⟨none,.store 4 (.t 12) (.t 46),none⟩,
 ⟨some 13,.mv (.t 47),none⟩])
 (.seq (.seq (.reg [⟨some 48,.fad 0 (.t 12),none⟩,
 ⟨some 49,.load1 (.t 48),none⟩,
 ⟨some 50,.bin .eql (.t 49) (.c (.i .i64 7)),none⟩])
 (.cond (.t 50)
 (.seq (.reg [⟨some 51,.loadn 3 (.t 9),none⟩,
 ⟨none,.store 3 (.t 4) (.t 51),none⟩,
 ⟨some 5,.mv (.c (.i .i64 0)),none⟩])
 (.ret))
 (.skip)))
 (.seq (.seq (.reg [⟨some 53,.loadn 4 (.t 12),none⟩,
 ⟨some 54,.call 42 [.t 53],none⟩,
 ⟨some 52,.mv (.t 54),none⟩,
 ⟨some 55,.ext (.t 52) 0,none⟩,
 ⟨some 56,.ext (.t 52) 1,none⟩,
 ⟨some 57,.fad 2 (.t 9),none⟩,
 ⟨none,.store 1 (.t 57) (.t 55),none⟩,
 ⟨some 8,.mv (.t 56),none⟩])
 (.seq (.reg [⟨some 58,.mv (.t 8),none⟩,
 ⟨some 59,.bin .neq (.t 58) (.c (.i .i64 0)),none⟩])
 (.cond (.t 59)
 (.seq (.reg [⟨some 60,.build [.s [],.nil,.nil] [],none⟩,
 ⟨some 61,.mv (.t 8),none⟩,
 ⟨none,.store 3 (.t 4) (.t 60),none⟩,
 ⟨some 5,.mv (.t 61),none⟩])
 (.ret))
 (.skip))))
 (.seq (.reg [⟨some 62,.loadn 3 (.t 9),none⟩,
 ⟨none,.store 3 (.t 4) (.t 62),none⟩,
 ⟨some 5,.mv (.c (.i .i64 0)),none⟩])
 (.ret)))))))))))
theorem is_diddoc_decodeService:FnIs Tryz.prog 46 63 [.celln 4 3,.tmp 5] c_diddoc_decodeService:=⟨⟨_,_,Tryz.func46,rfl,rfl,by kernel_rfl,by kernel_rfl⟩⟩
def c_deref_firstParam_1:SCode :=
 .seq (.reg [⟨some 3,.mv (.c (.s [])),none⟩,
 ⟨some 4,.mv (.c (.b false)),none⟩])
 (.seq (.seq (.reg [⟨some 7,.load1 (.t 1),none⟩,
 ⟨some 8,.lenr (.t 7),none⟩,
 ⟨some 9,.mv (.c (.i .i64 0)),none⟩])
 (.blk 0
 (.loop
 (.seq (.reg [⟨some 10,.bin .lss (.t 9) (.t 8),none⟩])
 (.seq (.cond (.t 10)
 (.skip)
 (.exit 0))
 (.seq (.blk 1
 (.seq (.reg [⟨some 11,.iad 2 (.t 7) (.t 9),none⟩,
 ⟨some 12,.loadn 2 (.t 11),none⟩,
 ⟨some 6,.alloc 41 [.s [],.s []],none⟩,
 ⟨none,.store 2 (.t 6) (.t 12),none⟩])
 (.seq (.reg [⟨some 13,.fad 0 (.t 6),none⟩,
 ⟨some 14,.load1 (.t 13),none⟩,
 ⟨some 15,.mv (.t 0),none⟩,
 ⟨some 16,.bin .eql (.t 14) (.t 15),none⟩])
 (.cond (.t 16)
 (.seq (.reg [⟨some 17,.fad 1 (.t 6),none⟩,
 ⟨some 18,.load1 (.t 17),none⟩,
 ⟨some 3,.mv (.t 18),none⟩,
 ⟨some 4,.mv (.c (.b true)),none⟩])
 (.ret))
 (.skip)))))
 (.reg [⟨some 19,.bin .add (.t 9) (.c (.i .i64 1)),none⟩,
 ⟨some 9,.mv (.t 19),none⟩])))))))
 (.seq (.reg [⟨some 3,.mv (.c (.s [])),none⟩,
 ⟨some 4,.mv (.c (.b false)),none⟩])
 (.ret)))
theorem is_deref_firstParam_1:FnIs Tryz.prog 47 20 [.tmp 3,.tmp 4] c_deref_firstParam_1:=⟨⟨_,_,Tryz.func47,rfl,rfl,by kernel_rfl,by kernel_rfl⟩⟩
def c_uri_Split:SCode :=
 .seq (.reg [⟨some 2,.alloc 106 [.s [],.s [],.s [],.s [],.s [],.b false,.b false,.b false,.b false],none⟩,
 ⟨some 3,.mv (.c (.i .i64 0)),none⟩])
 (.seq (.seq (.reg [⟨some 10,.mv (.t 0),none⟩,
 ⟨some 11,.lens (.t 10),none⟩,
 ⟨some 12,.bin .gtr (.t 11) (.c (.i .i64 16384)),none⟩])
 (.cond (.t 12)
 (.seq (.reg [⟨some 13,.build [.s [],.s [],.s [],.s [],.s [],.b false,.b false,.b false,.b false] [],none⟩,
 ⟨none,.store 9 (.t 2) (.t 13),none⟩,
 ⟨some 3,.mv (.c (.i .i64 5)),none⟩])
 (.ret))
 (.skip)))
 (.seq (.reg [⟨some 14,.mv (.t 0),none⟩,
 ⟨some 4,.alloc 9 [.s []],none⟩,
 ⟨none,.store 1 (.t 4) (.t 14),none⟩])
 (.seq (.reg [⟨some 15,.mkf 78 [] [.t 4],none⟩,
 ⟨some 5,.mv (.t 15),none⟩])
 (.seq (.reg [⟨some 6,.alloc 106 [.s [],.s [],.s [],.s [],.s [],.b false,.b false,.b false,.b false],none⟩])
 (.seq (.reg [⟨some 17,.mv (.t 5),none⟩,
 ⟨some 18,.callv (.t 17) [.c (.i .u8 35)],none⟩,
 ⟨some 16,.mv (.t 18),none⟩,
 ⟨some 19,.ext (.t 16) 0,none⟩,
 ⟨some 20,.ext (.t 16) 1,none⟩,
 ⟨some 21,.fad 4 (.t 6),none⟩,
 ⟨none,.store 1 (.t 21) (.t 19),none⟩,
 ⟨some 22,.fad 8 (.t 6),none⟩,
 ⟨none,.store 1 (.t 22) (.t 20),none⟩])
 (.seq (.reg [⟨some 24,.mv (.t 5),none⟩,
 ⟨some 25,.callv (.t 24) [.c (.i .u8 63)],none⟩,
 ⟨some 23,.mv (.t 25),none⟩,
 ⟨some 26,.ext (.t 23) 0,none⟩,
 ⟨some 27,.ext (.t 23) 1,none⟩,
 ⟨some 28,.fad 3 (.t 6),none⟩,
 ⟨none,.store 1 (.t 28) (.t 26),none⟩,
 ⟨some 29,.fad 7 (.t 6),none⟩,
 ⟨none,.store 1 (.t 29) (.t 27),none⟩])
 (.seq (.seq (.reg [⟨some 30,.load1 (.t 4),none⟩,
 ⟨some 31,.call 80 [.t 30],none⟩,
 ⟨some 7,.mv (.t 31),none⟩])
 (.seq (.reg [⟨some 32,.mv (.t 7),none⟩,
 ⟨some 33,.bin .geq (.t 32) (.c (.i .i64 0)),none⟩])
 (.cond (.t 33)
 (.seq (.seq (.reg [⟨some 34,.load1 (.t 4),none⟩,
 ⟨some 35,.mv (.t 7),none⟩,
 ⟨some 36,.slcs (.t 34) none (some (.t 35)),none⟩,
 ⟨some 37,.call 81 [.t 36],none⟩,
 ⟨some 38,.not (.t 37),none⟩])
 (.cond (.t 38)
 (.seq (.reg [⟨some 39,.build [.s [],.s [],.s [],.s [],.s [],.b false,.b false,.b false,.b false] [],none⟩,
 ⟨none,.store 9 (.t 2) (.t 39),none⟩,
 ⟨some 3,.mv (.c (.i .i64 6)),none⟩])
 (.ret))
 (.skip)))
 (.drw [⟨some 40,.load1 (.t 4),none⟩,
 ⟨some 41,.mv (.t 7),none⟩,
 ⟨some 42,.slcs (.t 40) none (some (.t 41)),none⟩,
 ⟨some 43,.load1 (.t 4),none⟩,
 ⟨some 44,.mv (.t 7),none⟩,
 ⟨some 45,.bin .add (.t 44) (.c (.i .i64 1)),none⟩,
 ⟨some 46,.slcs (.t 43) (some (.t 45)) none,none⟩,
 ⟨some 47,.fad 0 (.t 6),none⟩,
 ⟨none,.store 1 (.t 47) (.t 42),none⟩,
 ⟨some 48,.fad 5 (.t 6),none⟩,
 ⟨none,.store 1 (.t 48) (.c (.b true)),none⟩,
 ⟨none,.store 1 (.t 4) (.t 46),none⟩] 12 [(4,(47,none)),(4,(48,none))]))
 (.skip))))
 (.seq (.seq (.reg [⟨some 50,.load1 (.t 4),none⟩,
 ⟨some 51,.call 82 [.t 50,.c (.s [47,47])],none⟩,
 ⟨some 49,.mv (.t 51),none⟩,
 ⟨some 52,.ext (.t 49) 0,none⟩,
 ⟨some 53,.ext (.t 49) 1,none⟩,
 ⟨some 8,.mv (.t 52),none⟩,
 ⟨some 9,.mv (.t 53),none⟩])
 (.seq (.reg [⟨some 54,.mv (.t 9),none⟩])
 (.cond (.t 54)
 (.seq (.reg [⟨some 55,.mv (.t 8),none⟩,
 ⟨some 56,.call 83 [.t 55],none⟩,
 ⟨some 57,.fad 1 (.t 6),none⟩,
 ⟨none,.store 1 (.t 57) (.t 56),none⟩,
 ⟨some 58,.fad 6 (.t 6),none⟩,
 ⟨none,.store 1 (.t 58) (.c (.b true)),none⟩])
 (.reg [⟨some 59,.mv (.t 8),none⟩,
 ⟨some 60,.fad 1 (.t 6),none⟩,
 ⟨some 61,.load1 (.t 60),none⟩,
 ⟨some 62,.lens (.t 61),none⟩,
 ⟨some 63,.slcs (.t 59) (some (.t 62)) none,none⟩,
 ⟨none,.store 1 (.t 4) (.t 63),none⟩]))
 (.skip))))
 (.seq (.reg [⟨some 64,.load1 (.t 4),none⟩,
 ⟨some 65,.fad 2 (.t 6),none⟩,
 ⟨none,.store 1 (.t 65) (.t 64),none⟩])
 (.seq (.reg [⟨some 66,.loadn 9 (.t 6),none⟩,
 ⟨none,.store 9 (.t 2) (.t 66),none⟩,
 ⟨some 3,.mv (.c (.i .i64 0)),none⟩])
 (.ret)))))))))))
theorem is_uri_Split:FnIs Tryz.prog 48 67 [.celln 2 9,.tmp 3] c_uri_Split:=⟨⟨_,_,Tryz.func48,rfl,rfl,by kernel_rfl,by kernel_rfl⟩⟩
def c_weburl_parseOrigin:SCode :=
 .seq (.reg [⟨some 1,.box 106 (.t 0),none⟩,
 ⟨some 2,.alloc 110 [.s [],.i .i64 0],none⟩,
 ⟨some 3,.mv (.c (.i .i64 0)),none⟩])
 (.seq (.blk 0
 (.seq (.reg [⟨some 5,.fad 5 (.t 1),none⟩,
 ⟨some 6,.load1 (.t 5),none⟩,
 ⟨some 7,.not (.t 6),none⟩,
 ⟨some 8,.mv (.t 7),none⟩,
 ⟨some 9,.fad 0 (.t 1),some (8,false)⟩,
 ⟨some 10,.load1 (.t 9),some (8,false)⟩,
 ⟨some 11,.call 53 [.t 10,.c (.s [104,116,116,112,115])],some (8,false)⟩,
 ⟨some 12,.not (.t 11),some (8,false)⟩,
 ⟨some 13,.pick (.t 8) (.c (.b true)) (.t 12),none⟩,
 ⟨some 4,.mv (.t 13),none⟩])
 (.cond (.t 4)
 (.seq (.reg [⟨some 14,.build [.s [],.i .i64 0] [],none⟩,
 ⟨none,.store 2 (.t 2) (.t 14),none⟩,
 ⟨some 3,.mv (.c (.i .i64 60)),none⟩])
 (.ret))
 (.seq (.reg [⟨some 16,.fad 6 (.t 1),none⟩,
 ⟨some 17,.load1 (.t 16),none⟩,
 ⟨some 18,.not (.t 17),none⟩,
 ⟨some 15,.mv (.t 18),none⟩])
 (.cond (.t 15)
 (.seq (.reg [⟨some 19,.build [.s [],.i .i64 0] [],none⟩,
 ⟨none,.store 2 (.t 2) (.t 19),none⟩,
 ⟨some 3,.mv (.c (.i .i64 71)),none⟩])
 (.ret))
 (.seq (.reg [⟨some 21,.fad 1 (.t 1),none⟩,
 ⟨some 22,.load1 (.t 21),none⟩,
 ⟨some 23,.call 84 [.t 22,.c (.s [64])],none⟩,
 ⟨some 20,.mv (.t 23),none⟩])
 (.cond (.t 20)
 (.seq (.reg [⟨some 24,.build [.s [],.i .i64 0] [],none⟩,
 ⟨none,.store 2 (.t 2) (.t 24),none⟩,
 ⟨some 3,.mv (.c (.i .i64 70)),none⟩])
 (.ret))
 (.skip))))))))
 (.seq (.reg [⟨some 25,.fad 1 (.t 1),none⟩,
 ⟨some 26,.load1 (.t 25),none⟩,
 ⟨some 27,.call 85 [.t 26],none⟩,
 ⟨some 28,.ext (.t 27) 0,none⟩,
 ⟨some 29,.ext (.t 27) 1,none⟩,
 ⟨none,.store 2 (.t 2) (.t 28),none⟩,
 ⟨some 3,.mv (.t 29),none⟩])
 (.ret)))
theorem is_weburl_parseOrigin:FnIs Tryz.prog 49 30 [.celln 2 2,.tmp 3] c_weburl_parseOrigin:=⟨⟨_,_,Tryz.func49,rfl,rfl,by kernel_rfl,by kernel_rfl⟩⟩
def c_weburl_parseRest:SCode :=
 .seq (.reg [⟨some 1,.box 106 (.t 0),none⟩,
 ⟨some 2,.alloc 74 [.s [],.i .i64 0,.s [],.s [],.s [],.b false,.b false],none⟩,
 ⟨some 3,.mv (.c (.i .i64 0)),none⟩])
 (.seq (.reg [⟨some 9,.fad 2 (.t 1),none⟩,
 ⟨some 10,.load1 (.t 9),none⟩,
 ⟨some 11,.call 86 [.t 10,.c (.s [33,36,38,39,40,41,42,43,44,59,61,58,64,47])],none⟩,
 ⟨some 8,.mv (.t 11),none⟩,
 ⟨some 12,.ext (.t 8) 0,none⟩,
 ⟨some 13,.ext (.t 8) 1,none⟩,
 ⟨some 4,.mv (.t 12),none⟩,
 ⟨some 5,.mv (.t 13),none⟩])
 (.seq (.seq (.reg [⟨some 14,.mv (.t 5),none⟩,
 ⟨some 15,.bin .neq (.t 14) (.c (.i .i64 0)),none⟩])
 (.cond (.t 15)
 (.seq (.reg [⟨some 16,.build [.s [],.i .i64 0,.s [],.s [],.s [],.b false,.b false] [],none⟩,
 ⟨some 17,.mv (.t 5),none⟩,
 ⟨none,.store 7 (.t 2) (.t 16),none⟩,
 ⟨some 3,.mv (.t 17),none⟩])
 (.ret))
 (.skip)))
 (.seq (.seq (.reg [⟨some 18,.mv (.t 4),none⟩,
 ⟨some 19,.call 87 [.t 18],none⟩,
 ⟨some 4,.mv (.t 19),none⟩])
 (.seq (.reg [⟨some 20,.mv (.t 4),none⟩,
 ⟨some 21,.bin .eql (.t 20) (.c (.s [])),none⟩])
 (.cond (.t 21)
 (.reg [⟨some 4,.mv (.c (.s [47])),none⟩])
 (.skip))))
 (.seq (.reg [⟨some 23,.fad 3 (.t 1),none⟩,
 ⟨some 24,.load1 (.t 23),none⟩,
 ⟨some 25,.call 86 [.t 24,.c (.s [33,36,38,39,40,41,42,43,44,59,61,58,64,47,63])],none⟩,
 ⟨some 22,.mv (.t 25),none⟩,
 ⟨some 26,.ext (.t 22) 0,none⟩,
 ⟨some 27,.ext (.t 22) 1,none⟩,
 ⟨some 6,.mv (.t 26),none⟩,
 ⟨some 5,.mv (.t 27),none⟩])
 (.seq (.seq (.reg [⟨some 28,.mv (.t 5),none⟩,
 ⟨some 29,.bin .neq (.t 28) (.c (.i .i64 0)),none⟩])
 (.cond (.t 29)
 (.seq (.reg [⟨some 30,.build [.s [],.i .i64 0,.s [],.s [],.s [],.b false,.b false] [],none⟩,
 ⟨some 31,.mv (.t 5),none⟩,
 ⟨none,.store 7 (.t 2) (.t 30),none⟩,
 ⟨some 3,.mv (.t 31),none⟩])
 (.ret))
 (.skip)))
 (.seq (.reg [⟨some 33,.fad 4 (.t 1),none⟩,
 ⟨some 34,.load1 (.t 33),none⟩,
 ⟨some 35,.call 86 [.t 34,.c (.s [33,36,38,39,40,41,42,43,44,59,61,58,64,47,63])],none⟩,
 ⟨some 32,.mv (.t 35),none⟩,
 ⟨some 36,.ext (.t 32) 0,none⟩,
 ⟨some 37,.ext (.t 32) 1,none⟩,
 ⟨some 7,.mv (.t 36),none⟩,
 ⟨some 5,.mv (.t 37),none⟩])
 (.seq (.seq (.reg [⟨some 38,.mv (.t 5),none⟩,
 ⟨some 39,.bin .neq (.t 38) (.c (.i .i64 0)),none⟩])
 (.cond (.t 39)
 (.seq (.reg [⟨some 40,.build [.s [],.i .i64 0,.s [],.s [],.s [],.b false,.b false] [],none⟩,
 ⟨some 41,.mv (.t 5),none⟩,
 ⟨none,.store 7 (.t 2) (.t 40),none⟩,
 ⟨some 3,.mv (.t 41),none⟩])
 (.ret))
 (.skip)))
 (.seq (.reg [⟨some 42,.mv (.t 4),none⟩,
 ⟨some 43,.mv (.t 6),none⟩,
 ⟨some 44,.fad 7 (.t 1),none⟩,
 ⟨some 45,.load1 (.t 44),none⟩,
 ⟨some 46,.mv (.t 7),none⟩,
 ⟨some 47,.fad 8 (.t 1),none⟩,
 ⟨some 48,.load1 (.t 47),none⟩,
 ⟨some 49,.build [.s [],.i .i64 0,.s [],.s [],.s [],.b false,.b false] [(2,(1,.t 42)),(3,(1,.t 43)),(5,(1,.t 45)),(4,(1,.t 46)),(6,(1,.t 48))],none⟩,
 ⟨none,.store 7 (.t 2) (.t 49),none⟩,
 ⟨some 3,.mv (.c (.i .i64 0)),none⟩])
 (.ret)))))))))
theorem is_weburl_parseRest:FnIs Tryz.prog 50 50 [.celln 2 7,.tmp 3] c_weburl_parseRest:=⟨⟨_,_,Tryz.func50,rfl,rfl,by kernel_rfl,by kernel_rfl⟩⟩
def c_weburl_Valid:SCode :=
 .seq (.reg [⟨some 1,.box 74 (.t 0),none⟩,
 ⟨some 2,.mv (.c (.b false)),none⟩])
 (.seq (.reg [⟨some 6,.loadn 7 (.t 1),none⟩,
 ⟨some 7,.call 26 [.t 6],none⟩,
 ⟨some 8,.call 24 [.t 7],none⟩,
 ⟨some 5,.mv (.t 8),none⟩,
 ⟨some 9,.ext (.t 5) 0,none⟩,
 ⟨some 10,.ext (.t 5) 1,none⟩,
 ⟨some 3,.alloc 74 [.s [],.i .i64 0,.s [],.s [],.s [],.b false,.b false],none⟩,
 ⟨none,.store 7 (.t 3) (.t 9),none⟩,
 ⟨some 4,.mv (.t 10),none⟩])
 (.seq (.reg [⟨some 11,.mv (.t 4),none⟩,
 ⟨some 12,.bin .eql (.t 11) (.c (.i .i64 0)),none⟩,
 ⟨some 13,.mv (.t 12),none⟩,
 ⟨some 14,.loadn 7 (.t 3),some (13,true)⟩,
 ⟨some 15,.loadn 7 (.t 1),some (13,true)⟩,
 ⟨some 16,.eqs false (.str [(0,(none,.ts)),(1,(none,.ti)),(2,(none,.ts)),(3,(none,.ts)),(4,(none,.ts)),(5,(none,.tb)),(6,(none,.tb))]) (.t 14) (.t 15),some (13,true)⟩,
 ⟨some 17,.pick (.t 13) (.t 16) (.c (.b false)),none⟩,
 ⟨some 2,.mv (.t 17),none⟩])
 (.ret)))
theorem is_weburl_Valid:FnIs Tryz.prog 51 18 [.tmp 2] c_weburl_Valid:=⟨⟨_,_,Tryz.func51,rfl,rfl,by kernel_rfl,by kernel_rfl⟩⟩
def c_uri_Resolve:SCode :=
 .seq (.reg [⟨some 2,.box 106 (.t 0),none⟩,
 ⟨some 3,.box 106 (.t 1),none⟩,
 ⟨some 4,.alloc 106 [.s [],.s [],.s [],.s [],.s [],.b false,.b false,.b false,.b false],none⟩])
 (.seq (.reg [⟨some 6,.loadn 9 (.t 3),none⟩,
 ⟨some 5,.alloc 106 [.s [],.s [],.s [],.s [],.s [],.b false,.b false,.b false,.b false],none⟩,
 ⟨none,.store 9 (.t 5) (.t 6),none⟩])
 (.seq (.seq (.reg [⟨some 7,.fad 5 (.t 3),none⟩,
 ⟨some 8,.load1 (.t 7),none⟩])
 (.cond (.t 8)
 (.seq (.reg [⟨some 9,.fad 2 (.t 3),none⟩,
 ⟨some 10,.load1 (.t 9),none⟩,
 ⟨some 11,.call 87 [.t 10],none⟩,
 ⟨some 12,.fad 2 (.t 5),none⟩,
 ⟨none,.store 1 (.t 12) (.t 11),none⟩])
 (.seq (.reg [⟨some 13,.loadn 9 (.t 5),none⟩,
 ⟨none,.store 9 (.t 4) (.t 13),none⟩])
 (.ret)))
 (.skip)))
 (.seq (.drw [⟨some 14,.fad 0 (.t 2),none⟩,
 ⟨some 15,.load1 (.t 14),none⟩,
 ⟨some 16,.fad 5 (.t 2),none⟩,
 ⟨some 17,.load1 (.t 16),none⟩,
 ⟨some 18,.fad 0 (.t 5),none⟩,
 ⟨none,.store 1 (.t 18) (.t 15),none⟩,
 ⟨some 19,.fad 5 (.t 5),none⟩,
 ⟨none,.store 1 (.t 19) (.t 17),none⟩] 8 [(16,(18,none))])
 (.seq (.seq (.reg [⟨some 20,.fad 6 (.t 3),none⟩,
 ⟨some 21,.load1 (.t 20),none⟩])
 (.cond (.t 21)
 (.seq (.reg [⟨some 22,.fad 2 (.t 3),none⟩,
 ⟨some 23,.load1 (.t 22),none⟩,
 ⟨some 24,.call 87 [.t 23],none⟩,
 ⟨some 25,.fad 2 (.t 5),none⟩,
 ⟨none,.store 1 (.t 25) (.t 24),none⟩])
 (.seq (.reg [⟨some 26,.loadn 9 (.t 5),none⟩,
 ⟨none,.store 9 (.t 4) (.t 26),none⟩])
 (.ret)))
 (.skip)))
 (.seq (.drw [⟨some 27,.fad 1 (.t 2),none⟩,
 ⟨some 28,.load1 (.t 27),none⟩,
 ⟨some 29,.fad 6 (.t 2),none⟩,
 ⟨some 30,.load1 (.t 29),none⟩,
 ⟨some 31,.fad 1 (.t 5),none⟩,
 ⟨none,.store 1 (.t 31) (.t 28),none⟩,
 ⟨some 32,.fad 6 (.t 5),none⟩,
 ⟨none,.store 1 (.t 32) (.t 30),none⟩] 8 [(29,(31,none))])
 (.seq (.blk 0
 (.seq (.reg [⟨some 40,.fad 2 (.t 3),none⟩,
 ⟨some 41,.load1 (.t 40),none⟩,
 ⟨some 42,.bin .eql (.t 41) (.c (.s [])),none⟩,
 ⟨some 39,.mv (.t 42),none⟩])
 (.cond (.t 39)
 (.seq (.reg [⟨some 43,.fad 2 (.t 2),none⟩,
 ⟨some 44,.load1 (.t 43),none⟩,
 ⟨some 45,.fad 2 (.t 5),none⟩,
 ⟨none,.store 1 (.t 45) (.t 44),none⟩])
 (.seq (.reg [⟨some 46,.fad 7 (.t 3),none⟩,
 ⟨some 47,.load1 (.t 46),none⟩,
 ⟨some 48,.not (.t 47),none⟩])
 (.cond (.t 48)
 (.drw [⟨some 49,.fad 3 (.t 2),none⟩,
 ⟨some 50,.load1 (.t 49),none⟩,
 ⟨some 51,.fad 7 (.t 2),none⟩,
 ⟨some 52,.load1 (.t 51),none⟩,
 ⟨some 53,.fad 3 (.t 5),none⟩,
 ⟨none,.store 1 (.t 53) (.t 50),none⟩,
 ⟨some 54,.fad 7 (.t 5),none⟩,
 ⟨none,.store 1 (.t 54) (.t 52),none⟩] 8 [(51,(53,none))])
 (.skip))))
 (.seq (.reg [⟨some 56,.fad 2 (.t 3),none⟩,
 ⟨some 57,.load1 (.t 56),none⟩,
 ⟨some 58,.idx (.t 57) (.c (.i .i64 0)),none⟩,
 ⟨some 59,.bin .eql (.t 58) (.c (.i .u8 47)),none⟩,
 ⟨some 55,.mv (.t 59),none⟩])
 (.cond (.t 55)
 (.reg [⟨some 60,.fad 2 (.t 3),none⟩,
 ⟨some 61,.load1 (.t 60),none⟩,
 ⟨some 62,.call 87 [.t 61],none⟩,
 ⟨some 63,.fad 2 (.t 5),none⟩,
 ⟨none,.store 1 (.t 63) (.t 62),none⟩])
 (.reg [⟨some 33,.loadn 9 (.t 2),none⟩,
 ⟨some 34,.fad 2 (.t 3),none⟩,
 ⟨some 35,.load1 (.t 34),none⟩,
 ⟨some 36,.call 88 [.t 33,.t 35],none⟩,
 ⟨some 37,.call 87 [.t 36],none⟩,
 ⟨some 38,.fad 2 (.t 5),none⟩,
 ⟨none,.store 1 (.t 38) (.t 37),none⟩]))))))
 (.seq (.reg [⟨some 64,.loadn 9 (.t 5),none⟩,
 ⟨none,.store 9 (.t 4) (.t 64),none⟩])
 (.ret))))))))
theorem is_uri_Resolve:FnIs Tryz.prog 52 65 [.celln 4 9] c_uri_Resolve:=⟨⟨_,_,Tryz.func52,rfl,rfl,by kernel_rfl,by kernel_rfl⟩⟩
def c_ascii_Equal:SCode :=
 .seq (.reg [⟨some 4,.mv (.c (.b false)),none⟩])
 (.seq (.seq (.reg [⟨some 6,.mv (.t 0),none⟩,
 ⟨some 7,.lens (.t 6),none⟩,
 ⟨some 8,.mv (.t 1),none⟩,
 ⟨some 9,.lens (.t 8),none⟩,
 ⟨some 10,.bin .neq (.t 7) (.t 9),none⟩])
 (.cond (.t 10)
 (.seq (.reg [⟨some 4,.mv (.c (.b false)),none⟩])
 (.ret))
 (.skip)))
 (.seq (.seq (.reg [⟨some 11,.mv (.t 0),none⟩,
 ⟨some 12,.lens (.t 11),none⟩,
 ⟨some 13,.mv (.c (.i .i64 0)),none⟩])
 (.blk 0
 (.loop
 (.seq (.reg [⟨some 14,.bin .lss (.t 13) (.t 12),none⟩])
 (.seq (.cond (.t 14)
 (.skip)
 (.exit 0))
 (.seq (.blk 1
 (.seq (.reg [⟨some 15,.mv (.t 13),none⟩,
 ⟨some 5,.mv (.t 15),none⟩])
 (.seq (.drw [⟨some 16,.mv (.t 0),none⟩,
 ⟨some 17,.mv (.t 5),none⟩,
 ⟨some 18,.idx (.t 16) (.t 17),none⟩,
 ⟨some 19,.call 89 [.t 18],none⟩,
 ⟨some 20,.mv (.t 1),none⟩,
 ⟨some 21,.mv (.t 5),none⟩,
 ⟨some 22,.idx (.t 20) (.t 21),none⟩,
 ⟨some 23,.call 89 [.t 22],none⟩,
 ⟨some 24,.bin .neq (.t 19) (.t 23),none⟩] 9 [])
 (.cond (.t 24)
 (.seq (.reg [⟨some 4,.mv (.c (.b false)),none⟩])
 (.ret))
 (.skip)))))
 (.reg [⟨some 25,.bin .add (.t 13) (.c (.i .i64 1)),none⟩,
 ⟨some 13,.mv (.t 25),none⟩])))))))
 (.seq (.reg [⟨some 4,.mv (.c (.b true)),none⟩])
 (.ret))))
theorem is_ascii_Equal:FnIs Tryz.prog 53 26 [.tmp 4] c_ascii_Equal:=⟨⟨_,_,Tryz.func53,rfl,rfl,by kernel_rfl,by kernel_rfl⟩⟩
def c_uri_Join:SCode :=
 .seq (.reg [⟨some 1,.box 106 (.t 0),none⟩,
 ⟨some 2,.mv (.c (.s [])),none⟩])
 (.seq (.drw [⟨some 3,.fad 5 (.t 1),none⟩,
 ⟨some 4,.load1 (.t 3),none⟩,
 ⟨some 5,.fad 0 (.t 1),none⟩,
 ⟨some 6,.load1 (.t 5),none⟩,
 ⟨some 7,.bslice 2 [.s [],.s []] [(0,(1,.t 6)),(1,(1,.c (.s [58])))],none⟩,
 ⟨some 8,.call 91 [.t 4,.t 7],none⟩,
 ⟨some 9,.fad 6 (.t 1),none⟩,
 ⟨some 10,.load1 (.t 9),none⟩,
 ⟨some 11,.fad 1 (.t 1),none⟩,
 ⟨some 12,.load1 (.t 11),none⟩,
 ⟨some 13,.bslice 2 [.s [],.s []] [(0,(1,.c (.s [47,47]))),(1,(1,.t 12))],none⟩,
 ⟨some 14,.call 91 [.t 10,.t 13],none⟩,
 ⟨some 15,.fad 2 (.t 1),none⟩,
 ⟨some 16,.load1 (.t 15),none⟩,
 ⟨some 17,.fad 7 (.t 1),none⟩,
 ⟨some 18,.load1 (.t 17),none⟩,
 ⟨some 19,.fad 3 (.t 1),none⟩,
 ⟨some 20,.load1 (.t 19),none⟩,
 ⟨some 21,.bslice 2 [.s [],.s []] [(0,(1,.c (.s [63]))),(1,(1,.t 20))],none⟩,
 ⟨some 22,.call 91 [.t 18,.t 21],none⟩,
 ⟨some 23,.fad 8 (.t 1),none⟩,
 ⟨some 24,.load1 (.t 23),none⟩,
 ⟨some 25,.fad 4 (.t 1),none⟩,
 ⟨some 26,.load1 (.t 25),none⟩,
 ⟨some 27,.bslice 2 [.s [],.s []] [(0,(1,.c (.s [35]))),(1,(1,.t 26))],none⟩,
 ⟨some 28,.call 91 [.t 24,.t 27],none⟩,
 ⟨some 29,.bslice 5 [.s [],.s [],.s [],.s [],.s []] [(0,(1,.t 8)),(1,(1,.t 14)),(2,(1,.t 16)),(3,(1,.t 22)),(4,(1,.t 28))],none⟩,
 ⟨some 30,.call 90 [.t 29],none⟩,
 ⟨some 2,.mv (.t 30),none⟩] 29 [])
 (.ret))
theorem is_uri_Join:FnIs Tryz.prog 54 31 [.tmp 2] c_uri_Join:=⟨⟨_,_,Tryz.func54,rfl,rfl,by kernel_rfl,by kernel_rfl⟩⟩
def c_host_Format:SCode :=
 .seq (.reg [⟨some 1,.box 110 (.t 0),none⟩,
 ⟨some 2,.mv (.c (.s [])),none⟩])
 (.seq (.seq (.reg [⟨some 3,.fad 1 (.t 1),none⟩,
 ⟨some 4,.load1 (.t 3),none⟩,
 ⟨some 5,.bin .eql (.t 4) (.c (.i .i64 0)),none⟩])
 (.cond (.t 5)
 (.seq (.reg [⟨some 6,.fad 0 (.t 1),none⟩,
 ⟨some 7,.load1 (.t 6),none⟩,
 ⟨some 2,.mv (.t 7),none⟩])
 (.ret))
 (.skip)))
 (.seq (.drw [⟨some 8,.fad 0 (.t 1),none⟩,
 ⟨some 9,.load1 (.t 8),none⟩,
 ⟨some 10,.bin .add (.t 9) (.c (.s [58])),none⟩,
 ⟨some 11,.fad 1 (.t 1),none⟩,
 ⟨some 12,.load1 (.t 11),none⟩,
 ⟨some 13,.call 92 [.t 12],none⟩,
 ⟨some 14,.bin .add (.t 10) (.t 13),none⟩,
 ⟨some 2,.mv (.t 14),none⟩] 8 [])
 (.ret)))
theorem is_host_Format:FnIs Tryz.prog 55 15 [.tmp 2] c_host_Format:=⟨⟨_,_,Tryz.func55,rfl,rfl,by kernel_rfl,by kernel_rfl⟩⟩
def c_weburl_Origin:SCode :=
 .seq (.reg [⟨some 1,.box 74 (.t 0),none⟩,
 ⟨some 2,.alloc 110 [.s [],.i .i64 0],none⟩])
 (.seq (.reg [⟨some 3,.fad 0 (.t 1),none⟩,
 ⟨some 4,.load1 (.t 3),none⟩,
 ⟨some 5,.fad 1 (.t 1),none⟩,
 ⟨some 6,.load1 (.t 5),none⟩,
 ⟨some 7,.build [.s [],.i .i64 0] [(0,(1,.t 4)),(1,(1,.t 6))],none⟩,
 ⟨none,.store 2 (.t 2) (.t 7),none⟩])
 (.ret))
theorem is_weburl_Origin:FnIs Tryz.prog 56 8 [.celln 2 2] c_weburl_Origin:=⟨⟨_,_,Tryz.func56,rfl,rfl,by kernel_rfl,by kernel_rfl⟩⟩
def c_weburl_Target:SCode :=
 .seq (.reg [⟨some 1,.box 74 (.t 0),none⟩,
 ⟨some 2,.mv (.c (.s [])),none⟩])
 (.seq (.seq (.reg [⟨some 3,.fad 5 (.t 1),none⟩,
 ⟨some 4,.load1 (.t 3),none⟩,
 ⟨some 5,.not (.t 4),none⟩])
 (.cond (.t 5)
 (.seq (.reg [⟨some 6,.fad 2 (.t 1),none⟩,
 ⟨some 7,.load1 (.t 6),none⟩,
 ⟨some 2,.mv (.t 7),none⟩])
 (.ret))
 (.skip)))
 (.seq (.reg [⟨some 8,.fad 2 (.t 1),none⟩,
 ⟨some 9,.load1 (.t 8),none⟩,
 ⟨some 10,.bin .add (.t 9) (.c (.s [63])),none⟩,
 ⟨some 11,.fad 3 (.t 1),none⟩,
 ⟨some 12,.load1 (.t 11),none⟩,
 ⟨some 13,.bin .add (.t 10) (.t 12),none⟩,
 ⟨some 2,.mv (.t 13),none⟩])
 (.ret)))
theorem is_weburl_Target:FnIs Tryz.prog 57 14 [.tmp 2] c_weburl_Target:=⟨⟨_,_,Tryz.func57,rfl,rfl,by kernel_rfl,by kernel_rfl⟩⟩
def c_percent_isEscapeAt:SCode :=
 .seq (.reg [⟨some 4,.mv (.c (.b false)),none⟩])
 (.seq (.reg [⟨some 5,.mv (.t 0),none⟩,
 ⟨some 6,.lens (.t 5),none⟩,
 ⟨some 7,.mv (.t 1),none⟩,
 ⟨some 8,.bin .sub (.t 6) (.t 7),none⟩,
 ⟨some 9,.bin .geq (.t 8) (.c (.i .i64 3)),none⟩,
 ⟨some 10,.mv (.t 9),none⟩,
 ⟨some 11,.mv (.t 0),some (10,true)⟩,
 ⟨some 12,.mv (.t 1),some (10,true)⟩,
 ⟨some 13,.bin .add (.t 12) (.c (.i .i64 1)),some (10,true)⟩,
 ⟨some 14,.idx (.t 11) (.t 13),some (10,true)⟩,
 ⟨some 15,.call 97 [.t 14],some (10,true)⟩,
 ⟨some 16,.pick (.t 10) (.t 15) (.c (.b false)),none⟩,
 ⟨some 17,.mv (.t 16),none⟩,
 ⟨some 18,.mv (.t 0),some (17,true)⟩,
 ⟨some 19,.mv (.t 1),some (17,true)⟩,
 ⟨some 20,.bin .add (.t 19) (.c (.i .i64 2)),some (17,true)⟩,
 ⟨some 21,.idx (.t 18) (.t 20),some (17,true)⟩,
 ⟨some 22,.call 97 [.t 21],some (17,true)⟩,
 ⟨some 23,.pick (.t 17) (.t 22) (.c (.b false)),none⟩,
 ⟨some 4,.mv (.t 23),none⟩])
 (.ret))
theorem is_percent_isEscapeAt:FnIs Tryz.prog 59 24 [.tmp 4] c_percent_isEscapeAt:=⟨⟨_,_,Tryz.func59,rfl,rfl,by kernel_rfl,by kernel_rfl⟩⟩
def c_percent_digit:SCode :=
 .seq (.reg [⟨some 2,.mv (.c (.i .u8 0)),none⟩])
 (.seq (.seq (.reg [⟨some 3,.mv (.t 0),none⟩,
 ⟨some 4,.call 98 [.t 3],none⟩])
 (.cond (.t 4)
 (.seq (.reg [⟨some 5,.mv (.t 0),none⟩,
 ⟨some 6,.bin .sub (.t 5) (.c (.i .u8 48)),none⟩,
 ⟨some 2,.mv (.t 6),none⟩])
 (.ret))
 (.skip)))
 (.seq (.reg [⟨some 7,.mv (.t 0),none⟩,
 ⟨some 8,.pu (.bits .and) [.t 7,.c (.i .u8 223)],none⟩,
 ⟨some 9,.bin .sub (.t 8) (.c (.i .u8 65)),none⟩,
 ⟨some 10,.bin .add (.t 9) (.c (.i .u8 10)),none⟩,
 ⟨some 2,.mv (.t 10),none⟩])
 (.ret)))
theorem is_percent_digit:FnIs Tryz.prog 60 11 [.tmp 2] c_percent_digit:=⟨⟨_,_,Tryz.func60,rfl,rfl,by kernel_rfl,by kernel_rfl⟩⟩
def c_ref01_IsHex:SCode :=
 .seq (.reg [⟨some 2,.mv (.c (.b false)),none⟩])
 (.seq (.reg [⟨some 3,.mv (.t 0),none⟩,
 ⟨some 4,.call 70 [.t 3],none⟩,
 ⟨some 5,.mv (.t 4),none⟩,
 ⟨some 6,.mv (.t 0),some (5,false)⟩,
 ⟨some 7,.bin .geq (.t 6) (.c (.i .u8 65)),some (5,false)⟩,
 ⟨some 8,.mv (.t 7),some (5,false)⟩,
 ⟨some 9,.mv (.t 0),some (8,true)⟩,
 ⟨some 10,.bin .leq (.t 9) (.c (.i .u8 70)),some (8,true)⟩,
 ⟨some 11,.pick (.t 8) (.t 10) (.c (.b false)),some (5,false)⟩,
 ⟨some 12,.pick (.t 5) (.c (.b true)) (.t 11),none⟩,
 ⟨some 13,.mv (.t 12),none⟩,
 ⟨some 14,.mv (.t 0),some (13,false)⟩,
 ⟨some 15,.bin .geq (.t 14) (.c (.i .u8 97)),some (13,false)⟩,
 ⟨some 16,.mv (.t 15),some (13,false)⟩,
 ⟨some 17,.mv (.t 0),some (16,true)⟩,
 ⟨some 18,.bin .leq (.t 17) (.c (.i .u8 102)),some (16,true)⟩,
 ⟨some 19,.pick (.t 16) (.t 18) (.c (.b false)),some (13,false)⟩,
 ⟨some 20,.pick (.t 13) (.c (.b true)) (.t 19),none⟩,
 ⟨some 2,.mv (.t 20),none⟩])
 (.ret))
theorem is_ref01_IsHex:FnIs Tryz.prog 61 21 [.tmp 2] c_ref01_IsHex:=⟨⟨_,_,Tryz.func61,rfl,rfl,by kernel_rfl,by kernel_rfl⟩⟩
def c_ref03_digit:SCode :=
 .seq (.reg [⟨some 2,.mv (.c (.i .u8 0)),none⟩])
 (.seq (.blk 0
 (.seq (.reg [⟨some 4,.mv (.t 0),none⟩,
 ⟨some 5,.bin .leq (.t 4) (.c (.i .u8 57)),none⟩,
 ⟨some 3,.mv (.t 5),none⟩])
 (.cond (.t 3)
 (.seq (.reg [⟨some 6,.mv (.t 0),none⟩,
 ⟨some 7,.bin .sub (.t 6) (.c (.i .u8 48)),none⟩,
 ⟨some 2,.mv (.t 7),none⟩])
 (.ret))
 (.seq (.reg [⟨some 9,.mv (.t 0),none⟩,
 ⟨some 10,.bin .leq (.t 9) (.c (.i .u8 70)),none⟩,
 ⟨some 8,.mv (.t 10),none⟩])
 (.cond (.t 8)
 (.seq (.reg [⟨some 11,.mv (.t 0),none⟩,
 ⟨some 12,.bin .sub (.t 11) (.c (.i .u8 65)),none⟩,
 ⟨some 13,.bin .add (.t 12) (.c (.i .u8 10)),none⟩,
 ⟨some 2,.mv (.t 13),none⟩])
 (.ret))
 (.skip))))))
 (.seq (.reg [⟨some 14,.mv (.t 0),none⟩,
 ⟨some 15,.bin .sub (.t 14) (.c (.i .u8 97)),none⟩,
 ⟨some 16,.bin .add (.t 15) (.c (.i .u8 10)),none⟩,
 ⟨some 2,.mv (.t 16),none⟩])
 (.ret)))
theorem is_ref03_digit:FnIs Tryz.prog 62 17 [.tmp 2] c_ref03_digit:=⟨⟨_,_,Tryz.func62,rfl,rfl,by kernel_rfl,by kernel_rfl⟩⟩
def c_ref13_numeral:SCode :=
 .seq (.reg [⟨some 2,.mv (.c (.i .i64 0)),none⟩])
 (.seq (.reg [⟨some 3,.mv (.c (.i .i64 0)),none⟩])
 (.seq (.seq (.reg [⟨some 7,.mv (.t 3),none⟩,
 ⟨some 8,.mv (.t 0),none⟩,
 ⟨some 9,.lens (.t 8),none⟩,
 ⟨some 10,.bin .lss (.t 7) (.t 9),none⟩,
 ⟨some 11,.mv (.t 10),none⟩,
 ⟨some 12,.mv (.t 0),some (11,true)⟩,
 ⟨some 13,.mv (.t 3),some (11,true)⟩,
 ⟨some 14,.idx (.t 12) (.t 13),some (11,true)⟩,
 ⟨some 15,.bin .eql (.t 14) (.c (.i .u8 45)),some (11,true)⟩,
 ⟨some 16,.pick (.t 11) (.t 15) (.c (.b false)),none⟩])
 (.cond (.t 16)
 (.reg [⟨some 17,.mv (.t 3),none⟩,
 ⟨some 18,.bin .add (.t 17) (.c (.i .i64 1)),none⟩,
 ⟨some 3,.mv (.t 18),none⟩])
 (.skip)))
 (.seq (.seq (.reg [⟨some 19,.mv (.t 3),none⟩,
 ⟨some 20,.mv (.t 0),none⟩,
 ⟨some 21,.lens (.t 20),none⟩,
 ⟨some 22,.bin .eql (.t 19) (.t 21),none⟩,
 ⟨some 23,.mv (.t 22),none⟩,
 ⟨some 24,.mv (.t 0),some (23,false)⟩,
 ⟨some 25,.mv (.t 3),some (23,false)⟩,
 ⟨some 26,.idx (.t 24) (.t 25),some (23,false)⟩,
 ⟨some 27,.call 70 [.t 26],some (23,false)⟩,
 ⟨some 28,.not (.t 27),some (23,false)⟩,
 ⟨some 29,.pick (.t 23) (.c (.b true)) (.t 28),none⟩])
 (.cond (.t 29)
 (.seq (.reg [⟨some 2,.mv (.c (.i .i64 0)),none⟩])
 (.ret))
 (.skip)))
 (.seq (.seq (.reg [⟨some 30,.mv (.t 0),none⟩,
 ⟨some 31,.mv (.t 3),none⟩,
 ⟨some 32,.idx (.t 30) (.t 31),none⟩,
 ⟨some 33,.bin .eql (.t 32) (.c (.i .u8 48)),none⟩])
 (.cond (.t 33)
 (.reg [⟨some 34,.mv (.t 3),none⟩,
 ⟨some 35,.bin .add (.t 34) (.c (.i .i64 1)),none⟩,
 ⟨some 3,.mv (.t 35),none⟩])
 (.reg [⟨some 36,.mv (.t 3),none⟩,
 ⟨some 37,.mv (.t 0),none⟩,
 ⟨some 38,.mv (.t 3),none⟩,
 ⟨some 39,.slcs (.t 37) (some (.t 38)) none,none⟩,
 ⟨some 40,.call 99 [.t 39],none⟩,
 ⟨some 41,.bin .add (.t 36) (.t 40),none⟩,
 ⟨some 3,.mv (.t 41),none⟩])))
 (.seq (.seq (.reg [⟨some 42,.mv (.t 0),none⟩,
 ⟨some 43,.mv (.t 3),none⟩,
 ⟨some 44,.bin .add (.t 43) (.c (.i .i64 1)),none⟩,
 ⟨some 45,.call 65 [.t 42,.t 44],none⟩,
 ⟨some 46,.call 99 [.t 45],none⟩,
 ⟨some 4,.mv (.t 46),none⟩])
 (.seq (.reg [⟨some 47,.mv (.t 3),none⟩,
 ⟨some 48,.mv (.t 0),none⟩,
 ⟨some 49,.lens (.t 48),none⟩,
 ⟨some 50,.bin .lss (.t 47) (.t 49),none⟩,
 ⟨some 51,.mv (.t 50),none⟩,
 ⟨some 52,.mv (.t 0),some (51,true)⟩,
 ⟨some 53,.mv (.t 3),some (51,true)⟩,
 ⟨some 54,.idx (.t 52) (.t 53),some (51,true)⟩,
 ⟨some 55,.bin .eql (.t 54) (.c (.i .u8 46)),some (51,true)⟩,
 ⟨some 56,.pick (.t 51) (.t 55) (.c (.b false)),none⟩,
 ⟨some 57,.mv (.t 56),none⟩,
 ⟨some 58,.mv (.t 4),some (57,true)⟩,
 ⟨some 59,.bin .gtr (.t 58) (.c (.i .i64 0)),some (57,true)⟩,
 ⟨some 60,.pick (.t 57) (.t 59) (.c (.b false)),none⟩])
 (.cond (.t 60)
 (.reg [⟨some 61,.mv (.t 3),none⟩,
 ⟨some 62,.mv (.t 4),none⟩,
 ⟨some 63,.bin .add (.c (.i .i64 1)) (.t 62),none⟩,
 ⟨some 64,.bin .add (.t 61) (.t 63),none⟩,
 ⟨some 3,.mv (.t 64),none⟩])
 (.skip))))
 (.seq (.seq (.reg [⟨some 65,.mv (.t 3),none⟩,
 ⟨some 66,.mv (.t 0),none⟩,
 ⟨some 67,.lens (.t 66),none⟩,
 ⟨some 68,.bin .lss (.t 65) (.t 67),none⟩,
 ⟨some 69,.mv (.t 68),none⟩,
 ⟨some 70,.mv (.t 0),some (69,true)⟩,
 ⟨some 71,.mv (.t 3),some (69,true)⟩,
 ⟨some 72,.idx (.t 70) (.t 71),some (69,true)⟩,
 ⟨some 73,.call 31 [.t 72,.c (.s [101,69])],some (69,true)⟩,
 ⟨some 74,.pick (.t 69) (.t 73) (.c (.b false)),none⟩])
 (.cond (.t 74)
 (.seq (.reg [⟨some 75,.mv (.t 3),none⟩,
 ⟨some 76,.bin .add (.t 75) (.c (.i .i64 1)),none⟩,
 ⟨some 5,.mv (.t 76),none⟩])
 (.seq (.seq (.reg [⟨some 77,.mv (.t 5),none⟩,
 ⟨some 78,.mv (.t 0),none⟩,
 ⟨some 79,.lens (.t 78),none⟩,
 ⟨some 80,.bin .lss (.t 77) (.t 79),none⟩,
 ⟨some 81,.mv (.t 80),none⟩,
 ⟨some 82,.mv (.t 0),some (81,true)⟩,
 ⟨some 83,.mv (.t 5),some (81,true)⟩,
 ⟨some 84,.idx (.t 82) (.t 83),some (81,true)⟩,
 ⟨some 85,.call 31 [.t 84,.c (.s [43,45])],some (81,true)⟩,
 ⟨some 86,.pick (.t 81) (.t 85) (.c (.b false)),none⟩])
 (.cond (.t 86)
 (.reg [⟨some 87,.mv (.t 5),none⟩,
 ⟨some 88,.bin .add (.t 87) (.c (.i .i64 1)),none⟩,
 ⟨some 5,.mv (.t 88),none⟩])
 (.skip)))
 (.seq (.reg [⟨some 89,.mv (.t 0),none⟩,
 ⟨some 90,.mv (.t 5),none⟩,
 ⟨some 91,.call 65 [.t 89,.t 90],none⟩,
 ⟨some 92,.call 99 [.t 91],none⟩,
 ⟨some 6,.mv (.t 92),none⟩])
 (.seq (.reg [⟨some 93,.mv (.t 6),none⟩,
 ⟨some 94,.bin .gtr (.t 93) (.c (.i .i64 0)),none⟩])
 (.cond (.t 94)
 (.reg [⟨some 95,.mv (.t 5),none⟩,
 ⟨some 96,.mv (.t 6),none⟩,
 ⟨some 97,.bin .add (.t 95) (.t 96),none⟩,
 ⟨some 3,.mv (.t 97),none⟩])
 (.skip))))))
 (.skip)))
 (.seq (.reg [⟨some 98,.mv (.t 3),none⟩,
 ⟨some 2,.mv (.t 98),none⟩])
 (.ret))))))))
theorem is_ref13_numeral:FnIs Tryz.prog 63 99 [.tmp 2] c_ref13_numeral:=⟨⟨_,_,Tryz.func63,rfl,rfl,by kernel_rfl,by kernel_rfl⟩⟩
def c_ref13_exponent:SCode :=
 .seq (.reg [⟨some 2,.mv (.c (.i .i64 0)),none⟩])
 (.seq (.reg [⟨some 6,.mv (.t 0),none⟩,
 ⟨some 7,.bin .neq (.t 6) (.c (.s [])),none⟩,
 ⟨some 8,.mv (.t 7),none⟩,
 ⟨some 9,.mv (.t 0),some (8,true)⟩,
 ⟨some 10,.idx (.t 9) (.c (.i .i64 0)),some (8,true)⟩,
 ⟨some 11,.bin .eql (.t 10) (.c (.i .u8 45)),some (8,true)⟩,
 ⟨some 12,.pick (.t 8) (.t 11) (.c (.b false)),none⟩,
 ⟨some 3,.mv (.t 12),none⟩])
 (.seq (.seq (.reg [⟨some 13,.mv (.t 0),none⟩,
 ⟨some 14,.bin .neq (.t 13) (.c (.s [])),none⟩,
 ⟨some 15,.mv (.t 14),none⟩,
 ⟨some 16,.mv (.t 0),some (15,true)⟩,
 ⟨some 17,.idx (.t 16) (.c (.i .i64 0)),some (15,true)⟩,
 ⟨some 18,.call 31 [.t 17,.c (.s [43,45])],some (15,true)⟩,
 ⟨some 19,.pick (.t 15) (.t 18) (.c (.b false)),none⟩])
 (.cond (.t 19)
 (.reg [⟨some 20,.mv (.t 0),none⟩,
 ⟨some 21,.slcs (.t 20) (some (.c (.i .i64 1))) none,none⟩,
 ⟨some 0,.mv (.t 21),none⟩])
 (.skip)))
 (.seq (.reg [⟨some 4,.mv (.c (.i .i64 0)),none⟩])
 (.seq (.seq (.reg [⟨some 5,.mv (.c (.i .i64 0)),none⟩])
 (.blk 0
 (.loop
 (.seq (.seq (.reg [⟨some 22,.mv (.t 5),none⟩,
 ⟨some 23,.mv (.t 0),none⟩,
 ⟨some 24,.lens (.t 23),none⟩,
 ⟨some 25,.bin .lss (.t 22) (.t 24),none⟩])
 (.cond (.t 25)
 (.skip)
 (.exit 0)))
 (.seq (.blk 1
 (.reg [⟨some 28,.mv (.t 4),none⟩,
 ⟨some 29,.bin .mul (.t 28) (.c (.i .i64 10)),none⟩,
 ⟨some 30,.mv (.t 0),none⟩,
 ⟨some 31,.mv (.t 5),none⟩,
 ⟨some 32,.idx (.t 30) (.t 31),none⟩,
 ⟨some 33,.bin .sub (.t 32) (.c (.i .u8 48)),none⟩,
 ⟨some 34,.cvi .i64 (.t 33),none⟩,
 ⟨some 35,.bin .add (.t 29) (.t 34),none⟩,
 ⟨some 36,.pu .mn [.t 35,.c (.i .i64 1073741824)],none⟩,
 ⟨some 4,.mv (.t 36),none⟩]))
 (.reg [⟨some 26,.mv (.t 5),none⟩,
 ⟨some 27,.bin .add (.t 26) (.c (.i .i64 1)),none⟩,
 ⟨some 5,.mv (.t 27),none⟩]))))))
 (.seq (.seq (.reg [⟨some 37,.mv (.t 3),none⟩])
 (.cond (.t 37)
 (.seq (.reg [⟨some 38,.mv (.t 4),none⟩,
 ⟨some 39,.neg (.t 38),none⟩,
 ⟨some 2,.mv (.t 39),none⟩])
 (.ret))
 (.skip)))
 (.seq (.reg [⟨some 40,.mv (.t 4),none⟩,
 ⟨some 2,.mv (.t 40),none⟩])
 (.ret)))))))
theorem is_ref13_exponent:FnIs Tryz.prog 64 41 [.tmp 2] c_ref13_exponent:=⟨⟨_,_,Tryz.func64,rfl,rfl,by kernel_rfl,by kernel_rfl⟩⟩
def c_ref13_tail:SCode :=
 .seq (.reg [⟨some 4,.mv (.c (.s [])),none⟩])
 (.seq (.seq (.reg [⟨some 5,.mv (.t 1),none⟩,
 ⟨some 6,.mv (.t 0),none⟩,
 ⟨some 7,.lens (.t 6),none⟩,
 ⟨some 8,.bin .geq (.t 5) (.t 7),none⟩])
 (.cond (.t 8)
 (.seq (.reg [⟨some 4,.mv (.c (.s [])),none⟩])
 (.ret))
 (.skip)))
 (.seq (.reg [⟨some 9,.mv (.t 0),none⟩,
 ⟨some 10,.mv (.t 1),none⟩,
 ⟨some 11,.slcs (.t 9) (some (.t 10)) none,none⟩,
 ⟨some 4,.mv (.t 11),none⟩])
 (.ret)))
theorem is_ref13_tail:FnIs Tryz.prog 65 12 [.tmp 4] c_ref13_tail:=⟨⟨_,_,Tryz.func65,rfl,rfl,by kernel_rfl,by kernel_rfl⟩⟩
def c_ref04_Format:SCode :=
 .seq (.reg [⟨some 2,.mv (.c (.s [])),none⟩])
 (.seq (.reg [⟨some 3,.mv (.c (.s [])),none⟩])
 (.blk 0
 (.loop
 (.blk 1
 (.seq (.reg [⟨some 4,.mv (.t 0),none⟩,
 ⟨some 5,.bin .rem (.t 4) (.c (.i .u64 10)),none⟩,
 ⟨some 6,.bin .add (.c (.i .u64 48)) (.t 5),none⟩,
 ⟨some 7,.cvi .u8 (.t 6),none⟩,
 ⟨some 8,.bslice 1 [.i .u8 0] [(0,(1,.t 7))],none⟩,
 ⟨some 9,.cvbs (.t 8),none⟩,
 ⟨some 10,.mv (.t 3),none⟩,
 ⟨some 11,.bin .add (.t 9) (.t 10),none⟩,
 ⟨some 3,.mv (.t 11),none⟩])
 (.seq (.reg [⟨some 12,.mv (.t 0),none⟩,
 ⟨some 13,.bin .quo (.t 12) (.c (.i .u64 10)),none⟩,
 ⟨some 0,.mv (.t 13),none⟩])
 (.seq (.reg [⟨some 14,.mv (.t 0),none⟩,
 ⟨some 15,.bin .eql (.t 14) (.c (.i .u64 0)),none⟩])
 (.cond (.t 15)
 (.seq (.reg [⟨some 16,.mv (.t 3),none⟩,
 ⟨some 2,.mv (.t 16),none⟩])
 (.ret))
 (.skip)))))))))
theorem is_ref04_Format:FnIs Tryz.prog 66 17 [.tmp 2] c_ref04_Format:=⟨⟨_,_,Tryz.func66,rfl,rfl,by kernel_rfl,by kernel_rfl⟩⟩
def c_ref14_Get:SCode :=
 .seq (.reg [⟨some 2,.box 30 (.t 0),none⟩,
 ⟨some 4,.alloc 30 [.i .i64 0,.s [],.nil,.nil],none⟩,
 ⟨some 5,.mv (.c (.b false)),none⟩])
 (.seq (.seq (.reg [⟨some 7,.fad 0 (.t 2),none⟩,
 ⟨some 8,.load1 (.t 7),none⟩,
 ⟨some 9,.bin .neq (.t 8) (.c (.i .i64 7)),none⟩])
 (.cond (.t 9)
 (.seq (.reg [⟨some 10,.build [.i .i64 0,.s [],.nil,.nil] [],none⟩,
 ⟨none,.store 4 (.t 4) (.t 10),none⟩,
 ⟨some 5,.mv (.c (.b false)),none⟩])
 (.ret))
 (.skip)))
 (.seq (.seq (.reg [⟨some 11,.fad 2 (.t 2),none⟩,
 ⟨some 12,.load1 (.t 11),none⟩,
 ⟨some 13,.lenr (.t 12),none⟩,
 ⟨some 14,.mv (.c (.i .i64 0)),none⟩])
 (.blk 0
 (.loop
 (.seq (.reg [⟨some 15,.bin .lss (.t 14) (.t 13),none⟩])
 (.seq (.cond (.t 15)
 (.skip)
 (.exit 0))
 (.seq (.blk 1
 (.seq (.reg [⟨some 16,.mv (.t 14),none⟩,
 ⟨some 6,.mv (.t 16),none⟩])
 (.seq (.reg [⟨some 17,.fad 2 (.t 2),none⟩,
 ⟨some 18,.load1 (.t 17),none⟩,
 ⟨some 19,.mv (.t 6),none⟩,
 ⟨some 20,.iad 1 (.t 18) (.t 19),none⟩,
 ⟨some 21,.load1 (.t 20),none⟩,
 ⟨some 22,.mv (.t 1),none⟩,
 ⟨some 23,.bin .eql (.t 21) (.t 22),none⟩,
 ⟨some 24,.mv (.t 23),none⟩,
 ⟨some 25,.mv (.t 6),some (24,true)⟩,
 ⟨some 26,.fad 3 (.t 2),some (24,true)⟩,
 ⟨some 27,.load1 (.t 26),some (24,true)⟩,
 ⟨some 28,.lenr (.t 27),some (24,true)⟩,
 ⟨some 29,.bin .lss (.t 25) (.t 28),some (24,true)⟩,
 ⟨some 30,.pick (.t 24) (.t 29) (.c (.b false)),none⟩])
 (.cond (.t 30)
 (.seq (.reg [⟨some 31,.fad 3 (.t 2),none⟩,
 ⟨some 32,.load1 (.t 31),none⟩,
 ⟨some 33,.mv (.t 6),none⟩,
 ⟨some 34,.iad 4 (.t 32) (.t 33),none⟩,
 ⟨some 35,.loadn 4 (.t 34),none⟩,
 ⟨none,.store 4 (.t 4) (.t 35),none⟩,
 ⟨some 5,.mv (.c (.b true)),none⟩])
 (.ret))
 (.skip)))))
 (.reg [⟨some 36,.bin .add (.t 14) (.c (.i .i64 1)),none⟩,
 ⟨some 14,.mv (.t 36),none⟩])))))))
 (.seq (.reg [⟨some 37,.build [.i .i64 0,.s [],.nil,.nil] [],none⟩,
 ⟨none,.store 4 (.t 4) (.t 37),none⟩,
 ⟨some 5,.mv (.c (.b false)),none⟩])
 (.ret))))
theorem is_ref14_Get:FnIs Tryz.prog 67 38 [.celln 4 4,.tmp 5] c_ref14_Get:=⟨⟨_,_,Tryz.func67,rfl,rfl,by kernel_rfl,by kernel_rfl⟩⟩
def c_ref13_white:SCode :=
 .seq (.reg [⟨some 2,.mv (.c (.b false)),none⟩])
 (.seq (.reg [⟨some 3,.mv (.t 0),none⟩,
 ⟨some 4,.call 31 [.t 3,.c (.s [32,9,10,13])],none⟩,
 ⟨some 2,.mv (.t 4),none⟩])
 (.ret))
theorem is_ref13_white:FnIs Tryz.prog 68 5 [.tmp 2] c_ref13_white:=⟨⟨_,_,Tryz.func68,rfl,rfl,by kernel_rfl,by kernel_rfl⟩⟩
def c_ref13_text:SCode :=
 .seq (.reg [⟨some 4,.mv (.c (.s [])),none⟩,
 ⟨some 5,.mv (.c (.i .i64 0)),none⟩,
 ⟨some 6,.mv (.c (.i .i64 0)),none⟩])
 (.seq (.reg [⟨some 7,.mv (.c (.s [])),none⟩])
 (.seq (.seq (.reg [⟨some 15,.mv (.t 1),none⟩,
 ⟨some 16,.bin .add (.t 15) (.c (.i .i64 1)),none⟩,
 ⟨some 8,.mv (.t 16),none⟩])
 (.blk 0
 (.loop
 (.seq (.seq (.reg [⟨some 17,.mv (.t 8),none⟩,
 ⟨some 18,.mv (.t 0),none⟩,
 ⟨some 19,.lens (.t 18),none⟩,
 ⟨some 20,.bin .lss (.t 17) (.t 19),none⟩])
 (.cond (.t 20)
 (.skip)
 (.exit 0)))
 (.blk 1
 (.blk 2
 (.seq (.reg [⟨some 39,.mv (.t 0),none⟩,
 ⟨some 40,.mv (.t 8),none⟩,
 ⟨some 41,.idx (.t 39) (.t 40),none⟩,
 ⟨some 42,.bin .eql (.t 41) (.c (.i .u8 34)),none⟩,
 ⟨some 38,.mv (.t 42),none⟩])
 (.cond (.t 38)
 (.seq (.reg [⟨some 43,.mv (.t 7),none⟩,
 ⟨some 44,.mv (.t 8),none⟩,
 ⟨some 45,.bin .add (.t 44) (.c (.i .i64 1)),none⟩,
 ⟨some 4,.mv (.t 43),none⟩,
 ⟨some 5,.mv (.t 45),none⟩,
 ⟨some 6,.mv (.c (.i .i64 0)),none⟩])
 (.ret))
 (.seq (.reg [⟨some 47,.mv (.t 0),none⟩,
 ⟨some 48,.mv (.t 8),none⟩,
 ⟨some 49,.idx (.t 47) (.t 48),none⟩,
 ⟨some 50,.bin .eql (.t 49) (.c (.i .u8 92)),none⟩,
 ⟨some 46,.mv (.t 50),none⟩])
 (.cond (.t 46)
 (.seq (.reg [⟨some 52,.mv (.t 0),none⟩,
 ⟨some 53,.mv (.t 8),none⟩,
 ⟨some 54,.call 100 [.t 52,.t 53],none⟩,
 ⟨some 51,.mv (.t 54),none⟩,
 ⟨some 55,.ext (.t 51) 0,none⟩,
 ⟨some 56,.ext (.t 51) 1,none⟩,
 ⟨some 57,.ext (.t 51) 2,none⟩,
 ⟨some 9,.mv (.t 55),none⟩,
 ⟨some 10,.mv (.t 56),none⟩,
 ⟨some 11,.mv (.t 57),none⟩])
 (.seq (.seq (.reg [⟨some 58,.mv (.t 11),none⟩,
 ⟨some 59,.bin .neq (.t 58) (.c (.i .i64 0)),none⟩])
 (.cond (.t 59)
 (.seq (.reg [⟨some 60,.mv (.t 11),none⟩,
 ⟨some 4,.mv (.c (.s [])),none⟩,
 ⟨some 5,.mv (.c (.i .i64 0)),none⟩,
 ⟨some 6,.mv (.t 60),none⟩])
 (.ret))
 (.skip)))
 (.reg [⟨some 61,.mv (.t 7),none⟩,
 ⟨some 62,.mv (.t 9),none⟩,
 ⟨some 63,.bin .add (.t 61) (.t 62),none⟩,
 ⟨some 64,.mv (.t 10),none⟩,
 ⟨some 7,.mv (.t 63),none⟩,
 ⟨some 8,.mv (.t 64),none⟩])))
 (.seq (.reg [⟨some 66,.mv (.t 0),none⟩,
 ⟨some 67,.mv (.t 8),none⟩,
 ⟨some 68,.idx (.t 66) (.t 67),none⟩,
 ⟨some 69,.bin .lss (.t 68) (.c (.i .u8 32)),none⟩,
 ⟨some 65,.mv (.t 69),none⟩])
 (.cond (.t 65)
 (.seq (.reg [⟨some 4,.mv (.c (.s [])),none⟩,
 ⟨some 5,.mv (.c (.i .i64 0)),none⟩,
 ⟨some 6,.mv (.c (.i .i64 130)),none⟩])
 (.ret))
 (.seq (.reg [⟨some 22,.mv (.t 0),none⟩,
 ⟨some 23,.mv (.t 8),none⟩,
 ⟨some 24,.call 101 [.t 22,.t 23],none⟩,
 ⟨some 21,.mv (.t 24),none⟩,
 ⟨some 25,.ext (.t 21) 0,none⟩,
 ⟨some 26,.ext (.t 21) 1,none⟩,
 ⟨some 27,.ext (.t 21) 2,none⟩,
 ⟨some 12,.mv (.t 25),none⟩,
 ⟨some 13,.mv (.t 26),none⟩,
 ⟨some 14,.mv (.t 27),none⟩])
 (.seq (.seq (.reg [⟨some 28,.mv (.t 14),none⟩,
 ⟨some 29,.bin .neq (.t 28) (.c (.i .i64 0)),none⟩])
 (.cond (.t 29)
 (.seq (.reg [⟨some 30,.mv (.t 14),none⟩,
 ⟨some 4,.mv (.c (.s [])),none⟩,
 ⟨some 5,.mv (.c (.i .i64 0)),none⟩,
 ⟨some 6,.mv (.t 30),none⟩])
 (.ret))
 (.skip)))
 (.reg [⟨some 31,.mv (.t 7),none⟩,
 ⟨some 32,.mv (.t 0),none⟩,
 ⟨some 33,.mv (.t 8),none⟩,
 ⟨some 34,.mv (.t 13),none⟩,
 ⟨some 35,.slcs (.t 32) (some (.t 33)) (some (.t 34)),none⟩,
 ⟨some 36,.bin .add (.t 31) (.t 35),none⟩,
 ⟨some 37,.mv (.t 13),none⟩,
 ⟨some 7,.mv (.t 36),none⟩,
 ⟨some 8,.mv (.t 37),none⟩])))))))))))))))
 (.seq (.reg [⟨some 4,.mv (.c (.s [])),none⟩,
 ⟨some 5,.mv (.c (.i .i64 0)),none⟩,
 ⟨some 6,.mv (.c (.i .i64 130)),none⟩])
 (.ret))))
theorem is_ref13_text:FnIs Tryz.prog 69 70 [.tmp 4,.tmp 5,.tmp 6] c_ref13_text:=⟨⟨_,_,Tryz.func69,rfl,rfl,by kernel_rfl,by kernel_rfl⟩⟩
def c_ref01_IsDigit:SCode :=
 .seq (.reg [⟨some 2,.mv (.c (.b false)),none⟩])
 (.seq (.reg [⟨some 3,.mv (.t 0),none⟩,
 ⟨some 4,.bin .geq (.t 3) (.c (.i .u8 48)),none⟩,
 ⟨some 5,.mv (.t 4),none⟩,
 ⟨some 6,.mv (.t 0),some (5,true)⟩,
 ⟨some 7,.bin .leq (.t 6) (.c (.i .u8 57)),some (5,true)⟩,
 ⟨some 8,.pick (.t 5) (.t 7) (.c (.b false)),none⟩,
 ⟨some 2,.mv (.t 8),none⟩])
 (.ret))
theorem is_ref01_IsDigit:FnIs Tryz.prog 70 9 [.tmp 2] c_ref01_IsDigit:=⟨⟨_,_,Tryz.func70,rfl,rfl,by kernel_rfl,by kernel_rfl⟩⟩
def c_ref01_IsAlpha:SCode :=
 .seq (.reg [⟨some 2,.mv (.c (.b false)),none⟩])
 (.seq (.reg [⟨some 3,.mv (.t 0),none⟩,
 ⟨some 4,.bin .geq (.t 3) (.c (.i .u8 65)),none⟩,
 ⟨some 5,.mv (.t 4),none⟩,
 ⟨some 6,.mv (.t 0),some (5,true)⟩,
 ⟨some 7,.bin .leq (.t 6) (.c (.i .u8 90)),some (5,true)⟩,
 ⟨some 8,.pick (.t 5) (.t 7) (.c (.b false)),none⟩,
 ⟨some 9,.mv (.t 8),none⟩,
 ⟨some 10,.mv (.t 0),some (9,false)⟩,
 ⟨some 11,.bin .geq (.t 10) (.c (.i .u8 97)),some (9,false)⟩,
 ⟨some 12,.mv (.t 11),some (9,false)⟩,
 ⟨some 13,.mv (.t 0),some (12,true)⟩,
 ⟨some 14,.bin .leq (.t 13) (.c (.i .u8 122)),some (12,true)⟩,
 ⟨some 15,.pick (.t 12) (.t 14) (.c (.b false)),some (9,false)⟩,
 ⟨some 16,.pick (.t 9) (.c (.b true)) (.t 15),none⟩,
 ⟨some 2,.mv (.t 16),none⟩])
 (.ret))
theorem is_ref01_IsAlpha:FnIs Tryz.prog 71 17 [.tmp 2] c_ref01_IsAlpha:=⟨⟨_,_,Tryz.func71,rfl,rfl,by kernel_rfl,by kernel_rfl⟩⟩
def c_diddoc_membersOf_1:SCode :=
 .seq (.reg [⟨some 3,.alloc 30 [.i .i64 0,.s [],.nil,.nil],none⟩,
 ⟨some 4,.mv (.c (.b false)),none⟩])
 (.seq (.reg [⟨some 5,.loadn 4 (.t 1),none⟩,
 ⟨some 6,.mv (.t 0),none⟩,
 ⟨some 7,.call 73 [.t 5,.t 6],none⟩,
 ⟨some 8,.ext (.t 7) 0,none⟩,
 ⟨some 9,.ext (.t 7) 1,none⟩,
 ⟨none,.store 4 (.t 3) (.t 8),none⟩,
 ⟨some 4,.mv (.t 9),none⟩])
 (.ret))
theorem is_diddoc_membersOf_1:FnIs Tryz.prog 72 10 [.celln 3 4,.tmp 4] c_diddoc_membersOf_1:=⟨⟨_,_,Tryz.func72,rfl,rfl,by kernel_rfl,by kernel_rfl⟩⟩
def c_jsondoc_Get:SCode :=
 .seq (.reg [⟨some 2,.box 30 (.t 0),none⟩,
 ⟨some 4,.alloc 30 [.i .i64 0,.s [],.nil,.nil],none⟩,
 ⟨some 5,.mv (.c (.b false)),none⟩])
 (.seq (.seq (.reg [⟨some 7,.fad 0 (.t 2),none⟩,
 ⟨some 8,.load1 (.t 7),none⟩,
 ⟨some 9,.bin .neq (.t 8) (.c (.i .i64 7)),none⟩])
 (.cond (.t 9)
 (.seq (.reg [⟨some 10,.build [.i .i64 0,.s [],.nil,.nil] [],none⟩,
 ⟨none,.store 4 (.t 4) (.t 10),none⟩,
 ⟨some 5,.mv (.c (.b false)),none⟩])
 (.ret))
 (.skip)))
 (.seq (.reg [⟨some 11,.fad 2 (.t 2),none⟩,
 ⟨some 12,.load1 (.t 11),none⟩,
 ⟨some 13,.mv (.t 1),none⟩,
 ⟨some 14,.call 102 [.t 12,.t 13],none⟩,
 ⟨some 6,.mv (.t 14),none⟩])
 (.seq (.seq (.reg [⟨some 15,.mv (.t 6),none⟩,
 ⟨some 16,.bin .lss (.t 15) (.c (.i .i64 0)),none⟩,
 ⟨some 17,.mv (.t 16),none⟩,
 ⟨some 18,.mv (.t 6),some (17,false)⟩,
 ⟨some 19,.fad 3 (.t 2),some (17,false)⟩,
 ⟨some 20,.load1 (.t 19),some (17,false)⟩,
 ⟨some 21,.lenr (.t 20),some (17,false)⟩,
 ⟨some 22,.bin .geq (.t 18) (.t 21),some (17,false)⟩,
 ⟨some 23,.pick (.t 17) (.c (.b true)) (.t 22),none⟩])
 (.cond (.t 23)
 (.seq (.reg [⟨some 24,.build [.i .i64 0,.s [],.nil,.nil] [],none⟩,
 ⟨none,.store 4 (.t 4) (.t 24),none⟩,
 ⟨some 5,.mv (.c (.b false)),none⟩])
 (.ret))
 (.skip)))
 (.seq (.reg [⟨some 25,.fad 3 (.t 2),none⟩,
 ⟨some 26,.load1 (.t 25),none⟩,
 ⟨some 27,.mv (.t 6),none⟩,
 ⟨some 28,.iad 4 (.t 26) (.t 27),none⟩,
 ⟨some 29,.loadn 4 (.t 28),none⟩,
 ⟨some 30,.call 103 [.t 29],none⟩,
 ⟨none,.store 4 (.t 4) (.t 30),none⟩,
 ⟨some 5,.mv (.c (.b true)),none⟩])
 (.ret)))))
theorem is_jsondoc_Get:FnIs Tryz.prog 73 31 [.celln 4 4,.tmp 5] c_jsondoc_Get:=⟨⟨_,_,Tryz.func73,rfl,rfl,by kernel_rfl,by kernel_rfl⟩⟩
def c_diddoc_textMember:SCode :=
 .seq (.reg [⟨some 2,.box 30 (.t 0),none⟩,
 ⟨some 4,.mv (.c (.s [])),none⟩,
 ⟨some 5,.mv (.c (.b false)),none⟩])
 (.seq (.reg [⟨some 9,.loadn 4 (.t 2),none⟩,
 ⟨some 10,.call 39 [.t 9],none⟩,
 ⟨some 11,.mv (.t 1),none⟩,
 ⟨some 12,.callv (.t 10) [.t 11],none⟩,
 ⟨some 8,.mv (.t 12),none⟩,
 ⟨some 13,.ext (.t 8) 0,none⟩,
 ⟨some 14,.ext (.t 8) 1,none⟩,
 ⟨some 6,.alloc 30 [.i .i64 0,.s [],.nil,.nil],none⟩,
 ⟨none,.store 4 (.t 6) (.t 13),none⟩,
 ⟨some 7,.mv (.t 14),none⟩])
 (.seq (.seq (.reg [⟨some 15,.mv (.t 7),none⟩,
 ⟨some 16,.not (.t 15),none⟩,
 ⟨some 17,.mv (.t 16),none⟩,
 ⟨some 18,.fad 0 (.t 6),some (17,false)⟩,
 ⟨some 19,.load1 (.t 18),some (17,false)⟩,
 ⟨some 20,.bin .neq (.t 19) (.c (.i .i64 5)),some (17,false)⟩,
 ⟨some 21,.pick (.t 17) (.c (.b true)) (.t 20),none⟩])
 (.cond (.t 21)
 (.seq (.reg [⟨some 4,.mv (.c (.s [])),none⟩,
 ⟨some 5,.mv (.c (.b false)),none⟩])
 (.ret))
 (.skip)))
 (.seq (.reg [⟨some 22,.fad 1 (.t 6),none⟩,
 ⟨some 23,.load1 (.t 22),none⟩,
 ⟨some 4,.mv (.t 23),none⟩,
 ⟨some 5,.mv (.c (.b true)),none⟩])
 (.ret))))
theorem is_diddoc_textMember:FnIs Tryz.prog 74 24 [.tmp 4,.tmp 5] c_diddoc_textMember:=⟨⟨_,_,Tryz.func74,rfl,rfl,by kernel_rfl,by kernel_rfl⟩⟩
def c_did_ParseDID:SCode :=
 .seq (.reg [⟨some 2,.alloc 37 [.s [],.s []],none⟩,
 ⟨some 3,.mv (.c (.i .i64 0)),none⟩])
 (.seq (.seq (.reg [⟨some 9,.mv (.t 0),none⟩,
 ⟨some 10,.lens (.t 9),none⟩,
 ⟨some 11,.bin .gtr (.t 10) (.c (.i .i64 4096)),none⟩])
 (.cond (.t 11)
 (.seq (.reg [⟨some 12,.build [.s [],.s []] [],none⟩,
 ⟨none,.store 2 (.t 2) (.t 12),none⟩,
 ⟨some 3,.mv (.c (.i .i64 5)),none⟩])
 (.ret))
 (.skip)))
 (.seq (.reg [⟨some 14,.mv (.t 0),none⟩,
 ⟨some 15,.call 82 [.t 14,.c (.s [100,105,100,58])],none⟩,
 ⟨some 13,.mv (.t 15),none⟩,
 ⟨some 16,.ext (.t 13) 0,none⟩,
 ⟨some 17,.ext (.t 13) 1,none⟩,
 ⟨some 4,.mv (.t 16),none⟩,
 ⟨some 5,.mv (.t 17),none⟩])
 (.seq (.seq (.reg [⟨some 18,.mv (.t 5),none⟩,
 ⟨some 19,.not (.t 18),none⟩])
 (.cond (.t 19)
 (.seq (.reg [⟨some 20,.build [.s [],.s []] [],none⟩,
 ⟨none,.store 2 (.t 2) (.t 20),none⟩,
 ⟨some 3,.mv (.c (.i .i64 60)),none⟩])
 (.ret))
 (.skip)))
 (.seq (.reg [⟨some 22,.mv (.t 4),none⟩,
 ⟨some 23,.call 11 [.t 22,.c (.s [58])],none⟩,
 ⟨some 21,.mv (.t 23),none⟩,
 ⟨some 24,.ext (.t 21) 0,none⟩,
 ⟨some 25,.ext (.t 21) 1,none⟩,
 ⟨some 26,.ext (.t 21) 2,none⟩,
 ⟨some 6,.mv (.t 24),none⟩,
 ⟨some 7,.mv (.t 25),none⟩,
 ⟨some 5,.mv (.t 26),none⟩])
 (.seq (.seq (.reg [⟨some 27,.mv (.t 5),none⟩,
 ⟨some 28,.not (.t 27),none⟩])
 (.cond (.t 28)
 (.seq (.reg [⟨some 29,.build [.s [],.s []] [],none⟩,
 ⟨none,.store 2 (.t 2) (.t 29),none⟩,
 ⟨some 3,.mv (.c (.i .i64 6)),none⟩])
 (.ret))
 (.skip)))
 (.seq (.seq (.reg [⟨some 30,.mv (.t 6),none⟩,
 ⟨some 31,.call 104 [.t 30],none⟩,
 ⟨some 32,.not (.t 31),none⟩])
 (.cond (.t 32)
 (.seq (.reg [⟨some 33,.build [.s [],.s []] [],none⟩,
 ⟨none,.store 2 (.t 2) (.t 33),none⟩,
 ⟨some 3,.mv (.c (.i .i64 100)),none⟩])
 (.ret))
 (.skip)))
 (.seq (.reg [⟨some 35,.mv (.t 7),none⟩,
 ⟨some 36,.call 105 [.t 35],none⟩,
 ⟨some 34,.mv (.t 36),none⟩,
 ⟨some 37,.ext (.t 34) 0,none⟩,
 ⟨some 38,.ext (.t 34) 1,none⟩,
 ⟨some 7,.mv (.t 37),none⟩,
 ⟨some 8,.mv (.t 38),none⟩])
 (.seq (.seq (.reg [⟨some 39,.mv (.t 8),none⟩,
 ⟨some 40,.bin .neq (.t 39) (.c (.i .i64 0)),none⟩])
 (.cond (.t 40)
 (.seq (.reg [⟨some 41,.build [.s [],.s []] [],none⟩,
 ⟨some 42,.mv (.t 8),none⟩,
 ⟨none,.store 2 (.t 2) (.t 41),none⟩,
 ⟨some 3,.mv (.t 42),none⟩])
 (.ret))
 (.skip)))
 (.seq (.reg [⟨some 43,.mv (.t 6),none⟩,
 ⟨some 44,.mv (.t 7),none⟩,
 ⟨some 45,.build [.s [],.s []] [(0,(1,.t 43)),(1,(1,.t 44))],none⟩,
 ⟨none,.store 2 (.t 2) (.t 45),none⟩,
 ⟨some 3,.mv (.c (.i .i64 0)),none⟩])
 (.ret))))))))))
theorem is_did_ParseDID:FnIs Tryz.prog 75 46 [.celln 2 2,.tmp 3] c_did_ParseDID:=⟨⟨_,_,Tryz.func75,rfl,rfl,by kernel_rfl,by kernel_rfl⟩⟩
def c_diddoc_texts:SCode :=
 .seq (.reg [⟨some 2,.mv (.c .nil),none⟩,
 ⟨some 3,.mv (.c (.i .i64 0)),none⟩])
 (.seq (.seq (.reg [⟨some 7,.mv (.t 0),none⟩,
 ⟨some 8,.lenr (.t 7),none⟩,
 ⟨some 9,.bin .gtr (.t 8) (.c (.i .i64 64)),none⟩])
 (.cond (.t 9)
 (.seq (.reg [⟨some 2,.mv (.c .nil),none⟩,
 ⟨some 3,.mv (.c (.i .i64 161)),none⟩])
 (.ret))
 (.skip)))
 (.seq (.reg [⟨some 4,.mv (.c .nil),none⟩])
 (.seq (.seq (.reg [⟨some 10,.mv (.t 0),none⟩,
 ⟨some 11,.lenr (.t 10),none⟩,
 ⟨some 12,.mv (.c (.i .i64 0)),none⟩])
 (.blk 0
 (.loop
 (.seq (.reg [⟨some 13,.bin .lss (.t 12) (.t 11),none⟩])
 (.seq (.cond (.t 13)
 (.skip)
 (.exit 0))
 (.seq (.blk 1
 (.seq (.reg [⟨some 14,.iad 4 (.t 10) (.t 12),none⟩,
 ⟨some 15,.loadn 4 (.t 14),none⟩,
 ⟨some 6,.alloc 30 [.i .i64 0,.s [],.nil,.nil],none⟩,
 ⟨none,.store 4 (.t 6) (.t 15),none⟩])
 (.seq (.seq (.reg [⟨some 16,.fad 0 (.t 6),none⟩,
 ⟨some 17,.load1 (.t 16),none⟩,
 ⟨some 18,.bin .neq (.t 17) (.c (.i .i64 5)),none⟩])
 (.cond (.t 18)
 (.seq (.reg [⟨some 2,.mv (.c .nil),none⟩,
 ⟨some 3,.mv (.c (.i .i64 160)),none⟩])
 (.ret))
 (.skip)))
 (.reg [⟨some 19,.mv (.t 4),none⟩,
 ⟨some 20,.fad 1 (.t 6),none⟩,
 ⟨some 21,.load1 (.t 20),none⟩,
 ⟨some 22,.bslice 1 [.s []] [(0,(1,.t 21))],none⟩,
 ⟨some 23,.app 9 1 16 (.t 19) (.t 22),none⟩,
 ⟨some 4,.mv (.t 23),none⟩]))))
 (.reg [⟨some 24,.bin .add (.t 12) (.c (.i .i64 1)),none⟩,
 ⟨some 12,.mv (.t 24),none⟩])))))))
 (.seq (.reg [⟨some 25,.mv (.t 4),none⟩,
 ⟨some 2,.mv (.t 25),none⟩,
 ⟨some 3,.mv (.c (.i .i64 0)),none⟩])
 (.ret)))))
theorem is_diddoc_texts:FnIs Tryz.prog 76 26 [.tmp 2,.tmp 3] c_diddoc_texts:=⟨⟨_,_,Tryz.func76,rfl,rfl,by kernel_rfl,by kernel_rfl⟩⟩
def c_diddoc_memberID:SCode :=
 .seq (.reg [⟨some 2,.box 30 (.t 0),none⟩,
 ⟨some 3,.box 37 (.t 1),none⟩,
 ⟨some 4,.mv (.c (.s [])),none⟩,
 ⟨some 5,.mv (.c (.i .i64 0)),none⟩])
 (.seq (.reg [⟨some 11,.loadn 4 (.t 2),none⟩,
 ⟨some 12,.call 74 [.t 11,.c (.s [105,100])],none⟩,
 ⟨some 10,.mv (.t 12),none⟩,
 ⟨some 13,.ext (.t 10) 0,none⟩,
 ⟨some 14,.ext (.t 10) 1,none⟩,
 ⟨some 6,.mv (.t 13),none⟩,
 ⟨some 7,.mv (.t 14),none⟩])
 (.seq (.seq (.reg [⟨some 15,.mv (.t 7),none⟩,
 ⟨some 16,.not (.t 15),none⟩])
 (.cond (.t 16)
 (.seq (.reg [⟨some 4,.mv (.c (.s [])),none⟩,
 ⟨some 5,.mv (.c (.i .i64 160)),none⟩])
 (.ret))
 (.skip)))
 (.seq (.reg [⟨some 18,.loadn 2 (.t 3),none⟩,
 ⟨some 19,.mv (.t 6),none⟩,
 ⟨some 20,.call 106 [.t 18,.t 19],none⟩,
 ⟨some 17,.mv (.t 20),none⟩,
 ⟨some 21,.ext (.t 17) 0,none⟩,
 ⟨some 22,.ext (.t 17) 1,none⟩,
 ⟨some 8,.alloc 39 [.s [],.s [],.s [],.s [],.s [],.b false,.b false],none⟩,
 ⟨none,.store 7 (.t 8) (.t 21),none⟩,
 ⟨some 9,.mv (.t 22),none⟩])
 (.seq (.seq (.reg [⟨some 23,.mv (.t 9),none⟩,
 ⟨some 24,.bin .neq (.t 23) (.c (.i .i64 0)),none⟩])
 (.cond (.t 24)
 (.seq (.reg [⟨some 4,.mv (.c (.s [])),none⟩,
 ⟨some 5,.mv (.c (.i .i64 160)),none⟩])
 (.ret))
 (.skip)))
 (.seq (.reg [⟨some 25,.loadn 7 (.t 8),none⟩,
 ⟨some 26,.call 107 [.t 25],none⟩,
 ⟨some 4,.mv (.t 26),none⟩,
 ⟨some 5,.mv (.c (.i .i64 0)),none⟩])
 (.ret))))))
theorem is_diddoc_memberID:FnIs Tryz.prog 77 27 [.tmp 4,.tmp 5] c_diddoc_memberID:=⟨⟨_,_,Tryz.func77,rfl,rfl,by kernel_rfl,by kernel_rfl⟩⟩
def c_uri_Split_1:SCode :=
 .seq (.reg [⟨some 3,.mv (.c (.s [])),none⟩,
 ⟨some 4,.mv (.c (.b false)),none⟩])
 (.seq (.reg [⟨some 7,.load1 (.t 1),none⟩,
 ⟨some 8,.mv (.t 0),none⟩,
 ⟨some 9,.call 79 [.t 7,.t 8],none⟩,
 ⟨some 5,.mv (.t 9),none⟩])
 (.seq (.seq (.reg [⟨some 10,.mv (.t 5),none⟩,
 ⟨some 11,.bin .lss (.t 10) (.c (.i .i64 0)),none⟩])
 (.cond (.t 11)
 (.seq (.reg [⟨some 3,.mv (.c (.s [])),none⟩,
 ⟨some 4,.mv (.c (.b false)),none⟩])
 (.ret))
 (.skip)))
 (.seq (.reg [⟨some 12,.load1 (.t 1),none⟩,
 ⟨some 13,.mv (.t 5),none⟩,
 ⟨some 14,.bin .add (.t 13) (.c (.i .i64 1)),none⟩,
 ⟨some 15,.slcs (.t 12) (some (.t 14)) none,none⟩,
 ⟨some 6,.mv (.t 15),none⟩])
 (.seq (.reg [⟨some 16,.load1 (.t 1),none⟩,
 ⟨some 17,.mv (.t 5),none⟩,
 ⟨some 18,.slcs (.t 16) none (some (.t 17)),none⟩,
 ⟨none,.store 1 (.t 1) (.t 18),none⟩])
 (.seq (.reg [⟨some 19,.mv (.t 6),none⟩,
 ⟨some 3,.mv (.t 19),none⟩,
 ⟨some 4,.mv (.c (.b true)),none⟩])
 (.ret))))))
theorem is_uri_Split_1:FnIs Tryz.prog 78 20 [.tmp 3,.tmp 4] c_uri_Split_1:=⟨⟨_,_,Tryz.func78,rfl,rfl,by kernel_rfl,by kernel_rfl⟩⟩
def c_uri_schemeEnd:SCode :=
 .seq (.reg [⟨some 2,.mv (.c (.i .i64 0)),none⟩])
 (.seq (.reg [⟨some 3,.mv (.t 0),none⟩,
 ⟨some 4,.call 83 [.t 3],none⟩,
 ⟨some 5,.call 79 [.t 4,.c (.i .u8 58)],none⟩,
 ⟨some 2,.mv (.t 5),none⟩])
 (.ret))
theorem is_uri_schemeEnd:FnIs Tryz.prog 80 6 [.tmp 2] c_uri_schemeEnd:=⟨⟨_,_,Tryz.func80,rfl,rfl,by kernel_rfl,by kernel_rfl⟩⟩
def c_uri_isScheme:SCode :=
 .seq (.reg [⟨some 2,.mv (.c (.b false)),none⟩])
 (.seq (.seq (.reg [⟨some 4,.mv (.t 0),none⟩,
 ⟨some 5,.lens (.t 4),none⟩,
 ⟨some 6,.mv (.c (.i .i64 0)),none⟩])
 (.blk 0
 (.loop
 (.seq (.reg [⟨some 7,.bin .lss (.t 6) (.t 5),none⟩])
 (.seq (.cond (.t 7)
 (.skip)
 (.exit 0))
 (.seq (.blk 1
 (.seq (.reg [⟨some 8,.mv (.t 6),none⟩,
 ⟨some 3,.mv (.t 8),none⟩])
 (.seq (.reg [⟨some 9,.mv (.t 0),none⟩,
 ⟨some 10,.mv (.t 3),none⟩,
 ⟨some 11,.idx (.t 9) (.t 10),none⟩,
 ⟨some 12,.call 108 [.t 11],none⟩,
 ⟨some 13,.not (.t 12),none⟩,
 ⟨some 14,.mv (.t 13),none⟩,
 ⟨some 15,.mv (.t 3),some (14,true)⟩,
 ⟨some 16,.bin .eql (.t 15) (.c (.i .i64 0)),some (14,true)⟩,
 ⟨some 17,.mv (.t 16),some (14,true)⟩,
 ⟨some 18,.mv (.t 0),some (17,false)⟩,
 ⟨some 19,.mv (.t 3),some (17,false)⟩,
 ⟨some 20,.idx (.t 18) (.t 19),some (17,false)⟩,
 ⟨some 21,.call 98 [.t 20],some (17,false)⟩,
 ⟨some 22,.not (.t 21),some (17,false)⟩,
 ⟨some 23,.mv (.t 22),some (17,false)⟩,
 ⟨some 24,.mv (.t 0),some (23,true)⟩,
 ⟨some 25,.mv (.t 3),some (23,true)⟩,
 ⟨some 26,.idx (.t 24) (.t 25),some (23,true)⟩,
 ⟨some 27,.call 79 [.c (.s [43,45,46]),.t 26],some (23,true)⟩,
 ⟨some 28,.bin .lss (.t 27) (.c (.i .i64 0)),some (23,true)⟩,
 ⟨some 29,.pick (.t 23) (.t 28) (.c (.b false)),some (17,false)⟩,
 ⟨some 30,.pick (.t 17) (.c (.b true)) (.t 29),some (14,true)⟩,
 ⟨some 31,.pick (.t 14) (.t 30) (.c (.b false)),none⟩])
 (.cond (.t 31)
 (.seq (.reg [⟨some 2,.mv (.c (.b false)),none⟩])
 (.ret))
 (.skip)))))
 (.reg [⟨some 32,.bin .add (.t 6) (.c (.i .i64 1)),none⟩,
 ⟨some 6,.mv (.t 32),none⟩])))))))
 (.seq (.reg [⟨some 33,.mv (.t 0),none⟩,
 ⟨some 34,.bin .neq (.t 33) (.c (.s [])),none⟩,
 ⟨some 2,.mv (.t 34),none⟩])
 (.ret)))
theorem is_uri_isScheme:FnIs Tryz.prog 81 35 [.tmp 2] c_uri_isScheme:=⟨⟨_,_,Tryz.func81,rfl,rfl,by kernel_rfl,by kernel_rfl⟩⟩
def c_uri_firstPart:SCode :=
 .seq (.reg [⟨some 2,.mv (.c (.s [])),none⟩])
 (.seq (.reg [⟨some 7,.mv (.t 0),none⟩,
 ⟨some 8,.call 11 [.t 7,.c (.s [47])],none⟩,
 ⟨some 6,.mv (.t 8),none⟩,
 ⟨some 9,.ext (.t 6) 0,none⟩,
 ⟨some 10,.ext (.t 6) 1,none⟩,
 ⟨some 11,.ext (.t 6) 2,none⟩,
 ⟨some 3,.mv (.t 9),none⟩,
 ⟨some 4,.mv (.t 10),none⟩,
 ⟨some 5,.mv (.t 11),none⟩])
 (.seq (.reg [⟨some 12,.mv (.t 3),none⟩,
 ⟨some 2,.mv (.t 12),none⟩])
 (.ret)))
theorem is_uri_firstPart:FnIs Tryz.prog 83 13 [.tmp 2] c_uri_firstPart:=⟨⟨_,_,Tryz.func83,rfl,rfl,by kernel_rfl,by kernel_rfl⟩⟩
def c_host_Parse:SCode :=
 .seq (.reg [⟨some 2,.alloc 110 [.s [],.i .i64 0],none⟩,
 ⟨some 3,.mv (.c (.i .i64 0)),none⟩])
 (.seq (.reg [⟨some 10,.mv (.t 0),none⟩,
 ⟨some 11,.call 11 [.t 10,.c (.s [58])],none⟩,
 ⟨some 9,.mv (.t 11),none⟩,
 ⟨some 12,.ext (.t 9) 0,none⟩,
 ⟨some 13,.ext (.t 9) 1,none⟩,
 ⟨some 14,.ext (.t 9) 2,none⟩,
 ⟨some 4,.mv (.t 12),none⟩,
 ⟨some 5,.mv (.t 13),none⟩,
 ⟨some 6,.mv (.t 14),none⟩])
 (.seq (.reg [⟨some 16,.mv (.t 4),none⟩,
 ⟨some 17,.call 111 [.t 16],none⟩,
 ⟨some 15,.mv (.t 17),none⟩,
 ⟨some 18,.ext (.t 15) 0,none⟩,
 ⟨some 19,.ext (.t 15) 1,none⟩,
 ⟨some 4,.mv (.t 18),none⟩,
 ⟨some 7,.mv (.t 19),none⟩])
 (.seq (.seq (.reg [⟨some 20,.mv (.t 7),none⟩,
 ⟨some 21,.bin .neq (.t 20) (.c (.i .i64 0)),none⟩])
 (.cond (.t 21)
 (.seq (.reg [⟨some 22,.build [.s [],.i .i64 0] [],none⟩,
 ⟨some 23,.mv (.t 7),none⟩,
 ⟨none,.store 2 (.t 2) (.t 22),none⟩,
 ⟨some 3,.mv (.t 23),none⟩])
 (.ret))
 (.skip)))
 (.seq (.seq (.reg [⟨some 24,.mv (.t 6),none⟩,
 ⟨some 25,.not (.t 24),none⟩])
 (.cond (.t 25)
 (.seq (.reg [⟨some 26,.mv (.t 4),none⟩,
 ⟨some 27,.build [.s [],.i .i64 0] [(0,(1,.t 26))],none⟩,
 ⟨none,.store 2 (.t 2) (.t 27),none⟩,
 ⟨some 3,.mv (.c (.i .i64 0)),none⟩])
 (.ret))
 (.skip)))
 (.seq (.reg [⟨some 29,.mv (.t 5),none⟩,
 ⟨some 30,.call 112 [.t 29],none⟩,
 ⟨some 28,.mv (.t 30),none⟩,
 ⟨some 31,.ext (.t 28) 0,none⟩,
 ⟨some 32,.ext (.t 28) 1,none⟩,
 ⟨some 8,.mv (.t 31),none⟩,
 ⟨some 7,.mv (.t 32),none⟩])
 (.seq (.seq (.reg [⟨some 33,.mv (.t 7),none⟩,
 ⟨some 34,.bin .neq (.t 33) (.c (.i .i64 0)),none⟩])
 (.cond (.t 34)
 (.seq (.reg [⟨some 35,.build [.s [],.i .i64 0] [],none⟩,
 ⟨some 36,.mv (.t 7),none⟩,
 ⟨none,.store 2 (.t 2) (.t 35),none⟩,
 ⟨some 3,.mv (.t 36),none⟩])
 (.ret))
 (.skip)))
 (.seq (.seq (.reg [⟨some 37,.mv (.t 8),none⟩,
 ⟨some 38,.bin .eql (.t 37) (.c (.i .i64 443)),none⟩])
 (.cond (.t 38)
 (.reg [⟨some 8,.mv (.c (.i .i64 0)),none⟩])
 (.skip)))
 (.seq (.reg [⟨some 39,.mv (.t 4),none⟩,
 ⟨some 40,.mv (.t 8),none⟩,
 ⟨some 41,.build [.s [],.i .i64 0] [(0,(1,.t 39)),(1,(1,.t 40))],none⟩,
 ⟨none,.store 2 (.t 2) (.t 41),none⟩,
 ⟨some 3,.mv (.c (.i .i64 0)),none⟩])
 (.ret)))))))))
theorem is_host_Parse:FnIs Tryz.prog 85 42 [.celln 2 2,.tmp 3] c_host_Parse:=⟨⟨_,_,Tryz.func85,rfl,rfl,by kernel_rfl,by kernel_rfl⟩⟩
def c_percent_Normalize:SCode :=
 .seq (.reg [⟨some 3,.box 9 (.t 1),none⟩,
 ⟨some 4,.mv (.c (.s [])),none⟩,
 ⟨some 5,.mv (.c (.i .i64 0)),none⟩])
 (.seq (.reg [⟨some 6,.mv (.t 0),none⟩,
 ⟨some 7,.mkf 113 [] [.t 3],none⟩,
 ⟨some 8,.call 29 [.t 6,.t 7],none⟩,
 ⟨some 9,.ext (.t 8) 0,none⟩,
 ⟨some 10,.ext (.t 8) 1,none⟩,
 ⟨some 4,.mv (.t 9),none⟩,
 ⟨some 5,.mv (.t 10),none⟩])
 (.ret))
theorem is_percent_Normalize:FnIs Tryz.prog 86 11 [.tmp 4,.tmp 5] c_percent_Normalize:=⟨⟨_,_,Tryz.func86,rfl,rfl,by kernel_rfl,by kernel_rfl⟩⟩
def c_uri_RemoveDots:SCode :=
 .seq (.reg [⟨some 2,.mv (.c (.s [])),none⟩])
 (.seq (.drw [⟨some 6,.mv (.t 0),none⟩,
 ⟨some 7,.mv (.t 0),none⟩,
 ⟨some 8,.lens (.t 7),none⟩,
 ⟨some 9,.mks 5 1 1 (.c (.i .i64 0)) (.t 8),none⟩,
 ⟨some 3,.mv (.t 6),none⟩,
 ⟨some 4,.mv (.t 9),none⟩] 6 [])
 (.seq (.blk 0
 (.loop
 (.seq (.seq (.reg [⟨some 10,.mv (.t 3),none⟩,
 ⟨some 11,.bin .neq (.t 10) (.c (.s [])),none⟩])
 (.cond (.t 11)
 (.skip)
 (.exit 0)))
 (.blk 1
 (.blk 2
 (.seq (.reg [⟨some 26,.mv (.t 3),none⟩,
 ⟨some 27,.call 117 [.t 26,.c (.s [46,46,47])],none⟩,
 ⟨some 25,.mv (.t 27),none⟩])
 (.cond (.t 25)
 (.reg [⟨some 28,.mv (.t 3),none⟩,
 ⟨some 29,.slcs (.t 28) (some (.c (.i .i64 3))) none,none⟩,
 ⟨some 3,.mv (.t 29),none⟩])
 (.seq (.seq (.reg [⟨some 31,.mv (.t 3),none⟩,
 ⟨some 32,.call 117 [.t 31,.c (.s [46,47])],none⟩,
 ⟨some 30,.mv (.t 32),none⟩])
 (.cond (.t 30)
 (.skip)
 (.reg [⟨some 33,.mv (.t 3),none⟩,
 ⟨some 34,.call 117 [.t 33,.c (.s [47,46,47])],none⟩,
 ⟨some 30,.mv (.t 34),none⟩])))
 (.cond (.t 30)
 (.reg [⟨some 35,.mv (.t 3),none⟩,
 ⟨some 36,.slcs (.t 35) (some (.c (.i .i64 2))) none,none⟩,
 ⟨some 3,.mv (.t 36),none⟩])
 (.seq (.reg [⟨some 38,.mv (.t 3),none⟩,
 ⟨some 39,.bin .eql (.t 38) (.c (.s [47,46])),none⟩,
 ⟨some 37,.mv (.t 39),none⟩])
 (.cond (.t 37)
 (.reg [⟨some 3,.mv (.c (.s [47])),none⟩])
 (.seq (.reg [⟨some 41,.mv (.t 3),none⟩,
 ⟨some 42,.call 117 [.t 41,.c (.s [47,46,46,47])],none⟩,
 ⟨some 40,.mv (.t 42),none⟩])
 (.cond (.t 40)
 (.drw [⟨some 43,.mv (.t 3),none⟩,
 ⟨some 44,.slcs (.t 43) (some (.c (.i .i64 3))) none,none⟩,
 ⟨some 45,.mv (.t 4),none⟩,
 ⟨some 46,.call 118 [.t 45],none⟩,
 ⟨some 3,.mv (.t 44),none⟩,
 ⟨some 4,.mv (.t 46),none⟩] 6 [])
 (.seq (.reg [⟨some 48,.mv (.t 3),none⟩,
 ⟨some 49,.bin .eql (.t 48) (.c (.s [47,46,46])),none⟩,
 ⟨some 47,.mv (.t 49),none⟩])
 (.cond (.t 47)
 (.reg [⟨some 50,.mv (.t 4),none⟩,
 ⟨some 51,.call 118 [.t 50],none⟩,
 ⟨some 3,.mv (.c (.s [47])),none⟩,
 ⟨some 4,.mv (.t 51),none⟩])
 (.seq (.seq (.reg [⟨some 53,.mv (.t 3),none⟩,
 ⟨some 54,.bin .eql (.t 53) (.c (.s [46])),none⟩,
 ⟨some 52,.mv (.t 54),none⟩])
 (.cond (.t 52)
 (.skip)
 (.reg [⟨some 55,.mv (.t 3),none⟩,
 ⟨some 56,.bin .eql (.t 55) (.c (.s [46,46])),none⟩,
 ⟨some 52,.mv (.t 56),none⟩])))
 (.cond (.t 52)
 (.reg [⟨some 3,.mv (.c (.s [])),none⟩])
 (.seq (.reg [⟨some 12,.mv (.t 3),none⟩,
 ⟨some 13,.slcs (.t 12) (some (.c (.i .i64 1))) none,none⟩,
 ⟨some 14,.call 83 [.t 13],none⟩,
 ⟨some 15,.lens (.t 14),none⟩,
 ⟨some 16,.bin .add (.c (.i .i64 1)) (.t 15),none⟩,
 ⟨some 5,.mv (.t 16),none⟩])
 (.drw [⟨some 17,.mv (.t 3),none⟩,
 ⟨some 18,.mv (.t 5),none⟩,
 ⟨some 19,.slcs (.t 17) (some (.t 18)) none,none⟩,
 ⟨some 20,.mv (.t 4),none⟩,
 ⟨some 21,.mv (.t 3),none⟩,
 ⟨some 22,.mv (.t 5),none⟩,
 ⟨some 23,.slcs (.t 21) none (some (.t 22)),none⟩,
 ⟨some 24,.apps 5 (.t 20) (.t 23),none⟩,
 ⟨some 3,.mv (.t 19),none⟩,
 ⟨some 4,.mv (.t 24),none⟩] 10 [])))))))))))))))))))
 (.seq (.reg [⟨some 57,.mv (.t 4),none⟩,
 ⟨some 58,.cvbs (.t 57),none⟩,
 ⟨some 2,.mv (.t 58),none⟩])
 (.ret))))
theorem is_uri_RemoveDots:FnIs Tryz.prog 87 59 [.tmp 2] c_uri_RemoveDots:=⟨⟨_,_,Tryz.func87,rfl,rfl,by kernel_rfl,by kernel_rfl⟩⟩
def c_uri_merge:SCode :=
 .seq (.reg [⟨some 2,.box 106 (.t 0),none⟩,
 ⟨some 4,.mv (.c (.s [])),none⟩])
 (.seq (.seq (.reg [⟨some 5,.fad 6 (.t 2),none⟩,
 ⟨some 6,.load1 (.t 5),none⟩,
 ⟨some 7,.mv (.t 6),none⟩,
 ⟨some 8,.fad 2 (.t 2),some (7,true)⟩,
 ⟨some 9,.load1 (.t 8),some (7,true)⟩,
 ⟨some 10,.bin .eql (.t 9) (.c (.s [])),some (7,true)⟩,
 ⟨some 11,.pick (.t 7) (.t 10) (.c (.b false)),none⟩])
 (.cond (.t 11)
 (.seq (.reg [⟨some 12,.mv (.t 1),none⟩,
 ⟨some 13,.bin .add (.c (.s [47])) (.t 12),none⟩,
 ⟨some 4,.mv (.t 13),none⟩])
 (.ret))
 (.skip)))
 (.seq (.drw [⟨some 14,.fad 2 (.t 2),none⟩,
 ⟨some 15,.load1 (.t 14),none⟩,
 ⟨some 16,.fad 2 (.t 2),none⟩,
 ⟨some 17,.load1 (.t 16),none⟩,
 ⟨some 18,.call 119 [.t 17,.c (.i .u8 47)],none⟩,
 ⟨some 19,.bin .add (.t 18) (.c (.i .i64 1)),none⟩,
 ⟨some 20,.slcs (.t 15) none (some (.t 19)),none⟩,
 ⟨some 21,.mv (.t 1),none⟩,
 ⟨some 22,.bin .add (.t 20) (.t 21),none⟩,
 ⟨some 4,.mv (.t 22),none⟩] 10 [])
 (.ret)))
theorem is_uri_merge:FnIs Tryz.prog 88 23 [.tmp 4] c_uri_merge:=⟨⟨_,_,Tryz.func88,rfl,rfl,by kernel_rfl,by kernel_rfl⟩⟩
def c_ascii_lower:SCode :=
 .seq (.reg [⟨some 2,.mv (.c (.i .u8 0)),none⟩])
 (.seq (.seq (.reg [⟨some 3,.mv (.t 0),none⟩,
 ⟨some 4,.call 120 [.t 3],none⟩])
 (.cond (.t 4)
 (.seq (.reg [⟨some 5,.mv (.t 0),none⟩,
 ⟨some 6,.bin .add (.t 5) (.c (.i .u8 32)),none⟩,
 ⟨some 2,.mv (.t 6),none⟩])
 (.ret))
 (.skip)))
 (.seq (.reg [⟨some 7,.mv (.t 0),none⟩,
 ⟨some 2,.mv (.t 7),none⟩])
 (.ret)))
theorem is_ascii_lower:FnIs Tryz.prog 89 8 [.tmp 2] c_ascii_lower:=⟨⟨_,_,Tryz.func89,rfl,rfl,by kernel_rfl,by kernel_rfl⟩⟩
def c_uri_concat:SCode :=
 .seq (.reg [⟨some 2,.mv (.c (.s [])),none⟩])
 (.seq (.reg [⟨some 3,.mv (.t 0),none⟩,
 ⟨some 4,.call 121 [.t 3,.c (.s [])],none⟩,
 ⟨some 2,.mv (.t 4),none⟩])
 (.ret))
theorem is_uri_concat:FnIs Tryz.prog 90 5 [.tmp 2] c_uri_concat:=⟨⟨_,_,Tryz.func90,rfl,rfl,by kernel_rfl,by kernel_rfl⟩⟩
def c_uri_given:SCode :=
 .seq (.reg [⟨some 4,.mv (.c (.s [])),none⟩])
 (.seq (.seq (.reg [⟨some 5,.mv (.t 0),none⟩,
 ⟨some 6,.not (.t 5),none⟩])
 (.cond (.t 6)
 (.seq (.reg [⟨some 4,.mv (.c (.s [])),none⟩])
 (.ret))
 (.skip)))
 (.seq (.reg [⟨some 7,.mv (.t 1),none⟩,
 ⟨some 8,.call 90 [.t 7],none⟩,
 ⟨some 4,.mv (.t 8),none⟩])
 (.ret)))
theorem is_uri_given:FnIs Tryz.prog 91 9 [.tmp 4] c_uri_given:=⟨⟨_,_,Tryz.func91,rfl,rfl,by kernel_rfl,by kernel_rfl⟩⟩
def c_ascii_IsHex:SCode :=
 .seq (.reg [⟨some 2,.mv (.c (.b false)),none⟩])
 (.seq (.reg [⟨some 3,.mv (.t 0),none⟩,
 ⟨some 4,.call 98 [.t 3],none⟩,
 ⟨some 5,.mv (.t 4),none⟩,
 ⟨some 6,.mv (.t 0),some (5,false)⟩,
 ⟨some 7,.bin .geq (.t 6) (.c (.i .u8 97)),some (5,false)⟩,
 ⟨some 8,.mv (.t 7),some (5,false)⟩,
 ⟨some 9,.mv (.t 0),some (8,true)⟩,
 ⟨some 10,.bin .leq (.t 9) (.c (.i .u8 102)),some (8,true)⟩,
 ⟨some 11,.pick (.t 8) (.t 10) (.c (.b false)),some (5,false)⟩,
 ⟨some 12,.pick (.t 5) (.c (.b true)) (.t 11),none⟩,
 ⟨some 13,.mv (.t 12),none⟩,
 ⟨some 14,.mv (.t 0),some (13,false)⟩,
 ⟨some 15,.bin .geq (.t 14) (.c (.i .u8 65)),some (13,false)⟩,
 ⟨some 16,.mv (.t 15),some (13,false)⟩,
 ⟨some 17,.mv (.t 0),some (16,true)⟩,
 ⟨some 18,.bin .leq (.t 17) (.c (.i .u8 70)),some (16,true)⟩,
 ⟨some 19,.pick (.t 16) (.t 18) (.c (.b false)),some (13,false)⟩,
 ⟨some 20,.pick (.t 13) (.c (.b true)) (.t 19),none⟩,
 ⟨some 2,.mv (.t 20),none⟩])
 (.ret))
theorem is_ascii_IsHex:FnIs Tryz.prog 97 21 [.tmp 2] c_ascii_IsHex:=⟨⟨_,_,Tryz.func97,rfl,rfl,by kernel_rfl,by kernel_rfl⟩⟩
def c_ascii_IsDigit:SCode :=
 .seq (.reg [⟨some 2,.mv (.c (.b false)),none⟩])
 (.seq (.reg [⟨some 3,.mv (.t 0),none⟩,
 ⟨some 4,.bin .geq (.t 3) (.c (.i .u8 48)),none⟩,
 ⟨some 5,.mv (.t 4),none⟩,
 ⟨some 6,.mv (.t 0),some (5,true)⟩,
 ⟨some 7,.bin .leq (.t 6) (.c (.i .u8 57)),some (5,true)⟩,
 ⟨some 8,.pick (.t 5) (.t 7) (.c (.b false)),none⟩,
 ⟨some 2,.mv (.t 8),none⟩])
 (.ret))
theorem is_ascii_IsDigit:FnIs Tryz.prog 98 9 [.tmp 2] c_ascii_IsDigit:=⟨⟨_,_,Tryz.func98,rfl,rfl,by kernel_rfl,by kernel_rfl⟩⟩
def c_ref13_run:SCode :=
 .seq (.reg [⟨some 2,.mv (.c (.i .i64 0)),none⟩])
 (.seq (.reg [⟨some 3,.mv (.c (.i .i64 0)),none⟩])
 (.seq (.blk 0
 (.loop
 (.seq (.seq (.reg [⟨some 4,.mv (.t 3),none⟩,
 ⟨some 5,.mv (.t 0),none⟩,
 ⟨some 6,.lens (.t 5),none⟩,
 ⟨some 7,.bin .lss (.t 4) (.t 6),none⟩,
 ⟨some 8,.mv (.t 7),none⟩,
 ⟨some 9,.mv (.t 0),some (8,true)⟩,
 ⟨some 10,.mv (.t 3),some (8,true)⟩,
 ⟨some 11,.idx (.t 9) (.t 10),some (8,true)⟩,
 ⟨some 12,.call 70 [.t 11],some (8,true)⟩,
 ⟨some 13,.pick (.t 8) (.t 12) (.c (.b false)),none⟩])
 (.cond (.t 13)
 (.skip)
 (.exit 0)))
 (.blk 1
 (.reg [⟨some 14,.mv (.t 3),none⟩,
 ⟨some 15,.bin .add (.t 14) (.c (.i .i64 1)),none⟩,
 ⟨some 3,.mv (.t 15),none⟩])))))
 (.seq (.reg [⟨some 16,.mv (.t 3),none⟩,
 ⟨some 2,.mv (.t 16),none⟩])
 (.ret))))
theorem is_ref13_run:FnIs Tryz.prog 99 17 [.tmp 2] c_ref13_run:=⟨⟨_,_,Tryz.func99,rfl,rfl,by kernel_rfl,by kernel_rfl⟩⟩
def c_ref02_Decode:SCode :=
 .seq (.reg [⟨some 4,.mv (.c (.i .i64 0)),none⟩,
 ⟨some 5,.mv (.c (.i .i64 0)),none⟩,
 ⟨some 6,.mv (.c (.i .i64 0)),none⟩])
 (.seq (.seq (.reg [⟨some 11,.mv (.t 1),none⟩,
 ⟨some 12,.bin .lss (.t 11) (.c (.i .i64 0)),none⟩,
 ⟨some 13,.mv (.t 12),none⟩,
 ⟨some 14,.mv (.t 1),some (13,false)⟩,
 ⟨some 15,.mv (.t 0),some (13,false)⟩,
 ⟨some 16,.lens (.t 15),some (13,false)⟩,
 ⟨some 17,.bin .geq (.t 14) (.t 16),some (13,false)⟩,
 ⟨some 18,.pick (.t 13) (.c (.b true)) (.t 17),none⟩])
 (.cond (.t 18)
 (.seq (.reg [⟨some 4,.mv (.c (.i .i64 0)),none⟩,
 ⟨some 5,.mv (.c (.i .i64 0)),none⟩,
 ⟨some 6,.mv (.c (.i .i64 4)),none⟩])
 (.ret))
 (.skip)))
 (.seq (.seq (.reg [⟨some 7,.mv (.c (.i .i64 1)),none⟩])
 (.blk 0
 (.loop
 (.seq (.seq (.reg [⟨some 19,.mv (.t 7),none⟩,
 ⟨some 20,.bin .leq (.t 19) (.c (.i .i64 4)),none⟩,
 ⟨some 21,.mv (.t 20),none⟩,
 ⟨some 22,.mv (.t 1),some (21,true)⟩,
 ⟨some 23,.mv (.t 7),some (21,true)⟩,
 ⟨some 24,.bin .add (.t 22) (.t 23),some (21,true)⟩,
 ⟨some 25,.mv (.t 0),some (21,true)⟩,
 ⟨some 26,.lens (.t 25),some (21,true)⟩,
 ⟨some 27,.bin .leq (.t 24) (.t 26),some (21,true)⟩,
 ⟨some 28,.pick (.t 21) (.t 27) (.c (.b false)),none⟩])
 (.cond (.t 28)
 (.skip)
 (.exit 0)))
 (.seq (.blk 1
 (.seq (.reg [⟨some 31,.mv (.t 0),none⟩,
 ⟨some 32,.mv (.t 1),none⟩,
 ⟨some 33,.mv (.t 1),none⟩,
 ⟨some 34,.mv (.t 7),none⟩,
 ⟨some 35,.bin .add (.t 33) (.t 34),none⟩,
 ⟨some 36,.slcs (.t 31) (some (.t 32)) (some (.t 35)),none⟩,
 ⟨some 37,.call 127 [.t 36],none⟩,
 ⟨some 8,.mv (.t 37),none⟩])
 (.seq (.reg [⟨some 39,.mv (.t 8),none⟩,
 ⟨some 40,.call 126 [.t 39],none⟩,
 ⟨some 38,.mv (.t 40),none⟩,
 ⟨some 41,.ext (.t 38) 0,none⟩,
 ⟨some 42,.ext (.t 38) 1,none⟩,
 ⟨some 9,.mv (.t 41),none⟩,
 ⟨some 10,.mv (.t 42),none⟩])
 (.seq (.reg [⟨some 43,.mv (.t 10),none⟩,
 ⟨some 44,.bin .eql (.t 43) (.c (.i .i64 0)),none⟩,
 ⟨some 45,.mv (.t 44),none⟩,
 ⟨some 46,.mv (.t 9),some (45,true)⟩,
 ⟨some 47,.mv (.t 0),some (45,true)⟩,
 ⟨some 48,.mv (.t 1),some (45,true)⟩,
 ⟨some 49,.mv (.t 1),some (45,true)⟩,
 ⟨some 50,.mv (.t 7),some (45,true)⟩,
 ⟨some 51,.bin .add (.t 49) (.t 50),some (45,true)⟩,
 ⟨some 52,.slcs (.t 47) (some (.t 48)) (some (.t 51)),some (45,true)⟩,
 ⟨some 53,.bin .eql (.t 46) (.t 52),some (45,true)⟩,
 ⟨some 54,.pick (.t 45) (.t 53) (.c (.b false)),none⟩])
 (.cond (.t 54)
 (.seq (.reg [⟨some 55,.mv (.t 8),none⟩,
 ⟨some 56,.mv (.t 1),none⟩,
 ⟨some 57,.mv (.t 7),none⟩,
 ⟨some 58,.bin .add (.t 56) (.t 57),none⟩,
 ⟨some 4,.mv (.t 55),none⟩,
 ⟨some 5,.mv (.t 58),none⟩,
 ⟨some 6,.mv (.c (.i .i64 0)),none⟩])
 (.ret))
 (.skip))))))
 (.reg [⟨some 29,.mv (.t 7),none⟩,
 ⟨some 30,.bin .add (.t 29) (.c (.i .i64 1)),none⟩,
 ⟨some 7,.mv (.t 30),none⟩]))))))
 (.seq (.reg [⟨some 4,.mv (.c (.i .i64 0)),none⟩,
 ⟨some 5,.mv (.c (.i .i64 0)),none⟩,
 ⟨some 6,.mv (.c (.i .i64 7)),none⟩])
 (.ret))))
theorem is_ref02_Decode:FnIs Tryz.prog 101 59 [.tmp 4,.tmp 5,.tmp 6] c_ref02_Decode:=⟨⟨_,_,Tryz.func101,rfl,rfl,by kernel_rfl,by kernel_rfl⟩⟩
def c_slices_Index__string_string:SCode :=
 .seq (.reg [⟨some 4,.mv (.c (.i .i64 0)),none⟩])
 (.seq (.seq (.reg [⟨some 6,.mv (.t 0),none⟩,
 ⟨some 7,.lenr (.t 6),none⟩,
 ⟨some 8,.mv (.c (.i .i64 0)),none⟩])
 (.blk 0
 (.loop
 (.seq (.reg [⟨some 9,.bin .lss (.t 8) (.t 7),none⟩])
 (.seq (.cond (.t 9)
 (.skip)
 (.exit 0))
 (.seq (.blk 1
 (.seq (.reg [⟨some 10,.mv (.t 8),none⟩,
 ⟨some 5,.mv (.t 10),none⟩])
 (.seq (.reg [⟨some 11,.mv (.t 1),none⟩,
 ⟨some 12,.mv (.t 0),none⟩,
 ⟨some 13,.mv (.t 5),none⟩,
 ⟨some 14,.iad 1 (.t 12) (.t 13),none⟩,
 ⟨some 15,.load1 (.t 14),none⟩,
 ⟨some 16,.bin .eql (.t 11) (.t 15),none⟩])
 (.cond (.t 16)
 (.seq (.reg [⟨some 17,.mv (.t 5),none⟩,
 ⟨some 4,.mv (.t 17),none⟩])
 (.ret))
 (.skip)))))
 (.reg [⟨some 18,.bin .add (.t 8) (.c (.i .i64 1)),none⟩,
 ⟨some 8,.mv (.t 18),none⟩])))))))
 (.seq (.reg [⟨some 4,.mv (.c (.i .i64 (-1))),none⟩])
 (.ret)))
theorem is_slices_Index__string_string:FnIs Tryz.prog 102 19 [.tmp 4] c_slices_Index__string_string:=⟨⟨_,_,Tryz.func102,rfl,rfl,by kernel_rfl,by kernel_rfl⟩⟩
def c_jsondoc_clone:SCode :=
 .seq (.reg [⟨some 1,.box 30 (.t 0),none⟩,
 ⟨some 2,.alloc 30 [.i .i64 0,.s [],.nil,.nil],none⟩])
 (.seq (.reg [⟨some 4,.fad 2 (.t 1),none⟩,
 ⟨some 5,.load1 (.t 4),none⟩,
 ⟨some 6,.call 128 [.t 5],none⟩,
 ⟨some 7,.fad 2 (.t 1),none⟩,
 ⟨none,.store 1 (.t 7) (.t 6),none⟩])
 (.seq (.reg [⟨some 8,.fad 3 (.t 1),none⟩,
 ⟨some 9,.load1 (.t 8),none⟩,
 ⟨some 10,.call 129 [.t 9],none⟩,
 ⟨some 11,.fad 3 (.t 1),none⟩,
 ⟨none,.store 1 (.t 11) (.t 10),none⟩])
 (.seq (.seq (.reg [⟨some 12,.fad 3 (.t 1),none⟩,
 ⟨some 13,.load1 (.t 12),none⟩,
 ⟨some 14,.lenr (.t 13),none⟩,
 ⟨some 15,.mv (.c (.i .i64 0)),none⟩])
 (.blk 0
 (.loop
 (.seq (.reg [⟨some 16,.bin .lss (.t 15) (.t 14),none⟩])
 (.seq (.cond (.t 16)
 (.skip)
 (.exit 0))
 (.seq (.blk 1
 (.seq (.reg [⟨some 17,.mv (.t 15),none⟩,
 ⟨some 3,.mv (.t 17),none⟩])
 (.drw [⟨some 18,.fad 3 (.t 1),none⟩,
 ⟨some 19,.load1 (.t 18),none⟩,
 ⟨some 20,.mv (.t 3),none⟩,
 ⟨some 21,.fad 3 (.t 1),none⟩,
 ⟨some 22,.load1 (.t 21),none⟩,
 ⟨some 23,.mv (.t 3),none⟩,
 ⟨some 24,.iad 4 (.t 22) (.t 23),none⟩,
 ⟨some 25,.loadn 4 (.t 24),none⟩,
 ⟨some 26,.call 103 [.t 25],none⟩,
 ⟨some 27,.iad 4 (.t 19) (.t 20),none⟩,
 ⟨none,.store 4 (.t 27) (.t 26),none⟩] 10 [])))
 (.reg [⟨some 28,.bin .add (.t 15) (.c (.i .i64 1)),none⟩,
 ⟨some 15,.mv (.t 28),none⟩])))))))
 (.seq (.reg [⟨some 29,.loadn 4 (.t 1),none⟩,
 ⟨none,.store 4 (.t 2) (.t 29),none⟩])
 (.ret)))))
theorem is_jsondoc_clone:FnIs Tryz.prog 103 30 [.celln 2 4] c_jsondoc_clone:=⟨⟨_,_,Tryz.func103,rfl,rfl,by kernel_rfl,by kernel_rfl⟩⟩
def c_did_isMethod:SCode :=
 .seq (.reg [⟨some 2,.mv (.c (.b false)),none⟩])
 (.seq (.seq (.reg [⟨some 4,.mv (.t 0),none⟩,
 ⟨some 5,.lens (.t 4),none⟩,
 ⟨some 6,.mv (.c (.i .i64 0)),none⟩])
 (.blk 0
 (.loop
 (.seq (.reg [⟨some 7,.bin .lss (.t 6) (.t 5),none⟩])
 (.seq (.cond (.t 7)
 (.skip)
 (.exit 0))
 (.seq (.blk 1
 (.seq (.reg [⟨some 8,.mv (.t 6),none⟩,
 ⟨some 3,.mv (.t 8),none⟩])
 (.seq (.reg [⟨some 9,.mv (.t 0),none⟩,
 ⟨some 10,.mv (.t 3),none⟩,
 ⟨some 11,.idx (.t 9) (.t 10),none⟩,
 ⟨some 12,.call 98 [.t 11],none⟩,
 ⟨some 13,.not (.t 12),none⟩,
 ⟨some 14,.mv (.t 13),none⟩,
 ⟨some 15,.mv (.t 0),some (14,true)⟩,
 ⟨some 16,.mv (.t 3),some (14,true)⟩,
 ⟨some 17,.idx (.t 15) (.t 16),some (14,true)⟩,
 ⟨some 18,.bin .lss (.t 17) (.c (.i .u8 97)),some (14,true)⟩,
 ⟨some 19,.mv (.t 18),some (14,true)⟩,
 ⟨some 20,.mv (.t 0),some (19,false)⟩,
 ⟨some 21,.mv (.t 3),some (19,false)⟩,
 ⟨some 22,.idx (.t 20) (.t 21),some (19,false)⟩,
 ⟨some 23,.bin .gtr (.t 22) (.c (.i .u8 122)),some (19,false)⟩,
 ⟨some 24,.pick (.t 19) (.c (.b true)) (.t 23),some (14,true)⟩,
 ⟨some 25,.pick (.t 14) (.t 24) (.c (.b false)),none⟩])
 (.cond (.t 25)
 (.seq (.reg [⟨some 2,.mv (.c (.b false)),none⟩])
 (.ret))
 (.skip)))))
 (.reg [⟨some 26,.bin .add (.t 6) (.c (.i .i64 1)),none⟩,
 ⟨some 6,.mv (.t 26),none⟩])))))))
 (.seq (.reg [⟨some 27,.mv (.t 0),none⟩,
 ⟨some 28,.bin .neq (.t 27) (.c (.s [])),none⟩,
 ⟨some 2,.mv (.t 28),none⟩])
 (.ret)))
theorem is_did_isMethod:FnIs Tryz.prog 104 29 [.tmp 2] c_did_isMethod:=⟨⟨_,_,Tryz.func104,rfl,rfl,by kernel_rfl,by kernel_rfl⟩⟩
def c_did_parseID:SCode :=
 .seq (.reg [⟨some 2,.mv (.c (.s [])),none⟩,
 ⟨some 3,.mv (.c (.i .i64 0)),none⟩])
 (.seq (.seq (.reg [⟨some 10,.mv (.t 0),none⟩,
 ⟨some 11,.call 12 [.t 10],none⟩,
 ⟨some 9,.mv (.t 11),none⟩,
 ⟨some 12,.ext (.t 9) 0,none⟩,
 ⟨some 13,.ext (.t 9) 1,none⟩,
 ⟨some 4,.mv (.t 12),none⟩,
 ⟨some 5,.mv (.t 13),none⟩])
 (.seq (.reg [⟨some 14,.mv (.t 5),none⟩,
 ⟨some 15,.bin .neq (.t 14) (.c (.i .i64 0)),none⟩])
 (.cond (.t 15)
 (.seq (.reg [⟨some 16,.mv (.t 5),none⟩,
 ⟨some 2,.mv (.c (.s [])),none⟩,
 ⟨some 3,.mv (.t 16),none⟩])
 (.ret))
 (.skip))))
 (.seq (.seq (.reg [⟨some 17,.mv (.t 0),none⟩,
 ⟨some 18,.lens (.t 17),none⟩,
 ⟨some 19,.mv (.c (.i .i64 0)),none⟩])
 (.blk 0
 (.loop
 (.seq (.reg [⟨some 20,.bin .lss (.t 19) (.t 18),none⟩])
 (.seq (.cond (.t 20)
 (.skip)
 (.exit 0))
 (.seq (.blk 1
 (.seq (.reg [⟨some 21,.mv (.t 19),none⟩,
 ⟨some 6,.mv (.t 21),none⟩])
 (.seq (.reg [⟨some 22,.mv (.t 0),none⟩,
 ⟨some 23,.mv (.t 6),none⟩,
 ⟨some 24,.idx (.t 22) (.t 23),none⟩,
 ⟨some 25,.bin .neq (.t 24) (.c (.i .u8 37)),none⟩,
 ⟨some 26,.mv (.t 25),none⟩,
 ⟨some 27,.mv (.t 0),some (26,true)⟩,
 ⟨some 28,.mv (.t 6),some (26,true)⟩,
 ⟨some 29,.idx (.t 27) (.t 28),some (26,true)⟩,
 ⟨some 30,.call 130 [.t 29],some (26,true)⟩,
 ⟨some 31,.not (.t 30),some (26,true)⟩,
 ⟨some 32,.pick (.t 26) (.t 31) (.c (.b false)),none⟩])
 (.cond (.t 32)
 (.seq (.reg [⟨some 2,.mv (.c (.s [])),none⟩,
 ⟨some 3,.mv (.c (.i .i64 1)),none⟩])
 (.ret))
 (.skip)))))
 (.reg [⟨some 33,.bin .add (.t 19) (.c (.i .i64 1)),none⟩,
 ⟨some 19,.mv (.t 33),none⟩])))))))
 (.seq (.seq (.reg [⟨some 34,.mv (.t 0),none⟩,
 ⟨some 35,.bin .eql (.t 34) (.c (.s [])),none⟩,
 ⟨some 36,.mv (.t 35),none⟩,
 ⟨some 37,.mv (.t 0),some (36,false)⟩,
 ⟨some 38,.mv (.t 0),some (36,false)⟩,
 ⟨some 39,.lens (.t 38),some (36,false)⟩,
 ⟨some 40,.bin .sub (.t 39) (.c (.i .i64 1)),some (36,false)⟩,
 ⟨some 41,.idx (.t 37) (.t 40),some (36,false)⟩,
 ⟨some 42,.bin .eql (.t 41) (.c (.i .u8 58)),some (36,false)⟩,
 ⟨some 43,.pick (.t 36) (.c (.b true)) (.t 42),none⟩])
 (.cond (.t 43)
 (.seq (.reg [⟨some 2,.mv (.c (.s [])),none⟩,
 ⟨some 3,.mv (.c (.i .i64 3)),none⟩])
 (.ret))
 (.skip)))
 (.seq (.reg [⟨some 45,.mv (.t 0),none⟩,
 ⟨some 46,.call 86 [.t 45,.c (.s [46,45,95,58])],none⟩,
 ⟨some 44,.mv (.t 46),none⟩,
 ⟨some 47,.ext (.t 44) 0,none⟩,
 ⟨some 48,.ext (.t 44) 1,none⟩,
 ⟨some 7,.mv (.t 47),none⟩,
 ⟨some 8,.mv (.t 48),none⟩])
 (.seq (.seq (.reg [⟨some 49,.mv (.t 8),none⟩,
 ⟨some 50,.bin .neq (.t 49) (.c (.i .i64 0)),none⟩])
 (.cond (.t 50)
 (.seq (.reg [⟨some 51,.mv (.t 8),none⟩,
 ⟨some 2,.mv (.c (.s [])),none⟩,
 ⟨some 3,.mv (.t 51),none⟩])
 (.ret))
 (.skip)))
 (.seq (.reg [⟨some 52,.mv (.t 7),none⟩,
 ⟨some 53,.call 131 [.t 52,.c (.s [126]),.c (.s [37,55,69])],none⟩,
 ⟨some 2,.mv (.t 53),none⟩,
 ⟨some 3,.mv (.c (.i .i64 0)),none⟩])
 (.ret)))))))
theorem is_did_parseID:FnIs Tryz.prog 105 54 [.tmp 2,.tmp 3] c_did_parseID:=⟨⟨_,_,Tryz.func105,rfl,rfl,by kernel_rfl,by kernel_rfl⟩⟩
def c_did_Resolve:SCode :=
 .seq (.reg [⟨some 2,.box 37 (.t 0),none⟩,
 ⟨some 4,.alloc 39 [.s [],.s [],.s [],.s [],.s [],.b false,.b false],none⟩,
 ⟨some 5,.mv (.c (.i .i64 0)),none⟩])
 (.seq (.blk 0
 (.seq (.reg [⟨some 7,.mv (.t 1),none⟩,
 ⟨some 8,.call 117 [.t 7,.c (.s [100,105,100,58])],none⟩,
 ⟨some 6,.mv (.t 8),none⟩])
 (.cond (.t 6)
 (.seq (.reg [⟨some 9,.mv (.t 1),none⟩,
 ⟨some 10,.call 132 [.t 9],none⟩,
 ⟨some 11,.ext (.t 10) 0,none⟩,
 ⟨some 12,.ext (.t 10) 1,none⟩,
 ⟨none,.store 7 (.t 4) (.t 11),none⟩,
 ⟨some 5,.mv (.t 12),none⟩])
 (.ret))
 (.seq (.reg [⟨some 14,.mv (.t 1),none⟩,
 ⟨some 15,.bin .eql (.t 14) (.c (.s [])),none⟩,
 ⟨some 16,.mv (.t 15),none⟩,
 ⟨some 17,.mv (.t 1),some (16,false)⟩,
 ⟨some 18,.idx (.t 17) (.c (.i .i64 0)),some (16,false)⟩,
 ⟨some 19,.call 79 [.c (.s [47,63,35]),.t 18],some (16,false)⟩,
 ⟨some 20,.bin .geq (.t 19) (.c (.i .i64 0)),some (16,false)⟩,
 ⟨some 21,.pick (.t 16) (.c (.b true)) (.t 20),none⟩,
 ⟨some 13,.mv (.t 21),none⟩])
 (.cond (.t 13)
 (.seq (.reg [⟨some 22,.loadn 2 (.t 2),none⟩,
 ⟨some 23,.call 23 [.t 22],none⟩,
 ⟨some 24,.mv (.t 1),none⟩,
 ⟨some 25,.bin .add (.t 23) (.t 24),none⟩,
 ⟨some 26,.call 132 [.t 25],none⟩,
 ⟨some 27,.ext (.t 26) 0,none⟩,
 ⟨some 28,.ext (.t 26) 1,none⟩,
 ⟨none,.store 7 (.t 4) (.t 27),none⟩,
 ⟨some 5,.mv (.t 28),none⟩])
 (.ret))
 (.skip))))))
 (.seq (.reg [⟨some 29,.build [.s [],.s [],.s [],.s [],.s [],.b false,.b false] [],none⟩,
 ⟨none,.store 7 (.t 4) (.t 29),none⟩,
 ⟨some 5,.mv (.c (.i .i64 6)),none⟩])
 (.ret)))
theorem is_did_Resolve:FnIs Tryz.prog 106 30 [.celln 4 7,.tmp 5] c_did_Resolve:=⟨⟨_,_,Tryz.func106,rfl,rfl,by kernel_rfl,by kernel_rfl⟩⟩
def c_did_Format:SCode :=
 .seq (.reg [⟨some 1,.box 39 (.t 0),none⟩,
 ⟨some 2,.mv (.c (.s [])),none⟩])
 (.seq (.drw [⟨some 4,.fad 0 (.t 1),none⟩,
 ⟨some 5,.loadn 2 (.t 4),none⟩,
 ⟨some 6,.call 23 [.t 5],none⟩,
 ⟨some 7,.fad 2 (.t 1),none⟩,
 ⟨some 8,.load1 (.t 7),none⟩,
 ⟨some 9,.bin .add (.t 6) (.t 8),none⟩,
 ⟨some 3,.mv (.t 9),none⟩] 7 [])
 (.seq (.seq (.reg [⟨some 10,.fad 5 (.t 1),none⟩,
 ⟨some 11,.load1 (.t 10),none⟩])
 (.cond (.t 11)
 (.reg [⟨some 12,.mv (.t 3),none⟩,
 ⟨some 13,.fad 3 (.t 1),none⟩,
 ⟨some 14,.load1 (.t 13),none⟩,
 ⟨some 15,.bin .add (.c (.s [63])) (.t 14),none⟩,
 ⟨some 16,.bin .add (.t 12) (.t 15),none⟩,
 ⟨some 3,.mv (.t 16),none⟩])
 (.skip)))
 (.seq (.seq (.reg [⟨some 17,.fad 6 (.t 1),none⟩,
 ⟨some 18,.load1 (.t 17),none⟩])
 (.cond (.t 18)
 (.reg [⟨some 19,.mv (.t 3),none⟩,
 ⟨some 20,.fad 4 (.t 1),none⟩,
 ⟨some 21,.load1 (.t 20),none⟩,
 ⟨some 22,.bin .add (.c (.s [35])) (.t 21),none⟩,
 ⟨some 23,.bin .add (.t 19) (.t 22),none⟩,
 ⟨some 3,.mv (.t 23),none⟩])
 (.skip)))
 (.seq (.reg [⟨some 24,.mv (.t 3),none⟩,
 ⟨some 2,.mv (.t 24),none⟩])
 (.ret)))))
theorem is_did_Format:FnIs Tryz.prog 107 25 [.tmp 2] c_did_Format:=⟨⟨_,_,Tryz.func107,rfl,rfl,by kernel_rfl,by kernel_rfl⟩⟩
def c_ascii_IsAlpha:SCode :=
 .seq (.reg [⟨some 2,.mv (.c (.b false)),none⟩])
 (.seq (.reg [⟨some 3,.mv (.t 0),none⟩,
 ⟨some 4,.bin .geq (.t 3) (.c (.i .u8 97)),none⟩,
 ⟨some 5,.mv (.t 4),none⟩,
 ⟨some 6,.mv (.t 0),some (5,true)⟩,
 ⟨some 7,.bin .leq (.t 6) (.c (.i .u8 122)),some (5,true)⟩,
 ⟨some 8,.pick (.t 5) (.t 7) (.c (.b false)),none⟩,
 ⟨some 9,.mv (.t 8),none⟩,
 ⟨some 10,.mv (.t 0),some (9,false)⟩,
 ⟨some 11,.call 120 [.t 10],some (9,false)⟩,
 ⟨some 12,.pick (.t 9) (.c (.b true)) (.t 11),none⟩,
 ⟨some 2,.mv (.t 12),none⟩])
 (.ret))
theorem is_ascii_IsAlpha:FnIs Tryz.prog 108 13 [.tmp 2] c_ascii_IsAlpha:=⟨⟨_,_,Tryz.func108,rfl,rfl,by kernel_rfl,by kernel_rfl⟩⟩
def c_host_Host:SCode :=
 .seq (.reg [⟨some 2,.mv (.c (.s [])),none⟩,
 ⟨some 3,.mv (.c (.i .i64 0)),none⟩])
 (.seq (.blk 0
 (.seq (.reg [⟨some 5,.mv (.t 0),none⟩,
 ⟨some 6,.bin .eql (.t 5) (.c (.s [])),none⟩,
 ⟨some 4,.mv (.t 6),none⟩])
 (.cond (.t 4)
 (.seq (.reg [⟨some 2,.mv (.c (.s [])),none⟩,
 ⟨some 3,.mv (.c (.i .i64 3)),none⟩])
 (.ret))
 (.seq (.reg [⟨some 8,.mv (.t 0),none⟩,
 ⟨some 9,.lens (.t 8),none⟩,
 ⟨some 10,.bin .gtr (.t 9) (.c (.i .i64 253)),none⟩,
 ⟨some 7,.mv (.t 10),none⟩])
 (.cond (.t 7)
 (.seq (.reg [⟨some 2,.mv (.c (.s [])),none⟩,
 ⟨some 3,.mv (.c (.i .i64 5)),none⟩])
 (.ret))
 (.seq (.reg [⟨some 12,.mv (.t 0),none⟩,
 ⟨some 13,.call 134 [.t 12],none⟩,
 ⟨some 14,.not (.t 13),none⟩,
 ⟨some 15,.mv (.t 14),none⟩,
 ⟨some 16,.mv (.t 0),some (15,true)⟩,
 ⟨some 17,.call 135 [.t 16],some (15,true)⟩,
 ⟨some 18,.not (.t 17),some (15,true)⟩,
 ⟨some 19,.pick (.t 15) (.t 18) (.c (.b false)),none⟩,
 ⟨some 11,.mv (.t 19),none⟩])
 (.cond (.t 11)
 (.seq (.reg [⟨some 2,.mv (.c (.s [])),none⟩,
 ⟨some 3,.mv (.c (.i .i64 50)),none⟩])
 (.ret))
 (.skip))))))))
 (.seq (.reg [⟨some 20,.mv (.t 0),none⟩,
 ⟨some 21,.call 136 [.t 20],none⟩,
 ⟨some 2,.mv (.t 21),none⟩,
 ⟨some 3,.mv (.c (.i .i64 0)),none⟩])
 (.ret)))
theorem is_host_Host:FnIs Tryz.prog 111 22 [.tmp 2,.tmp 3] c_host_Host:=⟨⟨_,_,Tryz.func111,rfl,rfl,by kernel_rfl,by kernel_rfl⟩⟩
def c_host_Port:SCode :=
 .seq (.reg [⟨some 2,.mv (.c (.i .i64 0)),none⟩,
 ⟨some 3,.mv (.c (.i .i64 0)),none⟩])
 (.seq (.reg [⟨some 7,.mv (.t 0),none⟩,
 ⟨some 8,.call 137 [.t 7,.c (.i .u64 65535)],none⟩,
 ⟨some 6,.mv (.t 8),none⟩,
 ⟨some 9,.ext (.t 6) 0,none⟩,
 ⟨some 10,.ext (.t 6) 1,none⟩,
 ⟨some 4,.mv (.t 9),none⟩,
 ⟨some 5,.mv (.t 10),none⟩])
 (.seq (.seq (.reg [⟨some 11,.mv (.t 5),none⟩,
 ⟨some 12,.bin .neq (.t 11) (.c (.i .i64 0)),none⟩,
 ⟨some 13,.mv (.t 12),none⟩,
 ⟨some 14,.mv (.t 4),some (13,false)⟩,
 ⟨some 15,.bin .eql (.t 14) (.c (.i .u64 0)),some (13,false)⟩,
 ⟨some 16,.pick (.t 13) (.c (.b true)) (.t 15),none⟩])
 (.cond (.t 16)
 (.seq (.reg [⟨some 2,.mv (.c (.i .i64 0)),none⟩,
 ⟨some 3,.mv (.c (.i .i64 51)),none⟩])
 (.ret))
 (.skip)))
 (.seq (.reg [⟨some 17,.mv (.t 4),none⟩,
 ⟨some 18,.cvi .i64 (.t 17),none⟩,
 ⟨some 2,.mv (.t 18),none⟩,
 ⟨some 3,.mv (.c (.i .i64 0)),none⟩])
 (.ret))))
theorem is_host_Port:FnIs Tryz.prog 112 19 [.tmp 2,.tmp 3] c_host_Port:=⟨⟨_,_,Tryz.func112,rfl,rfl,by kernel_rfl,by kernel_rfl⟩⟩
def c_percent_Normalize_1:SCode :=
 .seq (.reg [⟨some 7,.mv (.c .nil),none⟩,
 ⟨some 8,.mv (.c (.i .i64 0)),none⟩])
 (.seq (.blk 0
 (.seq (.reg [⟨some 10,.mv (.t 2),none⟩,
 ⟨some 11,.mv (.t 10),none⟩,
 ⟨some 12,.mv (.t 1),some (11,true)⟩,
 ⟨some 13,.call 114 [.t 12],some (11,true)⟩,
 ⟨some 14,.not (.t 13),some (11,true)⟩,
 ⟨some 15,.pick (.t 11) (.t 14) (.c (.b false)),none⟩,
 ⟨some 9,.mv (.t 15),none⟩])
 (.cond (.t 9)
 (.seq (.reg [⟨some 16,.mv (.t 0),none⟩,
 ⟨some 17,.mv (.t 1),none⟩,
 ⟨some 18,.call 115 [.t 16,.t 17],none⟩,
 ⟨some 7,.mv (.t 18),none⟩,
 ⟨some 8,.mv (.c (.i .i64 0)),none⟩])
 (.ret))
 (.seq (.reg [⟨some 20,.mv (.t 1),none⟩,
 ⟨some 21,.load1 (.t 3),none⟩,
 ⟨some 22,.call 116 [.t 20,.t 21],none⟩,
 ⟨some 19,.mv (.t 22),none⟩])
 (.cond (.t 19)
 (.seq (.reg [⟨some 23,.mv (.t 0),none⟩,
 ⟨some 24,.mv (.t 1),none⟩,
 ⟨some 25,.bslice 1 [.i .u8 0] [(0,(1,.t 24))],none⟩,
 ⟨some 26,.app 5 1 1 (.t 23) (.t 25),none⟩,
 ⟨some 7,.mv (.t 26),none⟩,
 ⟨some 8,.mv (.c (.i .i64 0)),none⟩])
 (.ret))
 (.skip))))))
 (.seq (.reg [⟨some 27,.mv (.t 0),none⟩,
 ⟨some 7,.mv (.t 27),none⟩,
 ⟨some 8,.mv (.c (.i .i64 1)),none⟩])
 (.ret)))
theorem is_percent_Normalize_1:FnIs Tryz.prog 113 28 [.tmp 7,.tmp 8] c_percent_Normalize_1:=⟨⟨_,_,Tryz.func113,rfl,rfl,by kernel_rfl,by kernel_rfl⟩⟩
def c_ascii_IsUnreserved:SCode :=
 .seq (.reg [⟨some 2,.mv (.c (.b false)),none⟩])
 (.seq (.reg [⟨some 3,.mv (.t 0),none⟩,
 ⟨some 4,.call 138 [.t 3],none⟩,
 ⟨some 5,.mv (.t 4),none⟩,
 ⟨some 6,.mv (.t 0),some (5,false)⟩,
 ⟨some 7,.call 139 [.t 6,.c (.s [45,46,95,126])],some (5,false)⟩,
 ⟨some 8,.pick (.t 5) (.c (.b true)) (.t 7),none⟩,
 ⟨some 2,.mv (.t 8),none⟩])
 (.ret))
theorem is_ascii_IsUnreserved:FnIs Tryz.prog 114 9 [.tmp 2] c_ascii_IsUnreserved:=⟨⟨_,_,Tryz.func114,rfl,rfl,by kernel_rfl,by kernel_rfl⟩⟩
def c_percent_appendEscape:SCode :=
 .seq (.reg [⟨some 4,.mv (.c .nil),none⟩])
 (.seq (.drw [⟨some 5,.mv (.t 0),none⟩,
 ⟨some 6,.mv (.t 1),none⟩,
 ⟨some 7,.pu .shr [.t 6,.c (.i .u64 4)],none⟩,
 ⟨some 8,.idx (.c (.s [48,49,50,51,52,53,54,55,56,57,65,66,67,68,69,70])) (.t 7),none⟩,
 ⟨some 9,.mv (.t 1),none⟩,
 ⟨some 10,.pu (.bits .and) [.t 9,.c (.i .u8 15)],none⟩,
 ⟨some 11,.idx (.c (.s [48,49,50,51,52,53,54,55,56,57,65,66,67,68,69,70])) (.t 10),none⟩,
 ⟨some 12,.bslice 3 [.i .u8 0,.i .u8 0,.i .u8 0] [(0,(1,.c (.i .u8 37))),(1,(1,.t 8)),(2,(1,.t 11))],none⟩,
 ⟨some 13,.app 5 1 1 (.t 5) (.t 12),none⟩,
 ⟨some 4,.mv (.t 13),none⟩] 8 [])
 (.ret))
theorem is_percent_appendEscape:FnIs Tryz.prog 115 14 [.tmp 4] c_percent_appendEscape:=⟨⟨_,_,Tryz.func115,rfl,rfl,by kernel_rfl,by kernel_rfl⟩⟩
def c_percent_isPlain:SCode :=
 .seq (.reg [⟨some 4,.mv (.c (.b false)),none⟩])
 (.seq (.reg [⟨some 5,.mv (.t 0),none⟩,
 ⟨some 6,.call 114 [.t 5],none⟩,
 ⟨some 7,.mv (.t 6),none⟩,
 ⟨some 8,.mv (.t 0),some (7,false)⟩,
 ⟨some 9,.bin .neq (.t 8) (.c (.i .u8 37)),some (7,false)⟩,
 ⟨some 10,.mv (.t 9),some (7,false)⟩,
 ⟨some 11,.mv (.t 1),some (10,true)⟩,
 ⟨some 12,.mv (.t 0),some (10,true)⟩,
 ⟨some 13,.call 79 [.t 11,.t 12],some (10,true)⟩,
 ⟨some 14,.bin .geq (.t 13) (.c (.i .i64 0)),some (10,true)⟩,
 ⟨some 15,.pick (.t 10) (.t 14) (.c (.b false)),some (7,false)⟩,
 ⟨some 16,.pick (.t 7) (.c (.b true)) (.t 15),none⟩,
 ⟨some 4,.mv (.t 16),none⟩])
 (.ret))
theorem is_percent_isPlain:FnIs Tryz.prog 116 17 [.tmp 4] c_percent_isPlain:=⟨⟨_,_,Tryz.func116,rfl,rfl,by kernel_rfl,by kernel_rfl⟩⟩
def c_uri_withoutLast:SCode :=
 .seq (.reg [⟨some 2,.mv (.c .nil),none⟩])
 (.seq (.seq (.reg [⟨some 4,.mv (.t 0),none⟩,
 ⟨some 5,.lenr (.t 4),none⟩,
 ⟨some 6,.bin .sub (.t 5) (.c (.i .i64 1)),none⟩,
 ⟨some 3,.mv (.t 6),none⟩])
 (.blk 0
 (.loop
 (.seq (.seq (.reg [⟨some 7,.mv (.t 3),none⟩,
 ⟨some 8,.bin .geq (.t 7) (.c (.i .i64 0)),none⟩])
 (.cond (.t 8)
 (.skip)
 (.exit 0)))
 (.seq (.blk 1
 (.seq (.reg [⟨some 11,.mv (.t 0),none⟩,
 ⟨some 12,.mv (.t 3),none⟩,
 ⟨some 13,.iad 1 (.t 11) (.t 12),none⟩,
 ⟨some 14,.load1 (.t 13),none⟩,
 ⟨some 15,.bin .eql (.t 14) (.c (.i .u8 47)),none⟩])
 (.cond (.t 15)
 (.seq (.reg [⟨some 16,.mv (.t 0),none⟩,
 ⟨some 17,.mv (.t 3),none⟩,
 ⟨some 18,.trn 1 (.t 16) (.t 17),none⟩,
 ⟨some 2,.mv (.t 18),none⟩])
 (.ret))
 (.skip))))
 (.reg [⟨some 9,.mv (.t 3),none⟩,
 ⟨some 10,.bin .sub (.t 9) (.c (.i .i64 1)),none⟩,
 ⟨some 3,.mv (.t 10),none⟩]))))))
 (.seq (.reg [⟨some 19,.mv (.t 0),none⟩,
 ⟨some 20,.trn 1 (.t 19) (.c (.i .i64 0)),none⟩,
 ⟨some 2,.mv (.t 20),none⟩])
 (.ret)))
theorem is_uri_withoutLast:FnIs Tryz.prog 118 21 [.tmp 2] c_uri_withoutLast:=⟨⟨_,_,Tryz.func118,rfl,rfl,by kernel_rfl,by kernel_rfl⟩⟩
def c_ascii_isCapital:SCode :=
 .seq (.reg [⟨some 2,.mv (.c (.b false)),none⟩])
 (.seq (.reg [⟨some 3,.mv (.t 0),none⟩,
 ⟨some 4,.bin .geq (.t 3) (.c (.i .u8 65)),none⟩,
 ⟨some 5,.mv (.t 4),none⟩,
 ⟨some 6,.mv (.t 0),some (5,true)⟩,
 ⟨some 7,.bin .leq (.t 6) (.c (.i .u8 90)),some (5,true)⟩,
 ⟨some 8,.pick (.t 5) (.t 7) (.c (.b false)),none⟩,
 ⟨some 2,.mv (.t 8),none⟩])
 (.ret))
theorem is_ascii_isCapital:FnIs Tryz.prog 120 9 [.tmp 2] c_ascii_isCapital:=⟨⟨_,_,Tryz.func120,rfl,rfl,by kernel_rfl,by kernel_rfl⟩⟩
def c_ref13_unit:SCode :=
 .seq (.reg [⟨some 4,.mv (.c (.i .i64 0)),none⟩,
 ⟨some 5,.mv (.c (.b false)),none⟩])
 (.seq (.seq (.reg [⟨some 8,.mv (.t 1),none⟩,
 ⟨some 9,.bin .add (.t 8) (.c (.i .i64 6)),none⟩,
 ⟨some 10,.mv (.t 0),none⟩,
 ⟨some 11,.lens (.t 10),none⟩,
 ⟨some 12,.bin .gtr (.t 9) (.t 11),none⟩,
 ⟨some 13,.mv (.t 12),none⟩,
 ⟨some 14,.mv (.t 0),some (13,false)⟩,
 ⟨some 15,.mv (.t 1),some (13,false)⟩,
 ⟨some 16,.idx (.t 14) (.t 15),some (13,false)⟩,
 ⟨some 17,.bin .neq (.t 16) (.c (.i .u8 92)),some (13,false)⟩,
 ⟨some 18,.pick (.t 13) (.c (.b true)) (.t 17),none⟩,
 ⟨some 19,.mv (.t 18),none⟩,
 ⟨some 20,.mv (.t 0),some (19,false)⟩,
 ⟨some 21,.mv (.t 1),some (19,false)⟩,
 ⟨some 22,.bin .add (.t 21) (.c (.i .i64 1)),some (19,false)⟩,
 ⟨some 23,.idx (.t 20) (.t 22),some (19,false)⟩,
 ⟨some 24,.bin .neq (.t 23) (.c (.i .u8 117)),some (19,false)⟩,
 ⟨some 25,.pick (.t 19) (.c (.b true)) (.t 24),none⟩])
 (.cond (.t 25)
 (.seq (.reg [⟨some 4,.mv (.c (.i .i64 0)),none⟩,
 ⟨some 5,.mv (.c (.b false)),none⟩])
 (.ret))
 (.skip)))
 (.seq (.reg [⟨some 27,.mv (.t 0),none⟩,
 ⟨some 28,.mv (.t 1),none⟩,
 ⟨some 29,.bin .add (.t 28) (.c (.i .i64 2)),none⟩,
 ⟨some 30,.mv (.t 1),none⟩,
 ⟨some 31,.bin .add (.t 30) (.c (.i .i64 6)),none⟩,
 ⟨some 32,.slcs (.t 27) (some (.t 29)) (some (.t 31)),none⟩,
 ⟨some 33,.call 145 [.t 32,.c (.i .u64 65535)],none⟩,
 ⟨some 26,.mv (.t 33),none⟩,
 ⟨some 34,.ext (.t 26) 0,none⟩,
 ⟨some 35,.ext (.t 26) 1,none⟩,
 ⟨some 6,.mv (.t 34),none⟩,
 ⟨some 7,.mv (.t 35),none⟩])
 (.seq (.reg [⟨some 36,.mv (.t 6),none⟩,
 ⟨some 37,.cvi .i64 (.t 36),none⟩,
 ⟨some 38,.mv (.t 7),none⟩,
 ⟨some 39,.bin .eql (.t 38) (.c (.i .i64 0)),none⟩,
 ⟨some 4,.mv (.t 37),none⟩,
 ⟨some 5,.mv (.t 39),none⟩])
 (.ret))))
theorem is_ref13_unit:FnIs Tryz.prog 125 40 [.tmp 4,.tmp 5] c_ref13_unit:=⟨⟨_,_,Tryz.func125,rfl,rfl,by kernel_rfl,by kernel_rfl⟩⟩
def c_ref02_Encode:SCode :=
 .seq (.reg [⟨some 2,.mv (.c (.s [])),none⟩,
 ⟨some 3,.mv (.c (.i .i64 0)),none⟩])
 (.seq (.blk 0
 (.seq (.reg [⟨some 5,.mv (.t 0),none⟩,
 ⟨some 6,.call 146 [.t 5],none⟩,
 ⟨some 7,.not (.t 6),none⟩,
 ⟨some 4,.mv (.t 7),none⟩])
 (.cond (.t 4)
 (.seq (.reg [⟨some 2,.mv (.c (.s [])),none⟩,
 ⟨some 3,.mv (.c (.i .i64 4)),none⟩])
 (.ret))
 (.seq (.reg [⟨some 9,.mv (.t 0),none⟩,
 ⟨some 10,.bin .lss (.t 9) (.c (.i .i64 128)),none⟩,
 ⟨some 8,.mv (.t 10),none⟩])
 (.cond (.t 8)
 (.seq (.reg [⟨some 11,.mv (.t 0),none⟩,
 ⟨some 12,.cvi .u8 (.t 11),none⟩,
 ⟨some 13,.bslice 1 [.i .u8 0] [(0,(1,.t 12))],none⟩,
 ⟨some 14,.cvbs (.t 13),none⟩,
 ⟨some 2,.mv (.t 14),none⟩,
 ⟨some 3,.mv (.c (.i .i64 0)),none⟩])
 (.ret))
 (.seq (.reg [⟨some 16,.mv (.t 0),none⟩,
 ⟨some 17,.bin .lss (.t 16) (.c (.i .i64 2048)),none⟩,
 ⟨some 15,.mv (.t 17),none⟩])
 (.cond (.t 15)
 (.seq (.reg [⟨some 18,.mv (.t 0),none⟩,
 ⟨some 19,.pu .shr [.t 18,.c (.i .u64 6)],none⟩,
 ⟨some 20,.pu (.bits .or) [.c (.i .i64 192),.t 19],none⟩,
 ⟨some 21,.cvi .u8 (.t 20),none⟩,
 ⟨some 22,.mv (.t 0),none⟩,
 ⟨some 23,.pu (.bits .and) [.t 22,.c (.i .i64 63)],none⟩,
 ⟨some 24,.pu (.bits .or) [.c (.i .i64 128),.t 23],none⟩,
 ⟨some 25,.cvi .u8 (.t 24),none⟩,
 ⟨some 26,.bslice 2 [.i .u8 0,.i .u8 0] [(0,(1,.t 21)),(1,(1,.t 25))],none⟩,
 ⟨some 27,.cvbs (.t 26),none⟩,
 ⟨some 2,.mv (.t 27),none⟩,
 ⟨some 3,.mv (.c (.i .i64 0)),none⟩])
 (.ret))
 (.seq (.reg [⟨some 29,.mv (.t 0),none⟩,
 ⟨some 30,.bin .lss (.t 29) (.c (.i .i64 65536)),none⟩,
 ⟨some 28,.mv (.t 30),none⟩])
 (.cond (.t 28)
 (.seq (.reg [⟨some 31,.mv (.t 0),none⟩,
 ⟨some 32,.pu .shr [.t 31,.c (.i .u64 12)],none⟩,
 ⟨some 33,.pu (.bits .or) [.c (.i .i64 224),.t 32],none⟩,
 ⟨some 34,.cvi .u8 (.t 33),none⟩,
 ⟨some 35,.mv (.t 0),none⟩,
 ⟨some 36,.pu .shr [.t 35,.c (.i .u64 6)],none⟩,
 ⟨some 37,.pu (.bits .and) [.t 36,.c (.i .i64 63)],none⟩,
 ⟨some 38,.pu (.bits .or) [.c (.i .i64 128),.t 37],none⟩,
 ⟨some 39,.cvi .u8 (.t 38),none⟩,
 ⟨some 40,.mv (.t 0),none⟩,
 ⟨some 41,.pu (.bits .and) [.t 40,.c (.i .i64 63)],none⟩,
 ⟨some 42,.pu (.bits .or) [.c (.i .i64 128),.t 41],none⟩,
 ⟨some 43,.cvi .u8 (.t 42),none⟩,
 ⟨some 44,.bslice 3 [.i .u8 0,.i .u8 0,.i .u8 0] [(0,(1,.t 34)),(1,(1,.t 39)),(2,(1,.t 43))],none⟩,
 ⟨some 45,.cvbs (.t 44),none⟩,
 ⟨some 2,.mv (.t 45),none⟩,
 ⟨some 3,.mv (.c (.i .i64 0)),none⟩])
 (.ret))
 (.skip))))))))))
 (.seq (.reg [⟨some 46,.mv (.t 0),none⟩,
 ⟨some 47,.pu .shr [.t 46,.c (.i .u64 18)],none⟩,
 ⟨some 48,.pu (.bits .or) [.c (.i .i64 240),.t 47],none⟩,
 ⟨some 49,.cvi .u8 (.t 48),none⟩,
 ⟨some 50,.mv (.t 0),none⟩,
 ⟨some 51,.pu .shr [.t 50,.c (.i .u64 12)],none⟩,
 ⟨some 52,.pu (.bits .and) [.t 51,.c (.i .i64 63)],none⟩,
 ⟨some 53,.pu (.bits .or) [.c (.i .i64 128),.t 52],none⟩,
 ⟨some 54,.cvi .u8 (.t 53),none⟩,
 ⟨some 55,.mv (.t 0),none⟩,
 ⟨some 56,.pu .shr [.t 55,.c (.i .u64 6)],none⟩,
 ⟨some 57,.pu (.bits .and) [.t 56,.c (.i .i64 63)],none⟩,
 ⟨some 58,.pu (.bits .or) [.c (.i .i64 128),.t 57],none⟩,
 ⟨some 59,.cvi .u8 (.t 58),none⟩,
 ⟨some 60,.mv (.t 0),none⟩,
 ⟨some 61,.pu (.bits .and) [.t 60,.c (.i .i64 63)],none⟩,
 ⟨some 62,.pu (.bits .or) [.c (.i .i64 128),.t 61],none⟩,
 ⟨some 63,.cvi .u8 (.t 62),none⟩,
 ⟨some 64,.bslice 4 [.i .u8 0,.i .u8 0,.i .u8 0,.i .u8 0] [(0,(1,.t 49)),(1,(1,.t 54)),(2,(1,.t 59)),(3,(1,.t 63))],none⟩,
 ⟨some 65,.cvbs (.t 64),none⟩,
 ⟨some 2,.mv (.t 65),none⟩,
 ⟨some 3,.mv (.c (.i .i64 0)),none⟩])
 (.ret)))
theorem is_ref02_Encode:FnIs Tryz.prog 126 66 [.tmp 2,.tmp 3] c_ref02_Encode:=⟨⟨_,_,Tryz.func126,rfl,rfl,by kernel_rfl,by kernel_rfl⟩⟩
def c_ref02_value:SCode :=
 .seq (.reg [⟨some 2,.mv (.c (.i .i64 0)),none⟩])
 (.seq (.seq (.reg [⟨some 5,.mv (.t 0),none⟩,
 ⟨some 6,.lens (.t 5),none⟩,
 ⟨some 7,.bin .eql (.t 6) (.c (.i .i64 1)),none⟩])
 (.cond (.t 7)
 (.seq (.reg [⟨some 8,.mv (.t 0),none⟩,
 ⟨some 9,.idx (.t 8) (.c (.i .i64 0)),none⟩,
 ⟨some 10,.cvi .i64 (.t 9),none⟩,
 ⟨some 2,.mv (.t 10),none⟩])
 (.ret))
 (.skip)))
 (.seq (.drw [⟨some 11,.mv (.t 0),none⟩,
 ⟨some 12,.idx (.t 11) (.c (.i .i64 0)),none⟩,
 ⟨some 13,.cvi .i64 (.t 12),none⟩,
 ⟨some 14,.mv (.t 0),none⟩,
 ⟨some 15,.lens (.t 14),none⟩,
 ⟨some 16,.bin .sub (.c (.i .i64 7)) (.t 15),none⟩,
 ⟨some 17,.pu .shl [.c (.i .i64 1),.t 16],none⟩,
 ⟨some 18,.bin .sub (.t 17) (.c (.i .i64 1)),none⟩,
 ⟨some 19,.pu (.bits .and) [.t 13,.t 18],none⟩,
 ⟨some 3,.mv (.t 19),none⟩] 10 [])
 (.seq (.seq (.reg [⟨some 4,.mv (.c (.i .i64 1)),none⟩])
 (.blk 0
 (.loop
 (.seq (.seq (.reg [⟨some 20,.mv (.t 4),none⟩,
 ⟨some 21,.mv (.t 0),none⟩,
 ⟨some 22,.lens (.t 21),none⟩,
 ⟨some 23,.bin .lss (.t 20) (.t 22),none⟩])
 (.cond (.t 23)
 (.skip)
 (.exit 0)))
 (.seq (.blk 1
 (.reg [⟨some 26,.mv (.t 3),none⟩,
 ⟨some 27,.pu .shl [.t 26,.c (.i .u64 6)],none⟩,
 ⟨some 28,.mv (.t 0),none⟩,
 ⟨some 29,.mv (.t 4),none⟩,
 ⟨some 30,.idx (.t 28) (.t 29),none⟩,
 ⟨some 31,.cvi .i64 (.t 30),none⟩,
 ⟨some 32,.pu (.bits .and) [.t 31,.c (.i .i64 63)],none⟩,
 ⟨some 33,.pu (.bits .or) [.t 27,.t 32],none⟩,
 ⟨some 3,.mv (.t 33),none⟩]))
 (.reg [⟨some 24,.mv (.t 4),none⟩,
 ⟨some 25,.bin .add (.t 24) (.c (.i .i64 1)),none⟩,
 ⟨some 4,.mv (.t 25),none⟩]))))))
 (.seq (.reg [⟨some 34,.mv (.t 3),none⟩,
 ⟨some 2,.mv (.t 34),none⟩])
 (.ret)))))
theorem is_ref02_value:FnIs Tryz.prog 127 35 [.tmp 2] c_ref02_value:=⟨⟨_,_,Tryz.func127,rfl,rfl,by kernel_rfl,by kernel_rfl⟩⟩
def c_slices_Clone__string_string:SCode :=
 .seq (.reg [⟨some 2,.mv (.c .nil),none⟩])
 (.seq (.seq (.reg [⟨some 3,.mv (.t 0),none⟩,
 ⟨some 4,.pu (.snil false) [.t 3,.c .nil],none⟩])
 (.cond (.t 4)
 (.seq (.reg [⟨some 2,.mv (.c .nil),none⟩])
 (.ret))
 (.skip)))
 (.seq (.reg [⟨some 5,.mks 9 1 1 (.c (.i .i64 0)) (.c (.i .i64 0)),none⟩,
 ⟨some 6,.mv (.t 0),none⟩,
 ⟨some 7,.app 9 1 16 (.t 5) (.t 6),none⟩,
 ⟨some 2,.mv (.t 7),none⟩])
 (.ret)))
theorem is_slices_Clone__string_string:FnIs Tryz.prog 128 8 [.tmp 2] c_slices_Clone__string_string:=⟨⟨_,_,Tryz.func128,rfl,rfl,by kernel_rfl,by kernel_rfl⟩⟩
def c_slices_Clone__api_Value_api_Value:SCode :=
 .seq (.reg [⟨some 2,.mv (.c .nil),none⟩])
 (.seq (.seq (.reg [⟨some 3,.mv (.t 0),none⟩,
 ⟨some 4,.pu (.snil false) [.t 3,.c .nil],none⟩])
 (.cond (.t 4)
 (.seq (.reg [⟨some 2,.mv (.c .nil),none⟩])
 (.ret))
 (.skip)))
 (.seq (.reg [⟨some 5,.mks 30 4 1 (.c (.i .i64 0)) (.c (.i .i64 0)),none⟩,
 ⟨some 6,.mv (.t 0),none⟩,
 ⟨some 7,.app 30 4 72 (.t 5) (.t 6),none⟩,
 ⟨some 2,.mv (.t 7),none⟩])
 (.ret)))
theorem is_slices_Clone__api_Value_api_Value:FnIs Tryz.prog 129 8 [.tmp 2] c_slices_Clone__api_Value_api_Value:=⟨⟨_,_,Tryz.func129,rfl,rfl,by kernel_rfl,by kernel_rfl⟩⟩
def c_did_isIDByte:SCode :=
 .seq (.reg [⟨some 2,.mv (.c (.b false)),none⟩])
 (.seq (.reg [⟨some 3,.mv (.t 0),none⟩,
 ⟨some 4,.call 108 [.t 3],none⟩,
 ⟨some 5,.mv (.t 4),none⟩,
 ⟨some 6,.mv (.t 0),some (5,false)⟩,
 ⟨some 7,.call 98 [.t 6],some (5,false)⟩,
 ⟨some 8,.pick (.t 5) (.c (.b true)) (.t 7),none⟩,
 ⟨some 9,.mv (.t 8),none⟩,
 ⟨some 10,.mv (.t 0),some (9,false)⟩,
 ⟨some 11,.call 79 [.c (.s [46,45,95,58]),.t 10],some (9,false)⟩,
 ⟨some 12,.bin .geq (.t 11) (.c (.i .i64 0)),some (9,false)⟩,
 ⟨some 13,.pick (.t 9) (.c (.b true)) (.t 12),none⟩,
 ⟨some 2,.mv (.t 13),none⟩])
 (.ret))
theorem is_did_isIDByte:FnIs Tryz.prog 130 14 [.tmp 2] c_did_isIDByte:=⟨⟨_,_,Tryz.func130,rfl,rfl,by kernel_rfl,by kernel_rfl⟩⟩
def c_did_Parse:SCode :=
 .seq (.reg [⟨some 2,.alloc 39 [.s [],.s [],.s [],.s [],.s [],.b false,.b false],none⟩,
 ⟨some 3,.mv (.c (.i .i64 0)),none⟩])
 (.seq (.seq (.reg [⟨some 15,.mv (.t 0),none⟩,
 ⟨some 16,.lens (.t 15),none⟩,
 ⟨some 17,.bin .gtr (.t 16) (.c (.i .i64 4096)),none⟩])
 (.cond (.t 17)
 (.seq (.reg [⟨some 18,.build [.s [],.s [],.s [],.s [],.s [],.b false,.b false] [],none⟩,
 ⟨none,.store 7 (.t 2) (.t 18),none⟩,
 ⟨some 3,.mv (.c (.i .i64 5)),none⟩])
 (.ret))
 (.skip)))
 (.seq (.reg [⟨some 20,.mv (.t 0),none⟩,
 ⟨some 21,.call 11 [.t 20,.c (.s [35])],none⟩,
 ⟨some 19,.mv (.t 21),none⟩,
 ⟨some 22,.ext (.t 19) 0,none⟩,
 ⟨some 23,.ext (.t 19) 1,none⟩,
 ⟨some 24,.ext (.t 19) 2,none⟩,
 ⟨some 4,.mv (.t 22),none⟩,
 ⟨some 5,.mv (.t 23),none⟩,
 ⟨some 6,.mv (.t 24),none⟩])
 (.seq (.reg [⟨some 26,.mv (.t 4),none⟩,
 ⟨some 27,.call 11 [.t 26,.c (.s [63])],none⟩,
 ⟨some 25,.mv (.t 27),none⟩,
 ⟨some 28,.ext (.t 25) 0,none⟩,
 ⟨some 29,.ext (.t 25) 1,none⟩,
 ⟨some 30,.ext (.t 25) 2,none⟩,
 ⟨some 4,.mv (.t 28),none⟩,
 ⟨some 7,.mv (.t 29),none⟩,
 ⟨some 8,.mv (.t 30),none⟩])
 (.seq (.reg [⟨some 32,.mv (.t 4),none⟩,
 ⟨some 33,.call 11 [.t 32,.c (.s [47])],none⟩,
 ⟨some 31,.mv (.t 33),none⟩,
 ⟨some 34,.ext (.t 31) 0,none⟩,
 ⟨some 35,.ext (.t 31) 1,none⟩,
 ⟨some 36,.ext (.t 31) 2,none⟩,
 ⟨some 9,.mv (.t 34),none⟩,
 ⟨some 10,.mv (.t 35),none⟩,
 ⟨some 11,.mv (.t 36),none⟩])
 (.seq (.reg [⟨some 38,.mv (.t 9),none⟩,
 ⟨some 39,.call 75 [.t 38],none⟩,
 ⟨some 37,.mv (.t 39),none⟩,
 ⟨some 40,.ext (.t 37) 0,none⟩,
 ⟨some 41,.ext (.t 37) 1,none⟩,
 ⟨some 12,.alloc 37 [.s [],.s []],none⟩,
 ⟨none,.store 2 (.t 12) (.t 40),none⟩,
 ⟨some 13,.mv (.t 41),none⟩])
 (.seq (.seq (.reg [⟨some 42,.mv (.t 13),none⟩,
 ⟨some 43,.bin .neq (.t 42) (.c (.i .i64 0)),none⟩])
 (.cond (.t 43)
 (.seq (.reg [⟨some 44,.build [.s [],.s [],.s [],.s [],.s [],.b false,.b false] [],none⟩,
 ⟨some 45,.mv (.t 13),none⟩,
 ⟨none,.store 7 (.t 2) (.t 44),none⟩,
 ⟨some 3,.mv (.t 45),none⟩])
 (.ret))
 (.skip)))
 (.seq (.reg [⟨some 47,.mv (.t 4),none⟩,
 ⟨some 48,.mv (.t 9),none⟩,
 ⟨some 49,.lens (.t 48),none⟩,
 ⟨some 50,.slcs (.t 47) (some (.t 49)) none,none⟩,
 ⟨some 51,.call 86 [.t 50,.c (.s [33,36,38,39,40,41,42,43,44,59,61,58,64,47])],none⟩,
 ⟨some 46,.mv (.t 51),none⟩,
 ⟨some 52,.ext (.t 46) 0,none⟩,
 ⟨some 53,.ext (.t 46) 1,none⟩,
 ⟨some 14,.mv (.t 52),none⟩,
 ⟨some 13,.mv (.t 53),none⟩])
 (.seq (.seq (.reg [⟨some 54,.mv (.t 13),none⟩,
 ⟨some 55,.bin .neq (.t 54) (.c (.i .i64 0)),none⟩])
 (.cond (.t 55)
 (.seq (.reg [⟨some 56,.build [.s [],.s [],.s [],.s [],.s [],.b false,.b false] [],none⟩,
 ⟨some 57,.mv (.t 13),none⟩,
 ⟨none,.store 7 (.t 2) (.t 56),none⟩,
 ⟨some 3,.mv (.t 57),none⟩])
 (.ret))
 (.skip)))
 (.seq (.reg [⟨some 59,.mv (.t 7),none⟩,
 ⟨some 60,.call 86 [.t 59,.c (.s [33,36,38,39,40,41,42,43,44,59,61,58,64,47,63])],none⟩,
 ⟨some 58,.mv (.t 60),none⟩,
 ⟨some 61,.ext (.t 58) 0,none⟩,
 ⟨some 62,.ext (.t 58) 1,none⟩,
 ⟨some 7,.mv (.t 61),none⟩,
 ⟨some 13,.mv (.t 62),none⟩])
 (.seq (.seq (.reg [⟨some 63,.mv (.t 13),none⟩,
 ⟨some 64,.bin .neq (.t 63) (.c (.i .i64 0)),none⟩])
 (.cond (.t 64)
 (.seq (.reg [⟨some 65,.build [.s [],.s [],.s [],.s [],.s [],.b false,.b false] [],none⟩,
 ⟨some 66,.mv (.t 13),none⟩,
 ⟨none,.store 7 (.t 2) (.t 65),none⟩,
 ⟨some 3,.mv (.t 66),none⟩])
 (.ret))
 (.skip)))
 (.seq (.reg [⟨some 68,.mv (.t 5),none⟩,
 ⟨some 69,.call 86 [.t 68,.c (.s [33,36,38,39,40,41,42,43,44,59,61,58,64,47,63])],none⟩,
 ⟨some 67,.mv (.t 69),none⟩,
 ⟨some 70,.ext (.t 67) 0,none⟩,
 ⟨some 71,.ext (.t 67) 1,none⟩,
 ⟨some 5,.mv (.t 70),none⟩,
 ⟨some 13,.mv (.t 71),none⟩])
 (.seq (.seq (.reg [⟨some 72,.mv (.t 13),none⟩,
 ⟨some 73,.bin .neq (.t 72) (.c (.i .i64 0)),none⟩])
 (.cond (.t 73)
 (.seq (.reg [⟨some 74,.build [.s [],.s [],.s [],.s [],.s [],.b false,.b false] [],none⟩,
 ⟨some 75,.mv (.t 13),none⟩,
 ⟨none,.store 7 (.t 2) (.t 74),none⟩,
 ⟨some 3,.mv (.t 75),none⟩])
 (.ret))
 (.skip)))
 (.seq (.reg [⟨some 76,.loadn 2 (.t 12),none⟩,
 ⟨some 77,.mv (.t 14),none⟩,
 ⟨some 78,.mv (.t 7),none⟩,
 ⟨some 79,.mv (.t 8),none⟩,
 ⟨some 80,.mv (.t 5),none⟩,
 ⟨some 81,.mv (.t 6),none⟩,
 ⟨some 82,.build [.s [],.s [],.s [],.s [],.s [],.b false,.b false] [(0,(2,.t 76)),(2,(1,.t 77)),(3,(1,.t 78)),(5,(1,.t 79)),(4,(1,.t 80)),(6,(1,.t 81))],none⟩,
 ⟨none,.store 7 (.t 2) (.t 82),none⟩,
 ⟨some 3,.mv (.c (.i .i64 0)),none⟩])
 (.ret))))))))))))))
theorem is_did_Parse:FnIs Tryz.prog 132 83 [.celln 2 7,.tmp 3] c_did_Parse:=⟨⟨_,_,Tryz.func132,rfl,rfl,by kernel_rfl,by kernel_rfl⟩⟩
def c_host_isName:SCode :=
 .seq (.reg [⟨some 2,.mv (.c (.b false)),none⟩])
 (.seq (.reg [⟨some 7,.mv (.t 0),none⟩,
 ⟨some 3,.mv (.t 7),none⟩])
 (.seq (.seq (.reg [⟨some 8,.mv (.t 0),none⟩,
 ⟨some 9,.lens (.t 8),none⟩,
 ⟨some 10,.mv (.c (.i .i64 0)),none⟩])
 (.blk 0
 (.loop
 (.seq (.reg [⟨some 11,.bin .lss (.t 10) (.t 9),none⟩])
 (.seq (.cond (.t 11)
 (.skip)
 (.exit 0))
 (.seq (.blk 1
 (.seq (.reg [⟨some 13,.mv (.t 3),none⟩,
 ⟨some 14,.call 11 [.t 13,.c (.s [46])],none⟩,
 ⟨some 12,.mv (.t 14),none⟩,
 ⟨some 15,.ext (.t 12) 0,none⟩,
 ⟨some 16,.ext (.t 12) 1,none⟩,
 ⟨some 17,.ext (.t 12) 2,none⟩,
 ⟨some 4,.mv (.t 15),none⟩,
 ⟨some 5,.mv (.t 16),none⟩,
 ⟨some 6,.mv (.t 17),none⟩])
 (.seq (.seq (.reg [⟨some 18,.mv (.t 4),none⟩,
 ⟨some 19,.call 148 [.t 18],none⟩,
 ⟨some 20,.not (.t 19),none⟩])
 (.cond (.t 20)
 (.seq (.reg [⟨some 2,.mv (.c (.b false)),none⟩])
 (.ret))
 (.skip)))
 (.seq (.seq (.reg [⟨some 21,.mv (.t 6),none⟩,
 ⟨some 22,.not (.t 21),none⟩])
 (.cond (.t 22)
 (.seq (.reg [⟨some 23,.mv (.t 4),none⟩,
 ⟨some 24,.call 149 [.t 23],none⟩,
 ⟨some 25,.not (.t 24),none⟩,
 ⟨some 2,.mv (.t 25),none⟩])
 (.ret))
 (.skip)))
 (.reg [⟨some 26,.mv (.t 5),none⟩,
 ⟨some 3,.mv (.t 26),none⟩])))))
 (.reg [⟨some 27,.bin .add (.t 10) (.c (.i .i64 1)),none⟩,
 ⟨some 10,.mv (.t 27),none⟩])))))))
 (.seq (.reg [⟨some 2,.mv (.c (.b false)),none⟩])
 (.ret))))
theorem is_host_isName:FnIs Tryz.prog 134 28 [.tmp 2] c_host_isName:=⟨⟨_,_,Tryz.func134,rfl,rfl,by kernel_rfl,by kernel_rfl⟩⟩
def c_host_IsIPv4:SCode :=
 .seq (.reg [⟨some 2,.mv (.c (.b false)),none⟩])
 (.seq (.reg [⟨some 11,.mv (.t 0),none⟩,
 ⟨some 3,.mv (.t 11),none⟩])
 (.seq (.seq (.reg [⟨some 12,.mv (.c (.i .i64 0)),none⟩])
 (.blk 0
 (.loop
 (.seq (.reg [⟨some 13,.bin .lss (.t 12) (.c (.i .i64 4)),none⟩])
 (.seq (.cond (.t 13)
 (.skip)
 (.exit 0))
 (.seq (.blk 1
 (.seq (.reg [⟨some 14,.mv (.t 12),none⟩,
 ⟨some 4,.mv (.t 14),none⟩])
 (.seq (.reg [⟨some 16,.mv (.t 3),none⟩,
 ⟨some 17,.call 11 [.t 16,.c (.s [46])],none⟩,
 ⟨some 15,.mv (.t 17),none⟩,
 ⟨some 18,.ext (.t 15) 0,none⟩,
 ⟨some 19,.ext (.t 15) 1,none⟩,
 ⟨some 20,.ext (.t 15) 2,none⟩,
 ⟨some 5,.mv (.t 18),none⟩,
 ⟨some 6,.mv (.t 19),none⟩,
 ⟨some 7,.mv (.t 20),none⟩])
 (.seq (.seq (.reg [⟨some 21,.mv (.t 4),none⟩,
 ⟨some 22,.bin .eql (.t 21) (.c (.i .i64 3)),none⟩,
 ⟨some 8,.mv (.t 22),none⟩])
 (.seq (.reg [⟨some 23,.mv (.t 7),none⟩,
 ⟨some 24,.mv (.t 8),none⟩,
 ⟨some 25,.beq false (.t 23) (.t 24),none⟩])
 (.cond (.t 25)
 (.seq (.reg [⟨some 2,.mv (.c (.b false)),none⟩])
 (.ret))
 (.skip))))
 (.seq (.seq (.reg [⟨some 27,.mv (.t 5),none⟩,
 ⟨some 28,.call 137 [.t 27,.c (.i .u64 255)],none⟩,
 ⟨some 26,.mv (.t 28),none⟩,
 ⟨some 29,.ext (.t 26) 0,none⟩,
 ⟨some 30,.ext (.t 26) 1,none⟩,
 ⟨some 9,.mv (.t 29),none⟩,
 ⟨some 10,.mv (.t 30),none⟩])
 (.seq (.reg [⟨some 31,.mv (.t 10),none⟩,
 ⟨some 32,.bin .neq (.t 31) (.c (.i .i64 0)),none⟩])
 (.cond (.t 32)
 (.seq (.reg [⟨some 2,.mv (.c (.b false)),none⟩])
 (.ret))
 (.skip))))
 (.reg [⟨some 33,.mv (.t 6),none⟩,
 ⟨some 3,.mv (.t 33),none⟩]))))))
 (.reg [⟨some 34,.bin .add (.t 12) (.c (.i .i64 1)),none⟩,
 ⟨some 12,.mv (.t 34),none⟩])))))))
 (.seq (.reg [⟨some 2,.mv (.c (.b true)),none⟩])
 (.ret))))
theorem is_host_IsIPv4:FnIs Tryz.prog 135 35 [.tmp 2] c_host_IsIPv4:=⟨⟨_,_,Tryz.func135,rfl,rfl,by kernel_rfl,by kernel_rfl⟩⟩
def c_ascii_Lower:SCode :=
 .seq (.reg [⟨some 2,.mv (.c (.s [])),none⟩])
 (.seq (.reg [⟨some 5,.mv (.t 0),none⟩,
 ⟨some 6,.lens (.t 5),none⟩,
 ⟨some 7,.mkz 5 1 .u8 0 (.t 6),none⟩,
 ⟨some 3,.mv (.t 7),none⟩])
 (.seq (.seq (.reg [⟨some 8,.mv (.t 0),none⟩,
 ⟨some 9,.lens (.t 8),none⟩,
 ⟨some 10,.mv (.c (.i .i64 0)),none⟩])
 (.blk 0
 (.loop
 (.seq (.reg [⟨some 11,.bin .lss (.t 10) (.t 9),none⟩])
 (.seq (.cond (.t 11)
 (.skip)
 (.exit 0))
 (.seq (.blk 1
 (.seq (.reg [⟨some 12,.mv (.t 10),none⟩,
 ⟨some 4,.mv (.t 12),none⟩])
 (.reg [⟨some 13,.mv (.t 3),none⟩,
 ⟨some 14,.mv (.t 4),none⟩,
 ⟨some 15,.mv (.t 0),none⟩,
 ⟨some 16,.mv (.t 4),none⟩,
 ⟨some 17,.idx (.t 15) (.t 16),none⟩,
 ⟨some 18,.call 89 [.t 17],none⟩,
 ⟨some 19,.iad 1 (.t 13) (.t 14),none⟩,
 ⟨none,.store 1 (.t 19) (.t 18),none⟩])))
 (.reg [⟨some 20,.bin .add (.t 10) (.c (.i .i64 1)),none⟩,
 ⟨some 10,.mv (.t 20),none⟩])))))))
 (.seq (.reg [⟨some 21,.mv (.t 3),none⟩,
 ⟨some 22,.cvbs (.t 21),none⟩,
 ⟨some 2,.mv (.t 22),none⟩])
 (.ret))))
theorem is_ascii_Lower:FnIs Tryz.prog 136 23 [.tmp 2] c_ascii_Lower:=⟨⟨_,_,Tryz.func136,rfl,rfl,by kernel_rfl,by kernel_rfl⟩⟩
def c_number_Strict:SCode :=
 .seq (.reg [⟨some 4,.mv (.c (.i .u64 0)),none⟩,
 ⟨some 5,.mv (.c (.i .i64 0)),none⟩])
 (.seq (.seq (.reg [⟨some 7,.mv (.t 0),none⟩,
 ⟨some 8,.call 150 [.t 7,.c (.fn 98 [] [])],none⟩,
 ⟨some 6,.mv (.t 8),none⟩])
 (.seq (.reg [⟨some 9,.mv (.t 6),none⟩,
 ⟨some 10,.bin .neq (.t 9) (.c (.i .i64 0)),none⟩])
 (.cond (.t 10)
 (.seq (.reg [⟨some 11,.mv (.t 6),none⟩,
 ⟨some 4,.mv (.c (.i .u64 0)),none⟩,
 ⟨some 5,.mv (.t 11),none⟩])
 (.ret))
 (.skip))))
 (.seq (.seq (.reg [⟨some 12,.mv (.t 0),none⟩,
 ⟨some 13,.lens (.t 12),none⟩,
 ⟨some 14,.bin .gtr (.t 13) (.c (.i .i64 1)),none⟩,
 ⟨some 15,.mv (.t 14),none⟩,
 ⟨some 16,.mv (.t 0),some (15,true)⟩,
 ⟨some 17,.idx (.t 16) (.c (.i .i64 0)),some (15,true)⟩,
 ⟨some 18,.bin .eql (.t 17) (.c (.i .u8 48)),some (15,true)⟩,
 ⟨some 19,.pick (.t 15) (.t 18) (.c (.b false)),none⟩])
 (.cond (.t 19)
 (.seq (.reg [⟨some 4,.mv (.c (.i .u64 0)),none⟩,
 ⟨some 5,.mv (.c (.i .i64 6)),none⟩])
 (.ret))
 (.skip)))
 (.seq (.reg [⟨some 20,.mv (.t 0),none⟩,
 ⟨some 21,.mv (.t 1),none⟩,
 ⟨some 22,.call 151 [.t 20,.c (.i .u64 10),.t 21],none⟩,
 ⟨some 23,.ext (.t 22) 0,none⟩,
 ⟨some 24,.ext (.t 22) 1,none⟩,
 ⟨some 4,.mv (.t 23),none⟩,
 ⟨some 5,.mv (.t 24),none⟩])
 (.ret))))
theorem is_number_Strict:FnIs Tryz.prog 137 25 [.tmp 4,.tmp 5] c_number_Strict:=⟨⟨_,_,Tryz.func137,rfl,rfl,by kernel_rfl,by kernel_rfl⟩⟩
def c_ascii_isLetterOrDigit:SCode :=
 .seq (.reg [⟨some 2,.mv (.c (.b false)),none⟩])
 (.seq (.reg [⟨some 3,.mv (.t 0),none⟩,
 ⟨some 4,.call 108 [.t 3],none⟩,
 ⟨some 5,.mv (.t 4),none⟩,
 ⟨some 6,.mv (.t 0),some (5,false)⟩,
 ⟨some 7,.call 98 [.t 6],some (5,false)⟩,
 ⟨some 8,.pick (.t 5) (.c (.b true)) (.t 7),none⟩,
 ⟨some 2,.mv (.t 8),none⟩])
 (.ret))
theorem is_ascii_isLetterOrDigit:FnIs Tryz.prog 138 9 [.tmp 2] c_ascii_isLetterOrDigit:=⟨⟨_,_,Tryz.func138,rfl,rfl,by kernel_rfl,by kernel_rfl⟩⟩
def c_ascii_isOneOf:SCode :=
 .seq (.reg [⟨some 4,.mv (.c (.b false)),none⟩])
 (.seq (.reg [⟨some 5,.mv (.t 1),none⟩,
 ⟨some 6,.mv (.t 0),none⟩,
 ⟨some 7,.call 79 [.t 5,.t 6],none⟩,
 ⟨some 8,.bin .geq (.t 7) (.c (.i .i64 0)),none⟩,
 ⟨some 4,.mv (.t 8),none⟩])
 (.ret))
theorem is_ascii_isOneOf:FnIs Tryz.prog 139 9 [.tmp 4] c_ascii_isOneOf:=⟨⟨_,_,Tryz.func139,rfl,rfl,by kernel_rfl,by kernel_rfl⟩⟩
def c_strings_Builder_WriteString:SCode :=
 .seq (.reg [⟨some 4,.mv (.c (.i .i64 0)),none⟩,
 ⟨some 5,.mv (.c (.o .nilIface)),none⟩])
 (.seq (.reg [⟨some 6,.mv (.t 0),none⟩,
 ⟨some 7,.call 152 [.t 6],none⟩])
 (.seq (.reg [⟨some 8,.mv (.t 0),none⟩,
 ⟨some 9,.mv (.t 0),none⟩,
 ⟨some 10,.nck (.t 9),none⟩,
 ⟨some 11,.fad 1 (.t 10),none⟩,
 ⟨some 12,.load1 (.t 11),none⟩,
 ⟨some 13,.mv (.t 1),none⟩,
 ⟨some 14,.apps 5 (.t 12) (.t 13),none⟩,
 ⟨some 15,.nck (.t 8),none⟩,
 ⟨some 16,.fad 1 (.t 15),none⟩,
 ⟨none,.store 1 (.t 16) (.t 14),none⟩])
 (.seq (.reg [⟨some 17,.mv (.t 1),none⟩,
 ⟨some 18,.lens (.t 17),none⟩,
 ⟨some 4,.mv (.t 18),none⟩,
 ⟨some 5,.mv (.c (.o .nilIface)),none⟩])
 (.ret))))
theorem is_strings_Builder_WriteString:FnIs Tryz.prog 142 19 [.tmp 4,.tmp 5] c_strings_Builder_WriteString:=⟨⟨_,_,Tryz.func142,rfl,rfl,by kernel_rfl,by kernel_rfl⟩⟩
def c_internal_strconv_FormatInt:SCode :=
 .seq (.reg [⟨some 4,.mv (.c (.s [])),none⟩])
 (.seq (.seq (.reg [⟨some 10,.mv (.t 1),none⟩,
 ⟨some 11,.bin .eql (.t 10) (.c (.i .i64 10)),none⟩])
 (.cond (.t 11)
 (.seq (.seq (.reg [⟨some 12,.mv (.t 0),none⟩,
 ⟨some 13,.bin .leq (.c (.i .i64 0)) (.t 12),none⟩,
 ⟨some 14,.mv (.t 13),none⟩,
 ⟨some 15,.mv (.t 0),some (14,true)⟩,
 ⟨some 16,.bin .lss (.t 15) (.c (.i .i64 100)),some (14,true)⟩,
 ⟨some 17,.pick (.t 14) (.t 16) (.c (.b false)),none⟩])
 (.cond (.t 17)
 (.seq (.reg [⟨some 18,.mv (.t 0),none⟩,
 ⟨some 19,.call 154 [.t 18],none⟩,
 ⟨some 4,.mv (.t 19),none⟩])
 (.ret))
 (.skip)))
 (.seq (.reg [⟨some 5,.alloc 186 [.i .u8 0,.i .u8 0,.i .u8 0,.i .u8 0,.i .u8 0,.i .u8 0,.i .u8 0,.i .u8 0,.i .u8 0,.i .u8 0,.i .u8 0,.i .u8 0,.i .u8 0,.i .u8 0,.i .u8 0,.i .u8 0,.i .u8 0,.i .u8 0,.i .u8 0,.i .u8 0,.i .u8 0,.i .u8 0,.i .u8 0,.i .u8 0],none⟩])
 (.seq (.reg [⟨some 20,.mv (.t 0),none⟩,
 ⟨some 21,.cvi .u64 (.t 20),none⟩,
 ⟨some 6,.mv (.t 21),none⟩])
 (.seq (.seq (.reg [⟨some 22,.mv (.t 0),none⟩,
 ⟨some 23,.bin .lss (.t 22) (.c (.i .i64 0)),none⟩])
 (.cond (.t 23)
 (.reg [⟨some 24,.mv (.t 6),none⟩,
 ⟨some 25,.neg (.t 24),none⟩,
 ⟨some 6,.mv (.t 25),none⟩])
 (.skip)))
 (.seq (.reg [⟨some 26,.mv (.t 6),none⟩,
 ⟨some 27,.call 155 [.t 26],none⟩,
 ⟨some 7,.mv (.t 27),none⟩])
 (.seq (.reg [⟨some 28,.mv (.t 7),none⟩,
 ⟨some 29,.bin .add (.c (.i .i64 1)) (.t 28),none⟩,
 ⟨some 30,.pu (.aslb 1 24) [.t 5,.c (.i .i64 1),.t 29],none⟩,
 ⟨some 31,.mv (.t 6),none⟩,
 ⟨some 32,.call 156 [.t 30,.t 31],none⟩])
 (.seq (.seq (.reg [⟨some 33,.mv (.t 0),none⟩,
 ⟨some 34,.bin .lss (.t 33) (.c (.i .i64 0)),none⟩])
 (.cond (.t 34)
 (.seq (.reg [⟨some 35,.iada 1 24 (.t 5) (.c (.i .i64 0)),none⟩,
 ⟨none,.store 1 (.t 35) (.c (.i .u8 45)),none⟩])
 (.seq (.reg [⟨some 36,.mv (.t 7),none⟩,
 ⟨some 37,.bin .add (.c (.i .i64 1)) (.t 36),none⟩,
 ⟨some 38,.pu (.aslh 1 24) [.t 5,.t 37],none⟩,
 ⟨some 39,.cvbs (.t 38),none⟩,
 ⟨some 4,.mv (.t 39),none⟩])
 (.ret)))
 (.skip)))
 (.seq (.reg [⟨some 40,.mv (.t 7),none⟩,
 ⟨some 41,.bin .add (.c (.i .i64 1)) (.t 40),none⟩,
 ⟨some 42,.pu (.aslb 1 24) [.t 5,.c (.i .i64 1),.t 41],none⟩,
 ⟨some 43,.cvbs (.t 42),none⟩,
 ⟨some 4,.mv (.t 43),none⟩])
 (.ret)))))))))
 (.skip)))
 (.seq (.reg [⟨some 45,.mv (.t 0),none⟩,
 ⟨some 46,.cvi .u64 (.t 45),none⟩,
 ⟨some 47,.mv (.t 1),none⟩,
 ⟨some 48,.mv (.t 0),none⟩,
 ⟨some 49,.bin .lss (.t 48) (.c (.i .i64 0)),none⟩,
 ⟨some 50,.call 157 [.c .nil,.t 46,.t 47,.t 49,.c (.b false)],none⟩,
 ⟨some 44,.mv (.t 50),none⟩,
 ⟨some 51,.ext (.t 44) 0,none⟩,
 ⟨some 52,.ext (.t 44) 1,none⟩,
 ⟨some 8,.mv (.t 51),none⟩,
 ⟨some 9,.mv (.t 52),none⟩])
 (.seq (.reg [⟨some 53,.mv (.t 9),none⟩,
 ⟨some 4,.mv (.t 53),none⟩])
 (.ret))))
theorem is_internal_strconv_FormatInt:FnIs Tryz.prog 144 54 [.tmp 4] c_internal_strconv_FormatInt:=⟨⟨_,_,Tryz.func144,rfl,rfl,by kernel_rfl,by kernel_rfl⟩⟩
def c_ref04_Hex:SCode :=
 .seq (.reg [⟨some 4,.mv (.c (.i .u64 0)),none⟩,
 ⟨some 5,.mv (.c (.i .i64 0)),none⟩])
 (.seq (.reg [⟨some 6,.mv (.t 0),none⟩,
 ⟨some 7,.mv (.t 1),none⟩,
 ⟨some 8,.call 158 [.t 6,.c (.i .u64 16),.t 7],none⟩,
 ⟨some 9,.ext (.t 8) 0,none⟩,
 ⟨some 10,.ext (.t 8) 1,none⟩,
 ⟨some 4,.mv (.t 9),none⟩,
 ⟨some 5,.mv (.t 10),none⟩])
 (.ret))
theorem is_ref04_Hex:FnIs Tryz.prog 145 11 [.tmp 4,.tmp 5] c_ref04_Hex:=⟨⟨_,_,Tryz.func145,rfl,rfl,by kernel_rfl,by kernel_rfl⟩⟩
def c_ref02_point:SCode :=
 .seq (.reg [⟨some 2,.mv (.c (.b false)),none⟩])
 (.seq (.reg [⟨some 3,.mv (.t 0),none⟩,
 ⟨some 4,.bin .geq (.t 3) (.c (.i .i64 0)),none⟩,
 ⟨some 5,.mv (.t 4),none⟩,
 ⟨some 6,.mv (.t 0),some (5,true)⟩,
 ⟨some 7,.bin .leq (.t 6) (.c (.i .i64 1114111)),some (5,true)⟩,
 ⟨some 8,.pick (.t 5) (.t 7) (.c (.b false)),none⟩,
 ⟨some 9,.mv (.t 8),none⟩,
 ⟨some 10,.mv (.t 0),some (9,true)⟩,
 ⟨some 11,.bin .lss (.t 10) (.c (.i .i64 55296)),some (9,true)⟩,
 ⟨some 12,.mv (.t 11),some (9,true)⟩,
 ⟨some 13,.mv (.t 0),some (12,false)⟩,
 ⟨some 14,.bin .gtr (.t 13) (.c (.i .i64 57343)),some (12,false)⟩,
 ⟨some 15,.pick (.t 12) (.c (.b true)) (.t 14),some (9,true)⟩,
 ⟨some 16,.pick (.t 9) (.t 15) (.c (.b false)),none⟩,
 ⟨some 2,.mv (.t 16),none⟩])
 (.ret))
theorem is_ref02_point:FnIs Tryz.prog 146 17 [.tmp 2] c_ref02_point:=⟨⟨_,_,Tryz.func146,rfl,rfl,by kernel_rfl,by kernel_rfl⟩⟩
def c_host_isLabel:SCode :=
 .seq (.reg [⟨some 2,.mv (.c (.b false)),none⟩])
 (.seq (.seq (.reg [⟨some 4,.mv (.t 0),none⟩,
 ⟨some 5,.bin .eql (.t 4) (.c (.s [])),none⟩,
 ⟨some 6,.mv (.t 5),none⟩,
 ⟨some 7,.mv (.t 0),some (6,false)⟩,
 ⟨some 8,.lens (.t 7),some (6,false)⟩,
 ⟨some 9,.bin .gtr (.t 8) (.c (.i .i64 63)),some (6,false)⟩,
 ⟨some 10,.pick (.t 6) (.c (.b true)) (.t 9),none⟩,
 ⟨some 11,.mv (.t 10),none⟩,
 ⟨some 12,.mv (.t 0),some (11,false)⟩,
 ⟨some 13,.idx (.t 12) (.c (.i .i64 0)),some (11,false)⟩,
 ⟨some 14,.bin .eql (.t 13) (.c (.i .u8 45)),some (11,false)⟩,
 ⟨some 15,.pick (.t 11) (.c (.b true)) (.t 14),none⟩,
 ⟨some 16,.mv (.t 15),none⟩,
 ⟨some 17,.mv (.t 0),some (16,false)⟩,
 ⟨some 18,.mv (.t 0),some (16,false)⟩,
 ⟨some 19,.lens (.t 18),some (16,false)⟩,
 ⟨some 20,.bin .sub (.t 19) (.c (.i .i64 1)),some (16,false)⟩,
 ⟨some 21,.idx (.t 17) (.t 20),some (16,false)⟩,
 ⟨some 22,.bin .eql (.t 21) (.c (.i .u8 45)),some (16,false)⟩,
 ⟨some 23,.pick (.t 16) (.c (.b true)) (.t 22),none⟩])
 (.cond (.t 23)
 (.seq (.reg [⟨some 2,.mv (.c (.b false)),none⟩])
 (.ret))
 (.skip)))
 (.seq (.seq (.reg [⟨some 24,.mv (.t 0),none⟩,
 ⟨some 25,.lens (.t 24),none⟩,
 ⟨some 26,.mv (.c (.i .i64 0)),none⟩])
 (.blk 0
 (.loop
 (.seq (.reg [⟨some 27,.bin .lss (.t 26) (.t 25),none⟩])
 (.seq (.cond (.t 27)
 (.skip)
 (.exit 0))
 (.seq (.blk 1
 (.seq (.reg [⟨some 28,.mv (.t 26),none⟩,
 ⟨some 3,.mv (.t 28),none⟩])
 (.seq (.reg [⟨some 29,.mv (.t 0),none⟩,
 ⟨some 30,.mv (.t 3),none⟩,
 ⟨some 31,.idx (.t 29) (.t 30),none⟩,
 ⟨some 32,.call 108 [.t 31],none⟩,
 ⟨some 33,.not (.t 32),none⟩,
 ⟨some 34,.mv (.t 33),none⟩,
 ⟨some 35,.mv (.t 0),some (34,true)⟩,
 ⟨some 36,.mv (.t 3),some (34,true)⟩,
 ⟨some 37,.idx (.t 35) (.t 36),some (34,true)⟩,
 ⟨some 38,.call 98 [.t 37],some (34,true)⟩,
 ⟨some 39,.not (.t 38),some (34,true)⟩,
 ⟨some 40,.pick (.t 34) (.t 39) (.c (.b false)),none⟩,
 ⟨some 41,.mv (.t 40),none⟩,
 ⟨some 42,.mv (.t 0),some (41,true)⟩,
 ⟨some 43,.mv (.t 3),some (41,true)⟩,
 ⟨some 44,.idx (.t 42) (.t 43),some (41,true)⟩,
 ⟨some 45,.bin .neq (.t 44) (.c (.i .u8 45)),some (41,true)⟩,
 ⟨some 46,.pick (.t 41) (.t 45) (.c (.b false)),none⟩])
 (.cond (.t 46)
 (.seq (.reg [⟨some 2,.mv (.c (.b false)),none⟩])
 (.ret))
 (.skip)))))
 (.reg [⟨some 47,.bin .add (.t 26) (.c (.i .i64 1)),none⟩,
 ⟨some 26,.mv (.t 47),none⟩])))))))
 (.seq (.reg [⟨some 2,.mv (.c (.b true)),none⟩])
 (.ret))))
theorem is_host_isLabel:FnIs Tryz.prog 148 48 [.tmp 2] c_host_isLabel:=⟨⟨_,_,Tryz.func148,rfl,rfl,by kernel_rfl,by kernel_rfl⟩⟩
def c_ascii_Digits:SCode :=
 .seq (.reg [⟨some 2,.mv (.c (.b false)),none⟩])
 (.seq (.seq (.reg [⟨some 4,.mv (.t 0),none⟩,
 ⟨some 5,.lens (.t 4),none⟩,
 ⟨some 6,.mv (.c (.i .i64 0)),none⟩])
 (.blk 0
 (.loop
 (.seq (.reg [⟨some 7,.bin .lss (.t 6) (.t 5),none⟩])
 (.seq (.cond (.t 7)
 (.skip)
 (.exit 0))
 (.seq (.blk 1
 (.seq (.reg [⟨some 8,.mv (.t 6),none⟩,
 ⟨some 3,.mv (.t 8),none⟩])
 (.seq (.reg [⟨some 9,.mv (.t 0),none⟩,
 ⟨some 10,.mv (.t 3),none⟩,
 ⟨some 11,.idx (.t 9) (.t 10),none⟩,
 ⟨some 12,.call 98 [.t 11],none⟩,
 ⟨some 13,.not (.t 12),none⟩])
 (.cond (.t 13)
 (.seq (.reg [⟨some 2,.mv (.c (.b false)),none⟩])
 (.ret))
 (.skip)))))
 (.reg [⟨some 14,.bin .add (.t 6) (.c (.i .i64 1)),none⟩,
 ⟨some 6,.mv (.t 14),none⟩])))))))
 (.seq (.reg [⟨some 15,.mv (.t 0),none⟩,
 ⟨some 16,.bin .neq (.t 15) (.c (.s [])),none⟩,
 ⟨some 2,.mv (.t 16),none⟩])
 (.ret)))
theorem is_ascii_Digits:FnIs Tryz.prog 149 17 [.tmp 2] c_ascii_Digits:=⟨⟨_,_,Tryz.func149,rfl,rfl,by kernel_rfl,by kernel_rfl⟩⟩
def c_number_check:SCode :=
 .seq (.reg [⟨some 4,.mv (.c (.i .i64 0)),none⟩])
 (.seq (.seq (.reg [⟨some 6,.mv (.t 0),none⟩,
 ⟨some 7,.bin .eql (.t 6) (.c (.s [])),none⟩])
 (.cond (.t 7)
 (.seq (.reg [⟨some 4,.mv (.c (.i .i64 3)),none⟩])
 (.ret))
 (.skip)))
 (.seq (.seq (.reg [⟨some 8,.mv (.t 0),none⟩,
 ⟨some 9,.lens (.t 8),none⟩,
 ⟨some 10,.mv (.c (.i .i64 0)),none⟩])
 (.blk 0
 (.loop
 (.seq (.reg [⟨some 11,.bin .lss (.t 10) (.t 9),none⟩])
 (.seq (.cond (.t 11)
 (.skip)
 (.exit 0))
 (.seq (.blk 1
 (.seq (.reg [⟨some 12,.mv (.t 10),none⟩,
 ⟨some 5,.mv (.t 12),none⟩])
 (.seq (.reg [⟨some 13,.mv (.t 1),none⟩,
 ⟨some 14,.mv (.t 0),none⟩,
 ⟨some 15,.mv (.t 5),none⟩,
 ⟨some 16,.idx (.t 14) (.t 15),none⟩,
 ⟨some 17,.callv (.t 13) [.t 16],none⟩,
 ⟨some 18,.not (.t 17),none⟩])
 (.cond (.t 18)
 (.seq (.reg [⟨some 4,.mv (.c (.i .i64 1)),none⟩])
 (.ret))
 (.skip)))))
 (.reg [⟨some 19,.bin .add (.t 10) (.c (.i .i64 1)),none⟩,
 ⟨some 10,.mv (.t 19),none⟩])))))))
 (.seq (.reg [⟨some 4,.mv (.c (.i .i64 0)),none⟩])
 (.ret))))
theorem is_number_check:FnIs Tryz.prog 150 20 [.tmp 4] c_number_check:=⟨⟨_,_,Tryz.func150,rfl,rfl,by kernel_rfl,by kernel_rfl⟩⟩
def c_number_value:SCode :=
 .seq (.reg [⟨some 6,.mv (.c (.i .u64 0)),none⟩,
 ⟨some 7,.mv (.c (.i .i64 0)),none⟩])
 (.seq (.reg [⟨some 8,.mv (.c (.i .u64 0)),none⟩])
 (.seq (.seq (.reg [⟨some 11,.mv (.t 0),none⟩,
 ⟨some 12,.lens (.t 11),none⟩,
 ⟨some 13,.mv (.c (.i .i64 0)),none⟩])
 (.blk 0
 (.loop
 (.seq (.reg [⟨some 14,.bin .lss (.t 13) (.t 12),none⟩])
 (.seq (.cond (.t 14)
 (.skip)
 (.exit 0))
 (.seq (.blk 1
 (.seq (.reg [⟨some 15,.mv (.t 13),none⟩,
 ⟨some 9,.mv (.t 15),none⟩])
 (.seq (.reg [⟨some 16,.mv (.t 0),none⟩,
 ⟨some 17,.mv (.t 9),none⟩,
 ⟨some 18,.idx (.t 16) (.t 17),none⟩,
 ⟨some 19,.call 161 [.t 18],none⟩,
 ⟨some 10,.mv (.t 19),none⟩])
 (.seq (.seq (.reg [⟨some 20,.mv (.t 10),none⟩,
 ⟨some 21,.mv (.t 2),none⟩,
 ⟨some 22,.bin .gtr (.t 20) (.t 21),none⟩,
 ⟨some 23,.mv (.t 22),none⟩,
 ⟨some 24,.mv (.t 8),some (23,false)⟩,
 ⟨some 25,.mv (.t 2),some (23,false)⟩,
 ⟨some 26,.mv (.t 10),some (23,false)⟩,
 ⟨some 27,.bin .sub (.t 25) (.t 26),some (23,false)⟩,
 ⟨some 28,.mv (.t 1),some (23,false)⟩,
 ⟨some 29,.bin .quo (.t 27) (.t 28),some (23,false)⟩,
 ⟨some 30,.bin .gtr (.t 24) (.t 29),some (23,false)⟩,
 ⟨some 31,.pick (.t 23) (.c (.b true)) (.t 30),none⟩])
 (.cond (.t 31)
 (.seq (.reg [⟨some 6,.mv (.c (.i .u64 0)),none⟩,
 ⟨some 7,.mv (.c (.i .i64 4)),none⟩])
 (.ret))
 (.skip)))
 (.reg [⟨some 32,.mv (.t 8),none⟩,
 ⟨some 33,.mv (.t 1),none⟩,
 ⟨some 34,.bin .mul (.t 32) (.t 33),none⟩,
 ⟨some 35,.mv (.t 10),none⟩,
 ⟨some 36,.bin .add (.t 34) (.t 35),none⟩,
 ⟨some 8,.mv (.t 36),none⟩])))))
 (.reg [⟨some 37,.bin .add (.t 13) (.c (.i .i64 1)),none⟩,
 ⟨some 13,.mv (.t 37),none⟩])))))))
 (.seq (.reg [⟨some 38,.mv (.t 8),none⟩,
 ⟨some 6,.mv (.t 38),none⟩,
 ⟨some 7,.mv (.c (.i .i64 0)),none⟩])
 (.ret))))
theorem is_number_value:FnIs Tryz.prog 151 39 [.tmp 6,.tmp 7] c_number_value:=⟨⟨_,_,Tryz.func151,rfl,rfl,by kernel_rfl,by kernel_rfl⟩⟩
def c_internal_strconv_formatBits:SCode :=
 .seq (.reg [⟨some 10,.mv (.c .nil),none⟩,
 ⟨some 11,.mv (.c (.s [])),none⟩])
 (.seq (.seq (.reg [⟨some 19,.mv (.t 2),none⟩,
 ⟨some 20,.bin .lss (.t 19) (.c (.i .i64 2)),none⟩,
 ⟨some 21,.mv (.t 20),none⟩,
 ⟨some 22,.mv (.t 2),some (21,false)⟩,
 ⟨some 23,.bin .eql (.t 22) (.c (.i .i64 10)),some (21,false)⟩,
 ⟨some 24,.pick (.t 21) (.c (.b true)) (.t 23),none⟩,
 ⟨some 25,.mv (.t 24),none⟩,
 ⟨some 26,.mv (.t 2),some (25,false)⟩,
 ⟨some 27,.bin .gtr (.t 26) (.c (.i .i64 36)),some (25,false)⟩,
 ⟨some 28,.pick (.t 25) (.c (.b true)) (.t 27),none⟩])
 (.cond (.t 28)
 (.dead)
 (.skip)))
 (.seq (.reg [⟨some 12,.alloc 199 [.i .u8 0,.i .u8 0,.i .u8 0,.i .u8 0,.i .u8 0,.i .u8 0,.i .u8 0,.i .u8 0,.i .u8 0,.i .u8 0,.i .u8 0,.i .u8 0,.i .u8 0,.i .u8 0,.i .u8 0,.i .u8 0,.i .u8 0,.i .u8 0,.i .u8 0,.i .u8 0,.i .u8 0,.i .u8 0,.i .u8 0,.i .u8 0,.i .u8 0,.i .u8 0,.i .u8 0,.i .u8 0,.i .u8 0,.i .u8 0,.i .u8 0,.i .u8 0,.i .u8 0,.i .u8 0,.i .u8 0,.i .u8 0,.i .u8 0,.i .u8 0,.i .u8 0,.i .u8 0,.i .u8 0,.i .u8 0,.i .u8 0,.i .u8 0,.i .u8 0,.i .u8 0,.i .u8 0,.i .u8 0,.i .u8 0,.i .u8 0,.i .u8 0,.i .u8 0,.i .u8 0,.i .u8 0,.i .u8 0,.i .u8 0,.i .u8 0,.i .u8 0,.i .u8 0,.i .u8 0,.i .u8 0,.i .u8 0,.i .u8 0,.i .u8 0,.i .u8 0],none⟩])
 (.seq (.reg [⟨some 13,.mv (.c (.i .i64 65)),none⟩])
 (.seq (.seq (.reg [⟨some 30,.mv (.t 3),none⟩])
 (.cond (.t 30)
 (.reg [⟨some 31,.mv (.t 1),none⟩,
 ⟨some 32,.neg (.t 31),none⟩,
 ⟨some 1,.mv (.t 32),none⟩])
 (.skip)))
 (.seq (.seq (.reg [⟨some 33,.mv (.t 2),none⟩,
 ⟨some 34,.call 167 [.t 33],none⟩])
 (.cond (.t 34)
 (.seq (.reg [⟨some 35,.mv (.t 2),none⟩,
 ⟨some 36,.cvi .u64 (.t 35),none⟩,
 ⟨some 37,.call 168 [.t 36],none⟩,
 ⟨some 38,.cvi .u64 (.t 37),none⟩,
 ⟨some 14,.mv (.t 38),none⟩])
 (.seq (.reg [⟨some 39,.mv (.t 2),none⟩,
 ⟨some 40,.cvi .u64 (.t 39),none⟩,
 ⟨some 15,.mv (.t 40),none⟩])
 (.seq (.reg [⟨some 41,.mv (.t 2),none⟩,
 ⟨some 42,.cvi .u64 (.t 41),none⟩,
 ⟨some 43,.bin .sub (.t 42) (.c (.i .u64 1)),none⟩,
 ⟨some 16,.mv (.t 43),none⟩])
 (.seq (.blk 0
 (.loop
 (.seq (.seq (.reg [⟨some 44,.mv (.t 1),none⟩,
 ⟨some 45,.mv (.t 15),none⟩,
 ⟨some 46,.bin .geq (.t 44) (.t 45),none⟩])
 (.cond (.t 46)
 (.skip)
 (.exit 0)))
 (.blk 1
 (.seq (.reg [⟨some 47,.mv (.t 13),none⟩,
 ⟨some 48,.bin .sub (.t 47) (.c (.i .i64 1)),none⟩,
 ⟨some 13,.mv (.t 48),none⟩])
 (.seq (.reg [⟨some 49,.mv (.t 13),none⟩,
 ⟨some 50,.mv (.t 1),none⟩,
 ⟨some 51,.mv (.t 16),none⟩,
 ⟨some 52,.pu (.bits .and) [.t 50,.t 51],none⟩,
 ⟨some 53,.idx (.c (.s [48,49,50,51,52,53,54,55,56,57,97,98,99,100,101,102,103,104,105,106,107,108,109,110,111,112,113,114,115,116,117,118,119,120,121,122])) (.t 52),none⟩,
 ⟨some 54,.iada 1 65 (.t 12) (.t 49),none⟩,
 ⟨none,.store 1 (.t 54) (.t 53),none⟩])
 (.reg [⟨some 55,.mv (.t 1),none⟩,
 ⟨some 56,.mv (.t 14),none⟩,
 ⟨some 57,.pu .shr [.t 55,.t 56],none⟩,
 ⟨some 1,.mv (.t 57),none⟩])))))))
 (.seq (.reg [⟨some 58,.mv (.t 13),none⟩,
 ⟨some 59,.bin .sub (.t 58) (.c (.i .i64 1)),none⟩,
 ⟨some 13,.mv (.t 59),none⟩])
 (.reg [⟨some 60,.mv (.t 13),none⟩,
 ⟨some 61,.mv (.t 1),none⟩,
 ⟨some 62,.idx (.c (.s [48,49,50,51,52,53,54,55,56,57,97,98,99,100,101,102,103,104,105,106,107,108,109,110,111,112,113,114,115,116,117,118,119,120,121,122])) (.t 61),none⟩,
 ⟨some 63,.iada 1 65 (.t 12) (.t 60),none⟩,
 ⟨none,.store 1 (.t 63) (.t 62),none⟩]))))))
 (.seq (.reg [⟨some 64,.mv (.t 2),none⟩,
 ⟨some 65,.cvi .u64 (.t 64),none⟩,
 ⟨some 17,.mv (.t 65),none⟩])
 (.seq (.blk 2
 (.loop
 (.seq (.seq (.reg [⟨some 66,.mv (.t 1),none⟩,
 ⟨some 67,.mv (.t 17),none⟩,
 ⟨some 68,.bin .geq (.t 66) (.t 67),none⟩])
 (.cond (.t 68)
 (.skip)
 (.exit 2)))
 (.blk 3
 (.seq (.reg [⟨some 69,.mv (.t 13),none⟩,
 ⟨some 70,.bin .sub (.t 69) (.c (.i .i64 1)),none⟩,
 ⟨some 13,.mv (.t 70),none⟩])
 (.seq (.reg [⟨some 71,.mv (.t 1),none⟩,
 ⟨some 72,.mv (.t 17),none⟩,
 ⟨some 73,.bin .quo (.t 71) (.t 72),none⟩,
 ⟨some 18,.mv (.t 73),none⟩])
 (.seq (.reg [⟨some 74,.mv (.t 13),none⟩,
 ⟨some 75,.mv (.t 1),none⟩,
 ⟨some 76,.mv (.t 18),none⟩,
 ⟨some 77,.mv (.t 17),none⟩,
 ⟨some 78,.bin .mul (.t 76) (.t 77),none⟩,
 ⟨some 79,.bin .sub (.t 75) (.t 78),none⟩,
 ⟨some 80,.idx (.c (.s [48,49,50,51,52,53,54,55,56,57,97,98,99,100,101,102,103,104,105,106,107,108,109,110,111,112,113,114,115,116,117,118,119,120,121,122])) (.t 79),none⟩,
 ⟨some 81,.iada 1 65 (.t 12) (.t 74),none⟩,
 ⟨none,.store 1 (.t 81) (.t 80),none⟩])
 (.reg [⟨some 82,.mv (.t 18),none⟩,
 ⟨some 1,.mv (.t 82),none⟩]))))))))
 (.seq (.reg [⟨some 83,.mv (.t 13),none⟩,
 ⟨some 84,.bin .sub (.t 83) (.c (.i .i64 1)),none⟩,
 ⟨some 13,.mv (.t 84),none⟩])
 (.reg [⟨some 85,.mv (.t 13),none⟩,
 ⟨some 86,.mv (.t 1),none⟩,
 ⟨some 87,.idx (.c (.s [48,49,50,51,52,53,54,55,56,57,97,98,99,100,101,102,103,104,105,106,107,108,109,110,111,112,113,114,115,116,117,118,119,120,121,122])) (.t 86),none⟩,
 ⟨some 88,.iada 1 65 (.t 12) (.t 85),none⟩,
 ⟨none,.store 1 (.t 88) (.t 87),none⟩]))))))
 (.seq (.seq (.reg [⟨some 89,.mv (.t 3),none⟩])
 (.cond (.t 89)
 (.seq (.reg [⟨some 90,.mv (.t 13),none⟩,
 ⟨some 91,.bin .sub (.t 90) (.c (.i .i64 1)),none⟩,
 ⟨some 13,.mv (.t 91),none⟩])
 (.reg [⟨some 92,.mv (.t 13),none⟩,
 ⟨some 93,.iada 1 65 (.t 12) (.t 92),none⟩,
 ⟨none,.store 1 (.t 93) (.c (.i .u8 45)),none⟩]))
 (.skip)))
 (.seq (.seq (.reg [⟨some 94,.mv (.t 4),none⟩])
 (.cond (.t 94)
 (.seq (.reg [⟨some 95,.mv (.t 0),none⟩,
 ⟨some 96,.mv (.t 13),none⟩,
 ⟨some 97,.pu (.asl 1 65) [.t 12,.t 96],none⟩,
 ⟨some 98,.app 5 1 1 (.t 95) (.t 97),none⟩,
 ⟨some 10,.mv (.t 98),none⟩])
 (.ret))
 (.skip)))
 (.seq (.reg [⟨some 99,.mv (.t 13),none⟩,
 ⟨some 100,.pu (.asl 1 65) [.t 12,.t 99],none⟩,
 ⟨some 101,.cvbs (.t 100),none⟩,
 ⟨some 11,.mv (.t 101),none⟩])
 (.ret)))))))))
theorem is_internal_strconv_formatBits:FnIs Tryz.prog 157 102 [.tmp 10,.tmp 11] c_internal_strconv_formatBits:=⟨⟨_,_,Tryz.func157,rfl,rfl,by kernel_rfl,by kernel_rfl⟩⟩
def c_ref04_parse:SCode :=
 .seq (.reg [⟨some 6,.mv (.c (.i .u64 0)),none⟩,
 ⟨some 7,.mv (.c (.i .i64 0)),none⟩])
 (.seq (.seq (.reg [⟨some 12,.mv (.t 0),none⟩,
 ⟨some 13,.bin .eql (.t 12) (.c (.s [])),none⟩])
 (.cond (.t 13)
 (.seq (.reg [⟨some 6,.mv (.c (.i .u64 0)),none⟩,
 ⟨some 7,.mv (.c (.i .i64 3)),none⟩])
 (.ret))
 (.skip)))
 (.seq (.seq (.reg [⟨some 8,.mv (.c (.i .i64 0)),none⟩])
 (.blk 0
 (.loop
 (.seq (.seq (.reg [⟨some 14,.mv (.t 8),none⟩,
 ⟨some 15,.mv (.t 0),none⟩,
 ⟨some 16,.lens (.t 15),none⟩,
 ⟨some 17,.bin .lss (.t 14) (.t 16),none⟩])
 (.cond (.t 17)
 (.skip)
 (.exit 0)))
 (.seq (.blk 1
 (.seq (.reg [⟨some 20,.mv (.t 1),none⟩,
 ⟨some 21,.bin .eql (.t 20) (.c (.i .u64 10)),none⟩,
 ⟨some 22,.mv (.t 21),none⟩,
 ⟨some 23,.mv (.t 0),some (22,true)⟩,
 ⟨some 24,.mv (.t 8),some (22,true)⟩,
 ⟨some 25,.idx (.t 23) (.t 24),some (22,true)⟩,
 ⟨some 26,.call 70 [.t 25],some (22,true)⟩,
 ⟨some 27,.not (.t 26),some (22,true)⟩,
 ⟨some 28,.pick (.t 22) (.t 27) (.c (.b false)),none⟩,
 ⟨some 29,.mv (.t 28),none⟩,
 ⟨some 30,.mv (.t 1),some (29,false)⟩,
 ⟨some 31,.bin .eql (.t 30) (.c (.i .u64 16)),some (29,false)⟩,
 ⟨some 32,.mv (.t 31),some (29,false)⟩,
 ⟨some 33,.mv (.t 0),some (32,true)⟩,
 ⟨some 34,.mv (.t 8),some (32,true)⟩,
 ⟨some 35,.idx (.t 33) (.t 34),some (32,true)⟩,
 ⟨some 36,.call 61 [.t 35],some (32,true)⟩,
 ⟨some 37,.not (.t 36),some (32,true)⟩,
 ⟨some 38,.pick (.t 32) (.t 37) (.c (.b false)),some (29,false)⟩,
 ⟨some 39,.pick (.t 29) (.c (.b true)) (.t 38),none⟩])
 (.cond (.t 39)
 (.seq (.reg [⟨some 6,.mv (.c (.i .u64 0)),none⟩,
 ⟨some 7,.mv (.c (.i .i64 1)),none⟩])
 (.ret))
 (.skip))))
 (.reg [⟨some 18,.mv (.t 8),none⟩,
 ⟨some 19,.bin .add (.t 18) (.c (.i .i64 1)),none⟩,
 ⟨some 8,.mv (.t 19),none⟩]))))))
 (.seq (.reg [⟨some 9,.mv (.c (.i .u64 0)),none⟩])
 (.seq (.seq (.reg [⟨some 10,.mv (.c (.i .i64 0)),none⟩])
 (.blk 2
 (.loop
 (.seq (.seq (.reg [⟨some 40,.mv (.t 10),none⟩,
 ⟨some 41,.mv (.t 0),none⟩,
 ⟨some 42,.lens (.t 41),none⟩,
 ⟨some 43,.bin .lss (.t 40) (.t 42),none⟩])
 (.cond (.t 43)
 (.skip)
 (.exit 2)))
 (.seq (.blk 3
 (.seq (.reg [⟨some 46,.mv (.t 0),none⟩,
 ⟨some 47,.mv (.t 10),none⟩,
 ⟨some 48,.idx (.t 46) (.t 47),none⟩,
 ⟨some 49,.bin .sub (.t 48) (.c (.i .u8 48)),none⟩,
 ⟨some 50,.cvi .u64 (.t 49),none⟩,
 ⟨some 11,.mv (.t 50),none⟩])
 (.seq (.seq (.reg [⟨some 51,.mv (.t 0),none⟩,
 ⟨some 52,.mv (.t 10),none⟩,
 ⟨some 53,.idx (.t 51) (.t 52),none⟩,
 ⟨some 54,.bin .gtr (.t 53) (.c (.i .u8 57)),none⟩])
 (.cond (.t 54)
 (.reg [⟨some 55,.mv (.t 0),none⟩,
 ⟨some 56,.mv (.t 10),none⟩,
 ⟨some 57,.idx (.t 55) (.t 56),none⟩,
 ⟨some 58,.pu (.bits .or) [.t 57,.c (.i .u8 32)],none⟩,
 ⟨some 59,.cvi .u64 (.t 58),none⟩,
 ⟨some 60,.bin .sub (.t 59) (.c (.i .u64 97)),none⟩,
 ⟨some 61,.bin .add (.t 60) (.c (.i .u64 10)),none⟩,
 ⟨some 11,.mv (.t 61),none⟩])
 (.skip)))
 (.seq (.seq (.reg [⟨some 62,.mv (.t 9),none⟩,
 ⟨some 63,.mv (.t 2),none⟩,
 ⟨some 64,.mv (.t 1),none⟩,
 ⟨some 65,.bin .quo (.t 63) (.t 64),none⟩,
 ⟨some 66,.bin .gtr (.t 62) (.t 65),none⟩,
 ⟨some 67,.mv (.t 66),none⟩,
 ⟨some 68,.mv (.t 9),some (67,false)⟩,
 ⟨some 69,.mv (.t 1),some (67,false)⟩,
 ⟨some 70,.bin .mul (.t 68) (.t 69),some (67,false)⟩,
 ⟨some 71,.mv (.t 2),some (67,false)⟩,
 ⟨some 72,.mv (.t 11),some (67,false)⟩,
 ⟨some 73,.bin .sub (.t 71) (.t 72),some (67,false)⟩,
 ⟨some 74,.bin .gtr (.t 70) (.t 73),some (67,false)⟩,
 ⟨some 75,.pick (.t 67) (.c (.b true)) (.t 74),none⟩,
 ⟨some 76,.mv (.t 75),none⟩,
 ⟨some 77,.mv (.t 11),some (76,false)⟩,
 ⟨some 78,.mv (.t 2),some (76,false)⟩,
 ⟨some 79,.bin .gtr (.t 77) (.t 78),some (76,false)⟩,
 ⟨some 80,.pick (.t 76) (.c (.b true)) (.t 79),none⟩])
 (.cond (.t 80)
 (.seq (.reg [⟨some 6,.mv (.c (.i .u64 0)),none⟩,
 ⟨some 7,.mv (.c (.i .i64 4)),none⟩])
 (.ret))
 (.skip)))
 (.reg [⟨some 81,.mv (.t 9),none⟩,
 ⟨some 82,.mv (.t 1),none⟩,
 ⟨some 83,.bin .mul (.t 81) (.t 82),none⟩,
 ⟨some 84,.mv (.t 11),none⟩,
 ⟨some 85,.bin .add (.t 83) (.t 84),none⟩,
 ⟨some 9,.mv (.t 85),none⟩])))))
 (.reg [⟨some 44,.mv (.t 10),none⟩,
 ⟨some 45,.bin .add (.t 44) (.c (.i .i64 1)),none⟩,
 ⟨some 10,.mv (.t 45),none⟩]))))))
 (.seq (.reg [⟨some 86,.mv (.t 9),none⟩,
 ⟨some 6,.mv (.t 86),none⟩,
 ⟨some 7,.mv (.c (.i .i64 0)),none⟩])
 (.ret))))))
theorem is_ref04_parse:FnIs Tryz.prog 158 87 [.tmp 6,.tmp 7] c_ref04_parse:=⟨⟨_,_,Tryz.func158,rfl,rfl,by kernel_rfl,by kernel_rfl⟩⟩
def c_number_digit:SCode :=
 .seq (.reg [⟨some 2,.mv (.c (.i .u64 0)),none⟩])
 (.seq (.seq (.reg [⟨some 3,.mv (.t 0),none⟩,
 ⟨some 4,.call 98 [.t 3],none⟩])
 (.cond (.t 4)
 (.seq (.reg [⟨some 5,.mv (.t 0),none⟩,
 ⟨some 6,.bin .sub (.t 5) (.c (.i .u8 48)),none⟩,
 ⟨some 7,.cvi .u64 (.t 6),none⟩,
 ⟨some 2,.mv (.t 7),none⟩])
 (.ret))
 (.skip)))
 (.seq (.reg [⟨some 8,.mv (.t 0),none⟩,
 ⟨some 9,.pu (.bits .and) [.t 8,.c (.i .u8 223)],none⟩,
 ⟨some 10,.bin .sub (.t 9) (.c (.i .u8 65)),none⟩,
 ⟨some 11,.cvi .u64 (.t 10),none⟩,
 ⟨some 12,.bin .add (.t 11) (.c (.i .u64 10)),none⟩,
 ⟨some 2,.mv (.t 12),none⟩])
 (.ret)))
theorem is_number_digit:FnIs Tryz.prog 161 13 [.tmp 2] c_number_digit:=⟨⟨_,_,Tryz.func161,rfl,rfl,by kernel_rfl,by kernel_rfl⟩⟩
def c_internal_strconv_isPowerOfTwo:SCode :=
 .seq (.reg [⟨some 2,.mv (.c (.b false)),none⟩])
 (.seq (.reg [⟨some 3,.mv (.t 0),none⟩,
 ⟨some 4,.mv (.t 0),none⟩,
 ⟨some 5,.bin .sub (.t 4) (.c (.i .i64 1)),none⟩,
 ⟨some 6,.pu (.bits .and) [.t 3,.t 5],none⟩,
 ⟨some 7,.bin .eql (.t 6) (.c (.i .i64 0)),none⟩,
 ⟨some 2,.mv (.t 7),none⟩])
 (.ret))
theorem is_internal_strconv_isPowerOfTwo:FnIs Tryz.prog 167 8 [.tmp 2] c_internal_strconv_isPowerOfTwo:=⟨⟨_,_,Tryz.func167,rfl,rfl,by kernel_rfl,by kernel_rfl⟩⟩
end Go.Proofs.YtoefobpnkoifhaaGreatDoor.Sx
namespace Go.Proofs.YtoefobpnkoifhaaGreatDoor
open Go.RowKit Sx
theorem zgM (G:Gh) (I:Imm):∀ l:List (List UInt8),zac G I (l.map .s) (sv l)
 | [] => zac.nil
 | x :: l => by
  show zac G I (AV.s x :: l.map .s) (.string (S x) :: sv l)
  exact zac.cons (by simp [Den]) (zgM G I l)
theorem zeK {P:Program} [Tabs P] {f:FuncId} {args:List AV} {vs:List Value} {objs:List OB} {K:List OB → AV → Prop} (l:List (List UInt8)) (hne:0 < l.length) (hk:K objs (.row l.length (l.map .s))) (ha:zgH args=some vs)
  (h:∀ w,Calls P f vs.toArray w fun e w' => ∃ v,e=.returned v ∧ zbP w' w.heap.size v l ∧ Qb w w'):zal P f args objs K:=by
 intro C _ G I w hin hm ys hd
 rw [(zaH G I args vs ha ys).1 hd]
 refine (h w).mono ?_
 rintro e w' ⟨v,rfl,hr,hb⟩
 obtain ⟨g,cap,rfl,h1,h2,h3⟩:=hr.form hne
 have hg:w.grownBy w' none:=⟨hb.os,hb.tape,hb.output,Below.size hb,fun k hk _ => Below.block hb k hk⟩
 obtain ⟨I',s1,s2,s3,s4⟩:=zcz hin hm hg g l.length cap (l.map .s) (sv l) h1 h3 (zgM G I l) (sv_one l) (fun j u hj => by
  have hjl:j < l.length:=by
   have:=(List.getElem?_eq_some_iff.1 hj).1
   rwa [zdH] at this
  rw [hr.cell j hjl,← sv_get l j hjl]; exact hj)
 exact ⟨_,objs,.row l.length (l.map .s),G,I',rfl,hk,Gh.le.refl G,s1,s2,s3,s4⟩
section
variable [Tabs Tryz.prog] {objs:List OB} {K:List OB → AV → Prop}
theorem rSplit_k (s:List UInt8) (c:UInt8) (hs:s.length ≤ 1000000) (hk:K objs (.row (zam c s).length ((zam c s).map .s))):zal Tryz.prog 13 [.s s,.i .u8 c.toNat] objs K :=
 zeK (vs:=[.string (S s),.int .u8 c.toNat]) _ (zgf c s) hk rfl (fun w => zgm (S s) c w (by rw [zaP]; exact hs))
end
end Go.Proofs.YtoefobpnkoifhaaGreatDoor
namespace Go.Proofs.YtoefobpnkoifhaaGreatDoor
end Go.Proofs.YtoefobpnkoifhaaGreatDoor
namespace Go.Proofs.YtoefobpnkoifhaaGreatDoor
open Go.RowKit
def Obk (w:World) (g:Nat) (t:TypeId) (cs:Array Value):Prop:=w.heap[g]? = some (.cells cs t (0,0))
theorem Obk.lt {w:World} {g:Nat} {t:TypeId} {cs:Array Value} (h:Obk w g t cs):g < w.heap.size:=by
 rcases Nat.lt_or_ge g w.heap.size with h1 | h1
 ·exact h1
 ·unfold Obk at h; rw [Array.getElem?_eq_none h1] at h; cases h
theorem Obk.cell {w:World} {g:Nat} {t:TypeId} {cs:Array Value} (h:Obk w g t cs) (i:Nat):w.cell? ⟨g,i,none⟩=cs[i]?:=cell_of_row w g i cs t (0,0) h
theorem Obk.frozen {w:World} {g:Nat} {t:TypeId} {cs:Array Value} (h:Obk w g t cs) (i:Nat):w.frozen? ⟨g,i,none⟩=false:=by
 unfold Obk at h; simp [World.frozen?,h]
theorem Obk.new (w:World) (t:TypeId) (cs:Array Value):Obk (w.alloc (.cells cs t)) w.heap.size t cs:=heap_alloc_new w _
theorem Obk.alloc {w:World} {g:Nat} {t:TypeId} {cs:Array Value} (h:Obk w g t cs) (o:Obj):Obk (w.alloc o) g t cs:=(Below.heap_alloc w o g h.lt).trans h
theorem Obk.drew {w:World} {g:Nat} {t:TypeId} {cs:Array Value} (h:Obk w g t cs):Obk w.drew g t cs:=h
theorem Obk.drewN {w:World} {g:Nat} {t:TypeId} {cs:Array Value} (h:Obk w g t cs) (n:Nat):Obk (w.drewN n) g t cs:=h
theorem Obk.put {w:World} {g:Nat} {t:TypeId} {cs:Array Value} (h:Obk w g t cs) (i:Nat) (u:Value):Obk (w.setCell ⟨g,i,none⟩ u) g t (cs.setIfInBounds i u):=by
 unfold Obk at h ⊢
 simp [World.setCell,Array.getElem?_modify,h]
theorem Obk.far {w:World} {g:Nat} {t:TypeId} {cs:Array Value} (h:Obk w g t cs) {p:Addr} (hp:g ≠ p.block) (u:Value):Obk (w.setCell p u) g t cs:=(Below.heap_setCell w p u g hp).trans h
theorem Obk.st {w:World} {g:Nat} {t:TypeId} {cs:Array Value} (h:Obk w g t cs) (b o:Nat) (u:Value) (hne:g ≠ b):Obk (w.setCell ⟨b,o,none⟩ u) g t cs:=h.far (p:=⟨b,o,none⟩) hne u
theorem Qb.st {a c:World} (h:Qb a c) (b o:Nat) (u:Value) (hb:a.heap.size ≤ b):Qb a (c.setCell ⟨b,o,none⟩ u):=h.set (p:=⟨b,o,none⟩) hb u
theorem Obk.other {w w':World} {g b:Nat} {t:TypeId} {cs:Array Value} (h:Obk w g t cs) (hg:w.grownBy w' (some b)) (hne:g ≠ b):Obk w' g t cs:=(hg.block g h.lt (fun e => hne (Option.some.inj e))).trans h
end Go.Proofs.YtoefobpnkoifhaaGreatDoor
namespace Go.Proofs.YtoefobpnkoifhaaGreatDoor
open Go.RowKit
end Go.Proofs.YtoefobpnkoifhaaGreatDoor
namespace Go.Proofs.YtoefobpnkoifhaaGreatDoor
open Go.RowKit
def zdZ (l set:List UInt8):Nat:=l.findIdx fun c => zc1 c set
theorem idxS_le (l set:List UInt8):zdZ l set ≤ l.length:=List.findIdx_le_length
theorem idxS_at {l set:List UInt8} {k:Nat} (h:k < l.length) (h1:∀ j (hj:j < k),zc1 (l[j]'(by omega)) set=false) (h2:zc1 l[k] set=true):zdZ l set=k:=by
 unfold zdZ
 rw [List.findIdx_eq h]
 exact ⟨h2,fun j hj => by rw [h1 j hj]⟩
theorem zh7 {l set:List UInt8} (h1:∀ j (hj:j < l.length),zc1 l[j] set=false):zdZ l set=l.length:=by
 unfold zdZ
 rw [List.findIdx_eq_length]
 intro x hx
 obtain ⟨j,hj,rfl⟩:=List.getElem_of_mem hx
 rw [h1 j hj]
theorem zgn (s set:ByteArray) (w:World) (hs:s.size ≤ maxLen) (ha:set.size ≤ maxLen) :
  Calls Tryz.prog 14 #[.string s,.string set] w fun e w' => e=.returned (.int .i64 (zdZ s.data.toList set.data.toList)) ∧ w=w':=by
 have hm:=hs
 unfold maxLen at hm
 go_enter Tryz.func14,Tryz.ntmps14
 go_wp2_with fail
 go_loop [5] (fun i => ∃ k:Nat,k ≤ s.size ∧ i=.int .i64 k ∧ Hid (∀ j (hj:j < s.size),j < k → zc1 s[j] set.data.toList=false)) (fun i => s.size - (intOf i).toNat)
 case atStart => exact ⟨0,Nat.zero_le _,rfl,Lib.hid (fun j hj h => absurd h (Nat.not_lt_zero _))⟩
 case round =>
  obtain ⟨k,hk,rfl,HT⟩:=hrel
  by_cases hlt:k < s.size
  ·rcases hb:zc1 s[k] set.data.toList with _ | _
   ·have HB:=Lib.hid hb
    have HN:Hid (∀ j (hj:j < s.size),j < k + 1 → zc1 s[j] set.data.toList=false):=Lib.hid fun j hj h => by
     by_cases e:j=k
     ·subst e; exact HB.out
     ·exact HT.out j hj (by omega)
    clear hb
    go_wp2_with fail
    refine (zhi _ _ _ ha).mono ?_
    rintro e w' ⟨rfl,rfl⟩
    rw [HB.out]
    go_wp2_with fail
    go_round
    case rel => exact ⟨k + 1,by omega,by go_num,HN⟩
    case measure => simp [intOf]; omega
   ·have HB:=Lib.hid hb
    have HN:Hid (zdZ s.data.toList set.data.toList=k):=Lib.hid (idxS_at (by rw [zap]; exact hlt) (fun j hj => HT.out j (by omega) hj) hb)
    clear hb
    go_wp2_with fail
    refine (zhi _ _ _ ha).mono ?_
    rintro e w' ⟨rfl,rfl⟩
    rw [HB.out]
    go_wp2_with fail
    go_ret
    exact ⟨zco (by rw [HN.out]),rfl⟩
  ·have HN:Hid (zdZ s.data.toList set.data.toList=s.size):=Lib.hid (by
    rw [zh7 (fun j hj => HT.out j (by rw [zap] at hj; exact hj) (by rw [zap] at hj; omega)),zap])
   go_wp2_with fail
   go_ret
   exact ⟨zco (by rw [HN.out]),rfl⟩
end Go.Proofs.YtoefobpnkoifhaaGreatDoor
namespace Go.Proofs.YtoefobpnkoifhaaGreatDoor
end Go.Proofs.YtoefobpnkoifhaaGreatDoor
namespace Go.Proofs.YtoefobpnkoifhaaGreatDoor
open Go.RowKit Go.Sort
def Pw (w : World) : Prop := Lib.TabIs Tryz.prog w "internal/strconv.uint64pow10" .u64 Lib.pow10Tab
theorem Pw.keep {w w':World} (h:Pw w) (hq:Qb w w'):Pw w':=Lib.tabBelow_of_tabIs h w' hq
theorem Pw.drew {w:World} (h:Pw w):Pw w.drew:=h
theorem Pw.alloc {w:World} (h:Pw w) (o:Obj):Pw (w.alloc o):=Lib.tabIs_alloc h o
end Go.Proofs.YtoefobpnkoifhaaGreatDoor
namespace Go.Proofs.YtoefobpnkoifhaaGreatDoor
open Go.RowKit
end Go.Proofs.YtoefobpnkoifhaaGreatDoor
namespace Go.Proofs.YtoefobpnkoifhaaGreatDoor
open Go.RowKit Sx
theorem Qb.rev {w w':World} (h:w'=w):Qb w w':=by subst h; exact Qb.refl _
section
variable [Tabs Tryz.prog] {objs:List OB} {K:List OB → AV → Prop}
theorem zdM (s:List UInt8) (c:UInt8) (hk:K objs (.i .i64 (Lib.indexByte s c))):zal Tryz.prog 79 [.s s,.i .u8 c.toNat] objs K:=by
 have e:((c.toNat:Nat):Int).toNat.toUInt8=c:=by simp
 exact conv (vs:=[.string (S s),.int .u8 c.toNat]) rfl rfl (fun w => (Tryz.strings_IndexByte (S s) c.toNat w).mono fun e' w' ⟨h1,h2⟩ => ⟨by rw [h1,e],Qb.rev h2⟩) hk
theorem zb4 (s p:List UInt8) (hk:K objs (.b (Lib.hasPrefix s p))):zal Tryz.prog 117 [.s s,.s p] objs K :=
 conv (vs:=[.string (S s),.string (S p)]) rfl rfl (fun w => (Tryz.strings_HasPrefix (S s) (S p) w).mono fun e w' ⟨h1,h2⟩ => ⟨h1,Qb.rev h2⟩) hk
theorem zb5 (s p:List UInt8) (hk:K objs (.tup [.s (Lib.trimPrefix s p),.b (Lib.hasPrefix s p)])):zal Tryz.prog 82 [.s s,.s p] objs K :=
 conv (vs:=[.string (S s),.string (S p)]) rfl rfl (fun w => (Tryz.strings_CutPrefix (S s) (S p) w).mono fun e w' ⟨h1,h2⟩ => ⟨h1,Qb.rev h2⟩) hk
theorem sCut_k (s:List UInt8) (c:UInt8) (hs:s.length ≤ maxLen) (hk:K objs (.tup [.s (zaw c s).1,.s (zaw c s).2.1,.b (zaw c s).2.2])):zal Tryz.prog 11 [.s s,.s [c]] objs K :=
 conv (vs:=[.string (S s),.string (S [c])]) rfl rfl (fun w => zcL (S s) c w (by rw [zaP]; exact hs)) hk
theorem rIndex_k (s set:List UInt8) (hs:s.length ≤ maxLen) (ha:set.length ≤ maxLen) (hk:K objs (.i .i64 (zdZ s set))):zal Tryz.prog 14 [.s s,.s set] objs K :=
 convs (vs:=[.string (S s),.string (S set)]) rfl rfl (fun w => zgn (S s) (S set) w (by rw [zaP]; exact hs) (by rw [zaP]; exact ha)) hk
end
end Go.Proofs.YtoefobpnkoifhaaGreatDoor
namespace Go.Proofs.YtoefobpnkoifhaaGreatDoor.Sx
open Go.RowKit
section
variable {P:Program} [Tabs P] {C:Cx}
variable {F:zaq} {k:List IT} {objs:List OB} {tm:List AV}
end
end Go.Proofs.YtoefobpnkoifhaaGreatDoor.Sx
namespace Go.Proofs.YtoefobpnkoifhaaGreatDoor.Sx
open Go.RowKit
section
variable {P:Program} [Tabs P] {C:Cx} {F:zaq} {k:List IT} {objs:List OB} {tm:List AV}
end
end Go.Proofs.YtoefobpnkoifhaaGreatDoor.Sx
namespace Go.Proofs.YtoefobpnkoifhaaGreatDoor
open Go.RowKit Sx
section
variable [Tabs Tryz.prog] {objs:List OB} {K:List OB → AV → Prop}
end
end Go.Proofs.YtoefobpnkoifhaaGreatDoor
namespace Go.Proofs.YtoefobpnkoifhaaGreatDoor
open Go.RowKit Sx
section
variable [Tabs Tryz.prog] {objs:List OB} {K:List OB → AV → Prop}
end
end Go.Proofs.YtoefobpnkoifhaaGreatDoor
namespace Go.Proofs.YtoefobpnkoifhaaGreatDoor
open Go.RowKit Sx
end Go.Proofs.YtoefobpnkoifhaaGreatDoor
namespace Go.Proofs.YtoefobpnkoifhaaGreatDoor
open Go.RowKit Sx
section
variable [Tabs Tryz.prog] {objs:List OB} {K:List OB → AV → Prop}
end
end Go.Proofs.YtoefobpnkoifhaaGreatDoor
namespace Go.Proofs.YtoefobpnkoifhaaGreatDoor
open Go.RowKit Sx
theorem zc2 {α:Type} {l:List α} {b:Nat} {x:α} (h:l[b]? = some x):b < l.length:=by
 rcases Nat.lt_or_ge b l.length with h0 | h0
 ·exact h0
 ·rw [List.getElem?_eq_none h0] at h; cases h
theorem set_same {α:Type} {l:List α} {b:Nat} {x:α} (h:l[b]? = some x):l.set b x=l:=by
 apply List.ext_getElem?
 intro i
 rw [List.getElem?_set]
 split
 ·rename_i e; subst e; rw [if_pos (zc2 h),h]
 ·rfl
section
variable [Tabs Tryz.prog] {objs:List OB} {K:List OB → AV → Prop}
end
def zgy (objs:List OB) (b:Nat) (T:TypeId) (l:List UInt8):Prop :=
 (objs[b]? = some (.box T [.o (.pointer none),.nil]) ∧ l=[]) ∨ ∃ r gen,objs[b]? = some (.box T [.p b 0,.orow r gen]) ∧ objs[r]? = some (.orow 5 1 gen l.length (byA l))
def zdO (objs:List OB) (b:Nat):Option Nat :=
 match objs[b]? with
 | some (.box _ [_,.orow r _]) => some r
 | _ => none
def Kept (objs:List OB) (b:Nat) (objs':List OB):Prop:=objs.length ≤ objs'.length ∧ (∀ (j:Nat) ob,objs[j]? = some ob → j ≠ b → zdO objs b ≠ some j → objs'[j]? = some ob ∧ zdO objs' b ≠ some j)
theorem Kept.refl (objs:List OB) (b:Nat):Kept objs b objs:=⟨Nat.le_refl _,fun j ob h _ h2 => ⟨h,h2⟩⟩
theorem Kept.trans {o1 o2 o3:List OB} {b:Nat} (h:Kept o1 b o2) (k:Kept o2 b o3):Kept o1 b o3 :=
 ⟨Nat.le_trans h.1 k.1,fun j ob h1 h2 h3 => by
  obtain ⟨a1,a2⟩:=h.2 j ob h1 h2 h3
  exact k.2 j ob a1 h2 a2⟩
theorem zgy.lt {objs:List OB} {b:Nat} {T:TypeId} {l:List UInt8} (h:zgy objs b T l):b < objs.length ∧ ∀ r,zdO objs b=some r → r < objs.length:=by
 rcases h with ⟨h,_⟩ | ⟨r,gen,h,h2⟩
 ·refine ⟨zc2 h,fun r hr => ?_⟩
  unfold zdO at hr; rw [h] at hr; cases hr
 ·refine ⟨zc2 h,fun r' hr => ?_⟩
  unfold zdO at hr; rw [h] at hr; injection hr with hr; subst hr; exact zc2 h2
theorem zgy.app {objs:List OB} {b:Nat} {T:TypeId} {l:List UInt8} (h:zgy objs b T l) (more:List OB):zgy (objs ++ more) b T l ∧ zdO (objs ++ more) b=zdO objs b:=by
 have hlt:=h.lt.1
 have e:(objs ++ more)[b]? = objs[b]?:=List.getElem?_append_left hlt
 refine ⟨?_,by unfold zdO; rw [e]⟩
 rcases h with ⟨h,h2⟩ | ⟨r,gen,h,h2⟩
 ·exact .inl ⟨by rw [e]; exact h,h2⟩
 ·exact .inr ⟨r,gen,by rw [e]; exact h,by rw [List.getElem?_append_left (zc2 h2)]; exact h2⟩
theorem Kept.drop {objs more objs':List OB} {b:Nat} {T:TypeId} {l:List UInt8} (h:zgy objs b T l) (k:Kept (objs ++ more) b objs'):Kept objs b objs':=by
 refine ⟨by have:=k.1; simp at this; omega,fun j ob h1 h2 h3 => k.2 j ob (by rw [List.getElem?_append_left (zc2 h1)]; exact h1) h2 (by rw [(h.app more).2]; exact h3)⟩
section
variable [Tabs Tryz.prog] {objs:List OB} {K:List OB → AV → Prop}
end
end Go.Proofs.YtoefobpnkoifhaaGreatDoor
namespace Go.Proofs.YtoefobpnkoifhaaGreatDoor
open Go.RowKit Sx
section
variable [Tabs Tryz.prog] {objs:List OB} {K:List OB → AV → Prop}
end
end Go.Proofs.YtoefobpnkoifhaaGreatDoor
namespace Go.Proofs.YtoefobpnkoifhaaGreatDoor
open Go.RowKit Sx
def zav (l:List (List UInt8 × List UInt8)):List AV:=l.flatMap fun p => [.s p.1,.s p.2]
theorem zc5 (l:List (List UInt8 × List UInt8)):(zav l).length=l.length * 2:=by
 induction l with
 | nil => rfl
 | cons p l ih => simp [zav] at ih ⊢; omega
theorem zeG (l:List (List UInt8 × List UInt8)) (p:List UInt8 × List UInt8):zav (l ++ [p])=zav l ++ [.s p.1,.s p.2]:=by simp [zav]
theorem zcv (objs:List OB) (d:Nat):∀ l:List (List UInt8 × List UInt8),zcN objs d (zav l)=some (zav l)
 | [] => by simp [zcN,zav]
 | x :: l => by
  have h:=zcv objs d l
  have h1:∀ y,pub objs d (AV.s y)=some (AV.s y):=by intro y; cases d <;> simp [pub,AV.plain]
  show zcN objs d (AV.s x.1 :: AV.s x.2 :: zav l)=_
  simp only [zcN,h1,h]
  rfl
section
variable [Tabs Tryz.prog] {objs:List OB} {K:List OB → AV → Prop}
end
end Go.Proofs.YtoefobpnkoifhaaGreatDoor
namespace Go.Proofs.YtoefobpnkoifhaaGreatDoor
open Go.RowKit Sx
section
variable [Tabs Tryz.prog] {objs:List OB} {K:List OB → AV → Prop}
end
end Go.Proofs.YtoefobpnkoifhaaGreatDoor
namespace Go.Proofs.YtoefobpnkoifhaaGreatDoor
open Go.RowKit Sx
section
variable [Tabs Tryz.prog] {objs:List OB} {K:List OB → AV → Prop}
end
end Go.Proofs.YtoefobpnkoifhaaGreatDoor
namespace Go.Proofs.YtoefobpnkoifhaaGreatDoor
open Go.RowKit Sx
end Go.Proofs.YtoefobpnkoifhaaGreatDoor
namespace Go.Proofs.YtoefobpnkoifhaaGreatDoor
open Go.RowKit
end Go.Proofs.YtoefobpnkoifhaaGreatDoor
namespace Go.Proofs.YtoefobpnkoifhaaGreatDoor
open Go.RowKit
end Go.Proofs.YtoefobpnkoifhaaGreatDoor
namespace Go.Proofs.YtoefobpnkoifhaaGreatDoor
open Go.RowKit
theorem zbh.form {w:World} {B:Nat} {v:Value} {l:List UInt8} (h:zbh w B v l) (hl:0 < l.length):∃ g cap,v=.slice (some ⟨g,0,none⟩) l.length cap ∧ B ≤ g ∧ g < w.heap.size ∧ l.length ≤ cap:=by
 rcases h.2 with ⟨rfl,hn⟩ | ⟨g,cap,cur,rfl,hb,hg,hnc,_⟩
 ·omega
 ·refine ⟨g,cap,rfl,hb,?_,hnc⟩
  rcases Nat.lt_or_ge g w.heap.size with h1 | h1
  ·exact h1
  ·rw [Array.getElem?_eq_none h1] at hg; cases hg
theorem zbh.cap {w:World} {B g n cap:Nat} {l:List UInt8} (h:zbh w B (.slice (some ⟨g,0,none⟩) n cap) l):n=l.length ∧ n ≤ cap ∧ cap ≤ maxLen:=by
 rcases h.2 with ⟨e,_⟩ | ⟨g',cap',cur,e,hb,hg,hnc,hcm,_⟩
 ·simp at e
 ·simp only [Value.slice.injEq] at e
  obtain ⟨_,rfl,rfl⟩:=e
  exact ⟨rfl,hnc,hcm⟩
theorem zbh.pre {w:World} {B g n cap:Nat} {l:List UInt8} (h:zbh w B (.slice (some ⟨g,0,none⟩) n cap) l) (k:Nat) (hk:k ≤ l.length):zbh w B (.slice (some ⟨g,0,none⟩) k cap) (l.take k):=by
 rcases h.2 with ⟨e,_⟩ | ⟨g',cap',cur,e,hb,hg,hnc,hcm,hcs,ht⟩
 ·simp at e
 ·simp only [Value.slice.injEq] at e
  obtain ⟨hgg,rfl,rfl⟩:=e
  obtain rfl:g=g':=by simpa using hgg
  have hlen:(l.take k).length=k:=by rw [List.length_take]; omega
  refine ⟨by rw [zbM]; simp,.inr ⟨g,cap,cur,by rw [hlen],hb,hg,by rw [hlen]; omega,hcm,hcs,?_⟩⟩
  rw [hlen]
  have:=congrArg (List.take k) ht
  rw [Nat.mul_one] at this ⊢
  rw [List.take_take,Nat.min_eq_left hk] at this
  rw [this]
  simp [bv,List.map_take]
end Go.Proofs.YtoefobpnkoifhaaGreatDoor
namespace Go.Proofs.YtoefobpnkoifhaaGreatDoor
open Go.RowKit
end Go.Proofs.YtoefobpnkoifhaaGreatDoor
namespace Go.Proofs.YtoefobpnkoifhaaGreatDoor
open Go.RowKit
attribute [local go_sem ↓] Go.wp_at_zero Go.wp_at_succ
end Go.Proofs.YtoefobpnkoifhaaGreatDoor
namespace Go.Proofs.YtoefobpnkoifhaaGreatDoor
open Go.RowKit Sx
theorem zeR (G:Gh) (I:Imm):∀ (xs:List (List UInt8)) (ys:List Value),zac G I (xs.map .s) ys → ys=xs.map fun l => .string ⟨l.toArray⟩
 | [],ys,h => by simpa [zac] using h
 | x :: xs,ys,h => by
  simp only [List.map_cons,zac,Den] at h
  obtain ⟨y,ys',rfl,rfl,h2⟩:=h
  rw [zeR G I xs ys' h2]; rfl
section
variable [Tabs Tryz.prog] {objs:List OB} {K:List OB → AV → Prop}
theorem zhJ (s:List UInt8) (c:Int) (hs:s.length < 4611686018427387904) (hk:K objs (.i .i64 (Lib.lastIndexByte (S s) c))):zal Tryz.prog 119 [.s s,.i .u8 c] objs K :=
 conv (vs:=[.string (S s),.int .u8 c]) rfl rfl (fun w => (Tryz.strings_LastIndexByte (S s) c (by rw [zaP]; exact hs) w).mono fun e w' ⟨h1,h2⟩ => ⟨h1,Qb.rev h2⟩) hk
theorem sJoin_k (xs:List (List UInt8)) (sep:List UInt8) (hN:xs.length ≤ 140737488355328) (hl:(Lib.join xs sep).length ≤ 140737488355328) (hk:K objs (.s (Lib.join xs sep))):zal Tryz.prog 121 [.row xs.length (xs.map .s),.s sep] objs K:=by
 refine zcJ (.s (Lib.join xs sep)) hk fun G I w ys hm hd => ?_
 simp only [zac,Den] at hd
 obtain ⟨y,ys',rfl,⟨a,c,zs,rfl,⟨hc,_⟩,hz,_,hi⟩,y2,ys2,rfl,rfl,rfl⟩:=hd
 have hz:=zeR G I xs zs hz
 subst hz
 refine ⟨_,?_,rfl⟩
 cases xs with
 | nil =>
  refine (Tryz.strings_Join_none a c (S sep) w).mono ?_
  rintro e w' ⟨rfl,rfl⟩
  exact ⟨by rw [show Lib.join [] sep=[] from rfl],Qb.refl _⟩
 | cons x xs =>
  obtain ⟨g,off,rfl,h0⟩:=hi 0 _ rfl
  have hcell:∀ (j:Nat) z,((x :: xs).map (fun l:List UInt8 => (⟨l.toArray⟩:ByteArray)))[j]? = some z → w.cell? ⟨g,off + j,none⟩=some (.string z):=by
   intro j z hj
   rw [List.getElem?_map] at hj
   obtain ⟨l,hl,rfl⟩:=Option.map_eq_some_iff.1 hj
   obtain ⟨g',off',e,h1⟩:=hi j _ (by rw [List.getElem?_map,hl]; rfl)
   cases e
   exact hm.imm _ _ _ h1
  have e1:((x :: xs).map (fun l:List UInt8 => (⟨l.toArray⟩:ByteArray))).map (·.data.toList)=x :: xs:=by
   rw [List.map_map]; simp [Function.comp_def]
  have:=Tryz.strings_Join g off c ((x :: xs).map fun l => ⟨l.toArray⟩) (S sep) w hcell (World.block_lt_of_cell? (h:=hcell 0 _ rfl)) (by simpa using hN) (by simpa using hc) (by rw [e1,zca]; exact hl)
  rw [e1,zca,List.length_map] at this
  exact this
end
end Go.Proofs.YtoefobpnkoifhaaGreatDoor
namespace Go.Proofs.YtoefobpnkoifhaaGreatDoor
open Go.RowKit Sx
theorem zgw {P:Program} [Tabs P] {f:FuncId} {args:List AV} {objs:List OB} {K:List OB → AV → Prop} (r':AV) (hc:zal P f args objs (fun o r => (∀ G I y,Den G I r y → Den G I r' y) ∧ K o r')):zal P f args objs K:=by
 intro C _ G I w hin hm ys hd
 refine (hc C G I w hin hm ys hd).mono ?_
 rintro e w' ⟨y,objs',r,G',I',he,⟨hr,hk⟩,h1,h2,h3,h4,hy⟩
 exact ⟨y,objs',r',G',I',he,hk,h1,h2,h3,h4,hr _ _ _ hy⟩
theorem zcG {G:Gh} {I:Imm} {y:Value} (h:Den G I .nil y):Den G I (.row 0 []) y:=by
 simp only [Den] at h ⊢
 exact ⟨none,0,[],h,⟨Nat.le_refl _,fun ad h => by cases h⟩,zac.nil,by simp,by simp⟩
theorem zfI:∀ l:List (List UInt8 × List UInt8),zan (zav l)=true
 | [] => rfl
 | p :: l => zfI l
theorem fc_at {l:List (List UInt8 × List UInt8)} {i:Nat} (h:i < l.length):((zav l).drop (i * 2)).take 2=[.s l[i].1,.s l[i].2]:=by
 induction l generalizing i with
 | nil => simp at h
 | cons p l ih =>
  cases i with
  | zero => rfl
  | succ i =>
   have e:(i + 1) * 2=i * 2 + 1 + 1:=by omega
   rw [e]
   show ((zav l).drop (i * 2)).take 2=_
   rw [ih (by simpa using h)]
   rfl
section
variable [Tabs Tryz.prog] {objs:List OB} {K:List OB → AV → Prop}
end
end Go.Proofs.YtoefobpnkoifhaaGreatDoor
namespace Go.Proofs.YtoefobpnkoifhaaGreatDoor
open Nat renaming reduceAdd → z6, reduceSub → z7, reduceLeDiff → z8, reduceLT → j4, reduceMul → j5, reduceEqDiff → j6
open Int renaming reduceToNat → j7, reduceAdd → j8, reduceSub → j9, reduceMul → x0, reduceNeg → x3, reduceLT → x4, reduceLE → x5, reduceEq → x6, reduceNe → x7
open Go.RowKit Sx
section
variable [Tabs Tryz.prog] {objs:List OB} {K:List OB → AV → Prop}
theorem zdL (a b:List (List UInt8 × List UInt8)) (ha:a.length ≤ 1000000) (hk:K objs (.b (decide (a=b)))):zal Tryz.prog 5 [.row a.length (zav a),.row b.length (zav b)] objs K:=by
 refine fn_rn is_ref18_SameFields (by simp [zan,AV.plain,zfI]) fun C _ => ?_
 by_cases c1:(a.length:Int)=b.length
 ·simp only [c1,c_ref18_SameFields,sxZ,z6,z7,z8,j4,j5,j6,j7,j8,j9,x0,x3,x4,x5,x6,x7,reduceCtorEq,↓reduceIte]
  have c1':a.length=b.length:=by omega
  refine zg1 (fun n objs tm => ∃ i:Nat,i ≤ a.length ∧ n=a.length - i ∧ tm.length=26 ∧ tm[0]? = some (.row a.length (zav a)) ∧ tm[1]? = some (.row b.length (zav b)) ∧ tm[12]? = some (.i .i64 b.length) ∧ tm[13]? = some (.i .i64 i) ∧ a.take i=b.take i) a.length ⟨0,Nat.zero_le _,rfl,rfl,rfl,rfl,rfl,rfl,rfl⟩ ?_
  rintro n objs tm ⟨i,hi,rfl,hlen,t0,t1,t12,t13,hall⟩
  by_cases hlt:(i:Int) < b.length
  ·have hlt':i < a.length:=by omega
   have hltb:i < b.length:=by omega
   have hat:=fc_at hlt'
   have hbt:=fc_at hltb
   have hfl:=zc5 a
   have hfb:=zc5 b
   have hne:a[i] ≠ b[i] → a ≠ b:=by
    rintro h rfl; exact h rfl
   have e:(decide (a[i].1=b[i].1) && decide (a[i].2=b[i].2))=decide (a[i]=b[i]):=by
    rw [← Bool.decide_and,decide_eq_decide]
    exact ⟨fun h => Prod.ext h.1 h.2,fun h => by rw [h]; exact ⟨rfl,rfl⟩⟩
   by_cases c2:a[i]=b[i]
   ·rw [decide_eq_true c2] at e
    simp only [sxZ,z6,z7,z8,j4,j5,j6,j7,j8,j9,x0,x3,x4,x5,x6,x7,reduceCtorEq,↓reduceIte,List.getElem?_set,hlen,t0,t1,t12,t13,hlt,Int.toNat_natCast,hat,hbt,e]
    refine ⟨⟨by omega,by omega⟩,by omega,⟨by omega,by omega⟩,by omega,⟨by omega,by omega⟩,a.length - (i + 1),by omega,i + 1,by omega,rfl,rfl,?_⟩
    rw [List.take_succ_eq_append_getElem hlt',List.take_succ_eq_append_getElem hltb,hall,c2]
   ·rw [decide_eq_false c2] at e
    rw [decide_eq_false (hne c2)] at hk
    simp only [sxZ,z6,z7,z8,j4,j5,j6,j7,j8,j9,x0,x3,x4,x5,x6,x7,reduceCtorEq,↓reduceIte,List.getElem?_set,hlen,t0,t1,t12,t13,hlt,Int.toNat_natCast,hat,hbt,e]
    exact ⟨⟨by omega,by omega⟩,by omega,⟨by omega,by omega⟩,by omega,hk⟩
  ·obtain rfl:i=a.length:=by omega
   rw [List.take_of_length_le (Nat.le_refl _),List.take_of_length_le (by omega)] at hall
   rw [decide_eq_true hall] at hk
   simp only [sxZ,z6,z7,z8,j4,j5,j6,j7,j8,j9,x0,x3,x4,x5,x6,x7,reduceCtorEq,↓reduceIte,List.getElem?_set,hlen,t0,t1,t12,t13,hlt]
   exact hk
 ·rw [decide_eq_false (by rintro rfl; exact c1 rfl)] at hk
  simp only [c1,c_ref18_SameFields,sxZ,z6,z7,z8,j4,j5,j6,j7,j8,j9,x0,x3,x4,x5,x6,x7,reduceCtorEq,↓reduceIte]
  exact hk
end
section
attribute [local irreducible] run
theorem zir:∀ (l:List (List UInt8 × List UInt8)),∀ u ∈ fvs l,u.oneCell'=true
 | [],u,h => by cases h
 | p :: l,u,h => by
  have h:u ∈ [Value.string (S p.1),.string (S p.2)] ++ fvs l:=h
  rcases List.mem_append.1 h with h | h
  ·simp only [List.mem_cons,List.mem_singleton,List.not_mem_nil,or_false] at h
   rcases h with rfl | rfl <;> rfl
  ·exact zir l u h
theorem zfD (G:Gh) (I:Imm):∀ l:List (List UInt8 × List UInt8),zac G I (zav l) (fvs l)
 | [] => zac.nil
 | p :: l => by
  show zac G I (.s p.1 :: .s p.2 :: zav l) (.string (S p.1) :: .string (S p.2) :: fvs l)
  exact zac.cons (by simp [Den]) (zac.cons (by simp [Den]) (zfD G I l))
theorem zeL {P:Program} [Tabs P] {f:FuncId} {args:List AV} {vs:List Value} {objs:List OB} {K:List OB → AV → Prop} {T:TypeId} (l:List (List UInt8 × List UInt8)) (hk:K objs (.row l.length (zav l))) (ha:zgH args=some vs)
  (h:∀ w,Calls P f vs.toArray w fun e w' => ∃ v,e=.returned v ∧ w'.ownsRow w.heap.size T 2 v l.length (fvs l) ∧ Qb w w'):zal P f args objs K:=by
 intro C _ G I w hin hm ys hd
 rw [(zaH G I args vs ha ys).1 hd]
 refine (h w).mono ?_
 rintro e w' ⟨v,rfl,hr,hb⟩
 have hg:w.grownBy w' none:=⟨hb.os,hb.tape,hb.output,Below.size hb,fun k hk _ => Below.block hb k hk⟩
 rcases hr.2 with ⟨rfl,h0⟩ | ⟨g,cap,cur,rfl,h1,h2,h3,h4,h5,h6⟩
 ·obtain rfl:l=[]:=List.length_eq_zero_iff.1 h0
  refine ⟨_,objs,.row 0 [],G,I,rfl,hk,Gh.le.refl G,Imm.le.refl I,hin.evolve hg (by simp),hm.evolve hg,zcG (by simp [Den])⟩
 ·obtain ⟨I',s1,s2,s3,s4⟩:=zcz hin hm hg g l.length cap (zav l) (fvs l) h1 h3 (zfD G I l) (zir l) (fun j u hj => by
   rw [← h6,List.getElem?_take] at hj
   split at hj
   ·rw [Array.getElem?_toList] at hj
    simp only [World.cell?,h2]
    exact hj
   ·cases hj)
  exact ⟨_,objs,.row l.length (zav l),G,I',rfl,hk,Gh.le.refl G,s1,s2,s3,s4⟩
theorem zf6 (c:UInt8):∀ l:List UInt8,(zaw c l).1=l.take (zdZ l [c]) ∧ (zaw c l).2.1=l.drop (zdZ l [c] + 1)
 | [] => ⟨rfl,rfl⟩
 | x :: l => by
  have ih:=zf6 c l
  rw [zeb]
  have e:zdZ (x :: l) [c]=if x=c then 0 else zdZ l [c] + 1:=by
   unfold zdZ
   rw [List.findIdx_cons]
   by_cases h:x=c
   ·subst h
    have:zc1 x [x]=true:=by simp [zc1]
    rw [this,if_pos rfl]; rfl
   ·have:zc1 x [c]=false:=by simp [zc1,h]
    rw [this,if_neg h]; rfl
  rw [e]
  by_cases h:x=c
  ·rw [if_pos h,if_pos h]; exact ⟨rfl,rfl⟩
  ·rw [if_neg h,if_neg h,List.take_succ_cons,List.drop_succ_cons]
   exact ⟨congrArg _ ih.1,ih.2⟩
def gotP (s:List UInt8) (i:Nat):List (List UInt8 × List UInt8):=zdo (((zam 38 s).take i).filter fun x => !x.isEmpty)
theorem zio (s:List UInt8) {i:Nat} (h:i < (zam 38 s).length):gotP s (i + 1)=gotP s i ++ if (zam 38 s)[i].isEmpty=true then [] else zeh (zam 38 s)[i]:=by
 unfold gotP
 rw [List.take_succ_eq_append_getElem h,List.filter_append]
 cases e:(zam 38 s)[i].isEmpty <;> simp [zdo,e]
theorem zet:∀ l:List (List UInt8),(zdo l).length ≤ l.length
 | [] => Nat.le_refl _
 | a :: l => by
  rw [show zdo (a :: l)=zeh a ++ zdo l from rfl,List.length_append,List.length_cons]
  have h:=zet l
  have:(zeh a).length ≤ 1:=by unfold zeh; split <;> simp
  omega
theorem gotP_len (s:List UInt8) (h:(zam 38 s).length ≤ s.length + 1) (hs:s.length ≤ 1000000) (i:Nat):(gotP s i).length ≤ 2000000:=by
 have h2:=zet (((zam 38 s).take i).filter fun x => !x.isEmpty)
 have h3:=List.length_filter_le (fun x:List UInt8 => !x.isEmpty) ((zam 38 s).take i)
 rw [List.length_take] at h3
 unfold gotP
 omega
def GotS (l:List (List UInt8 × List UInt8)) (objs:List OB) (X:AV):Prop:=(l=[] ∧ objs=[] ∧ X=.nil) ∨ ∃ m,l.length=m + 1 ∧ objs=[.orow 41 2 m l.length (zav l)] ∧ X=.orow 0 m
section
variable [Tabs Tryz.prog] {objs:List OB} {K:List OB → AV → Prop}
theorem zff (s:List UInt8) (hs:s.length ≤ 1000000) (hk:K objs (.row (zdo (zbz s)).length (zav (zdo (zbz s))))):zal Tryz.prog 6 [.s s] objs K :=
 zeL (vs:=[.string (S s)]) _ hk rfl (fun w => zgp s hs w)
theorem rDec29_k (s:List UInt8) (hk:K objs (.tup [.s (zcP s).2,.i .i64 (zcP s).1])):zal Tryz.prog 15 [.s s] objs K :=
 conv (vs:=[.string (S s)]) rfl rfl (fun w => zeq (S s) w) hk
theorem rTail_k (s:List UInt8) (k:Nat) (hs:s.length ≤ 1000000) (h2:k ≤ 2000000) (hk:K objs (.s (s.drop k))):zal Tryz.prog 16 [.s s,.i .i64 (k:Nat)] objs K:=by
 refine fn_rn is_ref29_tail rfl fun C _ => ?_
 by_cases c:(s.length:Int) ≤ k
 ·simp only [c,c_ref29_tail,sxZ,z6,z7,z8,j4,j5,j6,j7,j8,j9,x0,x3,x4,x5,x6,x7,reduceCtorEq,↓reduceIte]
  rw [List.drop_eq_nil_of_le (by omega)] at hk
  exact hk
 ·simp only [c,c_ref29_tail,sxZ,z6,z7,z8,j4,j5,j6,j7,j8,j9,x0,x3,x4,x5,x6,x7,reduceCtorEq,↓reduceIte,Int.toNat_natCast]
  exact ⟨by omega,hk⟩
theorem zhh (s:List UInt8) (hs:s.length ≤ 1000000) (hk:K objs (.row (zdo (zbz s)).length (zav (zdo (zbz s))))):zal Tryz.prog 7 [.s s] objs K:=by
 refine zgw (.row (zdo (zbz s)).length (zav (zdo (zbz s)))) (fn_rn is_ref29_Params rfl fun C _ => ?_)
 simp only [c_ref29_Params,sxZ,z6,z7,z8,j4,j5,j6,j7,j8,j9,x0,x3,x4,x5,x6,x7,reduceCtorEq,↓reduceIte]
 have hsl:=zbR 38 s
 refine zdW (rSplit_k s 38 hs ?_)
 simp only [sxZ,z6,z7,z8,j4,j5,j6,j7,j8,j9,x0,x3,x4,x5,x6,x7,reduceCtorEq,↓reduceIte]
 refine zg1 (fun n objs tm => ∃ (i:Nat) (X:AV),i ≤ (zam 38 s).length ∧ n=(zam 38 s).length - i ∧ GotS (gotP s i) objs X ∧ tm.length=42 ∧ tm[3]? = some X ∧ tm[10]? = some (.row (zam 38 s).length ((zam 38 s).map .s)) ∧ tm[11]? = some (.i .i64 (zam 38 s).length) ∧ tm[12]? = some (.i .i64 i)) (zam 38 s).length ⟨0,.nil,Nat.zero_le _,rfl,.inl ⟨rfl,rfl,rfl⟩,rfl,rfl,rfl,rfl,rfl⟩ ?_
 rintro n objs tm ⟨i,X,hi,rfl,hg,hlen,t3,t10,t11,t12⟩
 by_cases hlt:(i:Int) < (zam 38 s).length
 ·have hlt':i < (zam 38 s).length:=by omega
  have hat:((zam 38 s).map AV.s)[i * 1]? = some (.s (zam 38 s)[i]):=by rw [Nat.mul_one,List.getElem?_map,List.getElem?_eq_getElem hlt']; rfl
  have hx1:=Nat.le_trans (zce 38 s _ (List.getElem_mem hlt')) hs
  have hstep:=zio s hlt'
  simp only [sxZ,z6,z7,z8,j4,j5,j6,j7,j8,j9,x0,x3,x4,x5,x6,x7,reduceCtorEq,↓reduceIte,List.getElem?_set,hlen,t3,t10,t11,t12,hlt,Int.toNat_natCast,hat]
  generalize (zam 38 s)[i]=x at hx1 hstep
  have hci:=zf6 61 x
  have hil:=idxS_le x [61]
  refine ⟨⟨by omega,by rw [List.length_map]; omega⟩,zdW (rIndex_k x [61] (by unfold maxLen; omega) (by decide) ?_)⟩
  simp only [sxZ,z6,z7,z8,j4,j5,j6,j7,j8,j9,x0,x3,x4,x5,x6,x7,reduceCtorEq,↓reduceIte,List.getElem?_set,hlen,t3,t10,t11,t12,Int.toNat_natCast]
  refine ⟨by omega,?_⟩
  rw [show ((zdZ x [61]:Nat):Int) + 1=((zdZ x [61] + 1:Nat):Int) from rfl]
  refine zdW (rTail_k x (zdZ x [61] + 1) hx1 (by omega) ?_)
  simp only [sxZ,z6,z7,z8,j4,j5,j6,j7,j8,j9,x0,x3,x4,x5,x6,x7,reduceCtorEq,↓reduceIte,List.getElem?_set,hlen,t3,t10,t11,t12,Int.toNat_natCast]
  refine zdW (rDec29_k _ ?_)
  rw [← hci.2]
  simp only [sxZ,z6,z7,z8,j4,j5,j6,j7,j8,j9,x0,x3,x4,x5,x6,x7,reduceCtorEq,↓reduceIte,List.getElem?_set,hlen,t3,t10,t11,t12,Int.toNat_natCast]
  have hpl:(gotP s i).length ≤ 2000000:=gotP_len s hsl hs i
  by_cases c0:x=[]
  ·subst c0
   rw [show ([]:List UInt8).isEmpty=true from rfl,if_pos rfl,List.append_nil] at hstep
   simp only [sxZ,z6,z7,z8,j4,j5,j6,j7,j8,j9,x0,x3,x4,x5,x6,x7,reduceCtorEq,↓reduceIte,List.getElem?_set,hlen,t3,t10,t11,t12,Int.toNat_natCast]
   exact ⟨by omega,(zam 38 s).length - (i + 1),by omega,i + 1,X,by omega,rfl,by rw [hstep]; exact hg,rfl,rfl⟩
  ·rw [if_neg (by cases x with
    | nil => exact absurd rfl c0
    | cons _ _ => exact Bool.false_ne_true)] at hstep
   by_cases cd:(zcP (zaw 61 x).2.1).1=0
   ·have ho:zeh x=[((zaw 61 x).1,(zcP (zaw 61 x).2.1).2)]:=if_pos cd
    rw [ho] at hstep
    rcases hg with ⟨h1,rfl,rfl⟩ | ⟨m,h1,rfl,rfl⟩
    ·simp only [c0,cd,sxZ,z6,z7,z8,j4,j5,j6,j7,j8,j9,x0,x3,x4,x5,x6,x7,reduceCtorEq,↓reduceIte,List.getElem?_set,hlen,t3,t10,t11,t12,Int.toNat_natCast]
     refine ⟨⟨by omega,by omega⟩,⟨by omega,by omega⟩,(zam 38 s).length - (i + 1),by omega,i + 1,.orow 0 0,by omega,rfl,.inr ⟨0,?_,?_,rfl⟩,rfl,rfl⟩
     ·rw [hstep,h1]; rfl
     ·rw [hstep,h1,← hci.1]; rfl
    ·simp only [c0,cd,sxZ,z6,z7,z8,j4,j5,j6,j7,j8,j9,x0,x3,x4,x5,x6,x7,reduceCtorEq,↓reduceIte,List.getElem?_set,hlen,t3,t10,t11,t12,Int.toNat_natCast]
     refine ⟨⟨by omega,by omega⟩,⟨by omega,by omega⟩,⟨by omega,by omega⟩,(zam 38 s).length - (i + 1),by omega,i + 1,.orow 0 (m + 1),by omega,rfl,.inr ⟨m + 1,?_,?_,rfl⟩,rfl,rfl⟩
     ·rw [hstep,List.length_append,h1]; rfl
     ·rw [hstep,zeG,List.length_append,← hci.1]; rfl
   ·have ho:zeh x=[]:=if_neg cd
    rw [ho,List.append_nil] at hstep
    simp only [c0,cd,sxZ,z6,z7,z8,j4,j5,j6,j7,j8,j9,x0,x3,x4,x5,x6,x7,reduceCtorEq,↓reduceIte,List.getElem?_set,hlen,t3,t10,t11,t12,Int.toNat_natCast]
    exact ⟨by omega,(zam 38 s).length - (i + 1),by omega,i + 1,X,by omega,rfl,by rw [hstep]; exact hg,rfl,rfl⟩
 ·obtain rfl:i=(zam 38 s).length:=by omega
  have e:gotP s (zam 38 s).length=zdo (zbz s):=by unfold gotP zbz; rw [List.take_of_length_le (Nat.le_refl _)]
  rw [e] at hg
  rcases hg with ⟨h1,rfl,rfl⟩ | ⟨m,h1,rfl,rfl⟩
  ·rw [h1] at hk ⊢
   simp only [sxZ,z6,z7,z8,j4,j5,j6,j7,j8,j9,x0,x3,x4,x5,x6,x7,reduceCtorEq,↓reduceIte,List.getElem?_set,hlen,t3,t10,t11,t12,hlt]
   exact ⟨fun G I y => zcG,hk⟩
  ·simp only [sxZ,z6,z7,z8,j4,j5,j6,j7,j8,j9,x0,x3,x4,x5,x6,x7,reduceCtorEq,↓reduceIte,List.getElem?_set,hlen,t3,t10,t11,t12,hlt,zcv]
   exact ⟨fun _ _ _ h => h,hk⟩
end
end
end Go.Proofs.YtoefobpnkoifhaaGreatDoor
namespace Go.Proofs.YtoefobpnkoifhaaGreatDoor
open Go.RowKit Sx
section
variable [Tabs Tryz.prog] {objs:List OB} {K:List OB → AV → Prop}
end
end Go.Proofs.YtoefobpnkoifhaaGreatDoor
namespace Go.Proofs.YtoefobpnkoifhaaGreatDoor
open Go.RowKit
end Go.Proofs.YtoefobpnkoifhaaGreatDoor
namespace Go.Proofs.YtoefobpnkoifhaaGreatDoor
end Go.Proofs.YtoefobpnkoifhaaGreatDoor
namespace Go.Proofs.YtoefobpnkoifhaaGreatDoor
open Go.RowKit
end Go.Proofs.YtoefobpnkoifhaaGreatDoor
namespace Go.Proofs.YtoefobpnkoifhaaGreatDoor
open Go.RowKit
end Go.Proofs.YtoefobpnkoifhaaGreatDoor
namespace Go.Proofs.YtoefobpnkoifhaaGreatDoor
end Go.Proofs.YtoefobpnkoifhaaGreatDoor
namespace Go.Proofs.YtoefobpnkoifhaaGreatDoor
open Go.RowKit Sx
section
variable [Tabs Tryz.prog] {objs:List OB} {K:List OB → AV → Prop}
end
end Go.Proofs.YtoefobpnkoifhaaGreatDoor
namespace Go.Proofs.YtoefobpnkoifhaaGreatDoor
end Go.Proofs.YtoefobpnkoifhaaGreatDoor
namespace Go.Proofs.YtoefobpnkoifhaaGreatDoor
open Go.RowKit Sx
section
variable [Tabs Tryz.prog] {objs:List OB} {K:List OB → AV → Prop}
end
end Go.Proofs.YtoefobpnkoifhaaGreatDoor
