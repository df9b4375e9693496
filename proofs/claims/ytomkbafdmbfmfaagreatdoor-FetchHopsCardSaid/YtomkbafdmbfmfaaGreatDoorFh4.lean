/- The texts that the proofs of these statements reach, in their order, as few files. -/
import Derived.Test.YtomkbafdmbfmfaaGreatDoorProg
import Derived.BigRegion
import Derived.Deep.RegionLaw
import Derived.Deep.RegionHeldLaw
import Derived.Deep.DrawnRows
import Derived.Lib.Join
import Derived.Lib.LastIndexByte
import Derived.ProofKit
import Derived.OpenShut
import Derived.ShutString
import Derived.Carry
import Derived.WideKeyArgs
import Derived.SizedLaws
import Derived.Test.YtomkbafdmbfmfaaGreatDoorFh3
set_option linter.unusedVariables false
set_option linter.unusedSimpArgs false
set_option maxRecDepth 100000
namespace Go.Proofs.YtomkbafdmbfmfaaGreatDoor.Sx
open Go.RowKit
open Option renaming some -> Sa, none -> Sb
def c_head_headerLine:SCode :=.seq (.reg [⟨Sa 2,.alloc 74 [.s [],.s []],Sb⟩,⟨Sa 3,.mv (.c (.b false)),Sb⟩]) (.seq (.reg [⟨Sa 8,.mv (.t 0),Sb⟩,⟨Sa 9,.call 125 [.t 8,.c (.s [58])],Sb⟩,⟨Sa 7,.mv (.t 9),Sb⟩,⟨Sa 10,.ext (.t 7) 0,Sb⟩,⟨Sa 11,.ext (.t 7) 1,Sb⟩,⟨Sa 12,.ext (.t 7) 2,Sb⟩,⟨Sa 4,.mv (.t 10),Sb⟩,⟨Sa 5,.mv (.t 11),Sb⟩,⟨Sa 6,.mv (.t 12),Sb⟩]) (.seq (.seq (.reg [⟨Sa 13,.mv (.t 6),Sb⟩,⟨Sa 14,.not (.t 13),Sb⟩,⟨Sa 15,.mv (.t 14),Sb⟩,⟨Sa 16,.mv (.t 4),some (15,false)⟩,⟨Sa 17,.call 183 [.t 16],some (15,false)⟩,⟨Sa 18,.not (.t 17),some (15,false)⟩,⟨Sa 19,.pick (.t 15) (.c (.b true)) (.t 18),Sb⟩,⟨Sa 20,.mv (.t 19),Sb⟩,⟨Sa 21,.mv (.t 5),some (20,false)⟩,⟨Sa 22,.call 182 [.t 21],some (20,false)⟩,⟨Sa 23,.not (.t 22),some (20,false)⟩,⟨Sa 24,.pick (.t 20) (.c (.b true)) (.t 23),Sb⟩]) (.cond (.t 24) (.seq (.reg [⟨Sa 25,.build [.s [],.s []] [],Sb⟩,⟨Sb,.store 2 (.t 2) (.t 25),Sb⟩,⟨Sa 3,.mv (.c (.b false)),Sb⟩]) (.ret)) (.skip))) (.seq (.reg [⟨Sa 26,.mv (.t 4),Sb⟩,⟨Sa 27,.call 120 [.t 26],Sb⟩,⟨Sa 28,.mv (.t 5),Sb⟩,⟨Sa 29,.call 184 [.t 28],Sb⟩,⟨Sa 30,.build [.s [],.s []] [(0,(1,.t 27)),(1,(1,.t 29))],Sb⟩,⟨Sb,.store 2 (.t 2) (.t 30),Sb⟩,⟨Sa 3,.mv (.c (.b true)),Sb⟩]) (.ret))))
theorem is_head_headerLine:FnIs Tryz.prog 116 31 [.celln 2 2,.tmp 3] c_head_headerLine:=⟨⟨_,_,Tryz.func116,rfl,rfl,by kernel_rfl,by kernel_rfl⟩⟩
def c_redirect_Next:SCode :=.seq (.reg [⟨Sa 4,.box 35 (.t 0),Sb⟩,⟨Sa 5,.box 48 (.t 1),Sb⟩,⟨Sa 8,.alloc 35 [.s [],.i .i64 0,.s [],.s [],.s [],.b false,.b false],Sb⟩,⟨Sa 9,.mv (.c (.i .i64 0)),Sb⟩]) (.seq (.seq (.reg [⟨Sa 15,.mv (.t 3),Sb⟩,⟨Sa 16,.bin .geq (.t 15) (.c (.i .i64 5)),Sb⟩]) (.cond (.t 16) (.seq (.reg [⟨Sa 17,.build [.s [],.i .i64 0,.s [],.s [],.s [],.b false,.b false] [],Sb⟩,⟨Sb,.store 7 (.t 8) (.t 17),Sb⟩,⟨Sa 9,.mv (.c (.i .i64 250)),Sb⟩]) (.ret)) (.skip))) (.seq (.reg [⟨Sa 18,.loadn 3 (.t 5),Sb⟩,⟨Sa 19,.call 185 [.t 18,.c (.s [108,111,99,97,116,105,111,110])],Sb⟩,⟨Sa 10,.mv (.t 19),Sb⟩]) (.seq (.seq (.reg [⟨Sa 20,.mv (.t 10),Sb⟩,⟨Sa 21,.lenr (.t 20),Sb⟩,⟨Sa 22,.bin .neq (.t 21) (.c (.i .i64 1)),Sb⟩]) (.cond (.t 22) (.seq (.reg [⟨Sa 23,.build [.s [],.i .i64 0,.s [],.s [],.s [],.b false,.b false] [],Sb⟩,⟨Sb,.store 7 (.t 8) (.t 23),Sb⟩,⟨Sa 9,.mv (.c (.i .i64 252)),Sb⟩]) (.ret)) (.skip))) (.seq (.drw [⟨Sa 25,.loadn 7 (.t 4),Sb⟩,⟨Sa 26,.mv (.t 10),Sb⟩,⟨Sa 27,.iadr 1 (.t 26) (.c (.i .i64 0)),Sb⟩,⟨Sa 28,.load1 (.t 27),Sb⟩,⟨Sa 29,.pcall 186 [.t 25,.t 28],Sb⟩,⟨Sa 24,.mv (.t 29),Sb⟩,⟨Sa 30,.ext (.t 24) 0,Sb⟩,⟨Sa 31,.ext (.t 24) 1,Sb⟩,⟨Sa 11,.alloc 35 [.s [],.i .i64 0,.s [],.s [],.s [],.b false,.b false],Sb⟩,⟨Sb,.store 7 (.t 11) (.t 30),Sb⟩,⟨Sa 12,.mv (.t 31),Sb⟩] 11 [(4,(11,none)),(27,(11,none))]) (.seq (.seq (.reg [⟨Sa 32,.mv (.t 12),Sb⟩]) (.blk 0 (.seq (.reg [⟨Sa 35,.bin .eql (.t 32) (.c (.i .i64 0)),Sb⟩,⟨Sa 34,.mv (.t 35),Sb⟩]) (.cond (.t 34) (.skip) (.seq (.reg [⟨Sa 37,.bin .eql (.t 32) (.c (.i .i64 253)),Sb⟩,⟨Sa 36,.mv (.t 37),Sb⟩]) (.cond (.t 36) (.seq (.reg [⟨Sa 38,.build [.s [],.i .i64 0,.s [],.s [],.s [],.b false,.b false] [],Sb⟩,⟨Sb,.store 7 (.t 8) (.t 38),Sb⟩,⟨Sa 9,.mv (.c (.i .i64 253)),Sb⟩]) (.ret)) (.seq (.reg [⟨Sa 33,.build [.s [],.i .i64 0,.s [],.s [],.s [],.b false,.b false] [],Sb⟩,⟨Sb,.store 7 (.t 8) (.t 33),Sb⟩,⟨Sa 9,.mv (.c (.i .i64 252)),Sb⟩]) (.ret)))))))) (.seq (.reg [⟨Sa 39,.fad 4 (.t 11),Sb⟩,⟨Sb,.store 1 (.t 39) (.c (.s [])),Sb⟩,⟨Sa 40,.fad 6 (.t 11),Sb⟩,⟨Sb,.store 1 (.t 40) (.c (.b false)),Sb⟩]) (.seq (.seq (.reg [⟨Sa 41,.mv (.t 2),Sb⟩,⟨Sa 42,.lenr (.t 41),Sb⟩,⟨Sa 43,.mv (.c (.i .i64 0)),Sb⟩]) (.blk 1 (.loop (.seq (.reg [⟨Sa 44,.bin .lss (.t 43) (.t 42),Sb⟩]) (.seq (.cond (.t 44) (.skip) (.exit 1)) (.seq (.blk 2 (.seq (.reg [⟨Sa 45,.iad 7 (.t 41) (.t 43),Sb⟩,⟨Sa 46,.loadn 7 (.t 45),Sb⟩,⟨Sa 14,.alloc 35 [.s [],.i .i64 0,.s [],.s [],.s [],.b false,.b false],Sb⟩,⟨Sb,.store 7 (.t 14) (.t 46),Sb⟩]) (.seq (.reg [⟨Sa 47,.loadn 7 (.t 14),Sb⟩,⟨Sa 48,.loadn 7 (.t 11),Sb⟩,⟨Sa 49,.eqs false (.str [(0,(none,.ts)),(1,(none,.ti)),(2,(none,.ts)),(3,(none,.ts)),(4,(none,.ts)),(5,(none,.tb)),(6,(none,.tb))]) (.t 47) (.t 48),Sb⟩]) (.cond (.t 49) (.seq (.reg [⟨Sa 50,.build [.s [],.i .i64 0,.s [],.s [],.s [],.b false,.b false] [],Sb⟩,⟨Sb,.store 7 (.t 8) (.t 50),Sb⟩,⟨Sa 9,.mv (.c (.i .i64 251)),Sb⟩]) (.ret)) (.skip))))) (.reg [⟨Sa 51,.bin .add (.t 43) (.c (.i .i64 1)),Sb⟩,⟨Sa 43,.mv (.t 51),Sb⟩]))))))) (.seq (.reg [⟨Sa 52,.loadn 7 (.t 11),Sb⟩,⟨Sb,.store 7 (.t 8) (.t 52),Sb⟩,⟨Sa 9,.mv (.c (.i .i64 0)),Sb⟩]) (.ret)))))))))
theorem is_redirect_Next:FnIs Tryz.prog 117 53 [.celln 8 7,.tmp 9] c_redirect_Next:=⟨⟨_,_,Tryz.func117,rfl,rfl,by kernel_rfl,by kernel_rfl⟩⟩
def c_body_hasNoBody:SCode :=.seq (.reg [⟨Sa 2,.mv (.c (.b false)),Sb⟩]) (.seq (.reg [⟨Sa 3,.mv (.t 0),Sb⟩,⟨Sa 4,.bin .geq (.t 3) (.c (.i .i64 100)),Sb⟩,⟨Sa 5,.mv (.t 4),Sb⟩,⟨Sa 6,.mv (.t 0),some (5,true)⟩,⟨Sa 7,.bin .leq (.t 6) (.c (.i .i64 199)),some (5,true)⟩,⟨Sa 8,.pick (.t 5) (.t 7) (.c (.b false)),Sb⟩,⟨Sa 9,.mv (.t 8),Sb⟩,⟨Sa 10,.mv (.t 0),some (9,false)⟩,⟨Sa 11,.bin .eql (.t 10) (.c (.i .i64 204)),some (9,false)⟩,⟨Sa 12,.pick (.t 9) (.c (.b true)) (.t 11),Sb⟩,⟨Sa 13,.mv (.t 12),Sb⟩,⟨Sa 14,.mv (.t 0),some (13,false)⟩,⟨Sa 15,.bin .eql (.t 14) (.c (.i .i64 304)),some (13,false)⟩,⟨Sa 16,.pick (.t 13) (.c (.b true)) (.t 15),Sb⟩,⟨Sa 2,.mv (.t 16),Sb⟩]) (.ret))
theorem is_body_hasNoBody:FnIs Tryz.prog 118 17 [.tmp 2] c_body_hasNoBody:=⟨⟨_,_,Tryz.func118,rfl,rfl,by kernel_rfl,by kernel_rfl⟩⟩
def c_head_Get:SCode :=.seq (.reg [⟨Sa 2,.box 48 (.t 0),Sb⟩,⟨Sa 4,.mv (.c (.s [])),Sb⟩,⟨Sa 5,.mv (.c (.b false)),Sb⟩]) (.seq (.reg [⟨Sa 7,.loadn 3 (.t 2),Sb⟩,⟨Sa 8,.mv (.t 1),Sb⟩,⟨Sa 9,.call 185 [.t 7,.t 8],Sb⟩,⟨Sa 6,.mv (.t 9),Sb⟩]) (.seq (.reg [⟨Sa 10,.mv (.t 6),Sb⟩,⟨Sa 11,.call 187 [.t 10,.c (.s [44,32])],Sb⟩,⟨Sa 12,.mv (.t 6),Sb⟩,⟨Sa 13,.lenr (.t 12),Sb⟩,⟨Sa 14,.bin .gtr (.t 13) (.c (.i .i64 0)),Sb⟩,⟨Sa 4,.mv (.t 11),Sb⟩,⟨Sa 5,.mv (.t 14),Sb⟩]) (.ret)))
theorem is_head_Get:FnIs Tryz.prog 119 15 [.tmp 4,.tmp 5] c_head_Get:=⟨⟨_,_,Tryz.func119,rfl,rfl,by kernel_rfl,by kernel_rfl⟩⟩
def c_body_Chunked:SCode :=.seq (.reg [⟨Sa 4,.mv (.c (.s [])),Sb⟩,⟨Sa 5,.mv (.c (.i .i64 0)),Sb⟩]) (.seq (.reg [⟨Sa 6,.mv (.c .nil),Sb⟩]) (.seq (.reg [⟨Sa 7,.mv (.c (.i .i64 0)),Sb⟩,⟨Sa 8,.mv (.c (.i .u64 0)),Sb⟩]) (.seq (.skip) (.seq (.blk 0 (.loop (.blk 1 (.seq (.reg [⟨Sa 16,.mv (.t 0),Sb⟩,⟨Sa 17,.mv (.t 7),Sb⟩,⟨Sa 18,.call 189 [.t 16,.t 17],Sb⟩,⟨Sa 15,.mv (.t 18),Sb⟩,⟨Sa 19,.ext (.t 15) 0,Sb⟩,⟨Sa 20,.ext (.t 15) 1,Sb⟩,⟨Sa 21,.ext (.t 15) 2,Sb⟩,⟨Sa 9,.mv (.t 19),Sb⟩,⟨Sa 10,.mv (.t 20),Sb⟩,⟨Sa 11,.mv (.t 21),Sb⟩]) (.seq (.reg [⟨Sa 22,.mv (.t 8),Sb⟩,⟨Sa 23,.mv (.t 9),Sb⟩,⟨Sa 24,.call 190 [.t 22,.t 23],Sb⟩,⟨Sa 8,.mv (.t 24),Sb⟩]) (.seq (.blk 2 (.seq (.reg [⟨Sa 26,.mv (.t 11),Sb⟩,⟨Sa 27,.bin .neq (.t 26) (.c (.i .i64 0)),Sb⟩,⟨Sa 25,.mv (.t 27),Sb⟩]) (.cond (.t 25) (.seq (.reg [⟨Sa 28,.mv (.t 11),Sb⟩,⟨Sa 4,.mv (.c (.s [])),Sb⟩,⟨Sa 5,.mv (.t 28),Sb⟩]) (.ret)) (.seq (.reg [⟨Sa 30,.mv (.t 1),Sb⟩,⟨Sa 31,.bin .lss (.t 30) (.c (.i .i64 0)),Sb⟩,⟨Sa 32,.mv (.t 31),Sb⟩,⟨Sa 33,.mv (.t 8),some (32,false)⟩,⟨Sa 34,.mv (.t 1),some (32,false)⟩,⟨Sa 35,.cvi .u64 (.t 34),some (32,false)⟩,⟨Sa 36,.bin .gtr (.t 33) (.t 35),some (32,false)⟩,⟨Sa 37,.pick (.t 32) (.c (.b true)) (.t 36),Sb⟩,⟨Sa 29,.mv (.t 37),Sb⟩]) (.cond (.t 29) (.seq (.reg [⟨Sa 4,.mv (.c (.s [])),Sb⟩,⟨Sa 5,.mv (.c (.i .i64 142)),Sb⟩]) (.ret)) (.seq (.reg [⟨Sa 39,.mv (.t 9),Sb⟩,⟨Sa 40,.bin .eql (.t 39) (.c (.i .u64 0)),Sb⟩,⟨Sa 38,.mv (.t 40),Sb⟩]) (.cond (.t 38) (.seq (.reg [⟨Sa 41,.mv (.t 10),Sb⟩,⟨Sa 7,.mv (.t 41),Sb⟩]) (.exit 0)) (.seq (.reg [⟨Sa 43,.mv (.t 9),Sb⟩,⟨Sa 44,.mv (.t 0),Sb⟩,⟨Sa 45,.lens (.t 44),Sb⟩,⟨Sa 46,.mv (.t 10),Sb⟩,⟨Sa 47,.bin .sub (.t 45) (.t 46),Sb⟩,⟨Sa 48,.cvi .u64 (.t 47),Sb⟩,⟨Sa 49,.bin .gtr (.t 43) (.t 48),Sb⟩,⟨Sa 42,.mv (.t 49),Sb⟩]) (.cond (.t 42) (.seq (.reg [⟨Sa 4,.mv (.c (.s [])),Sb⟩,⟨Sa 5,.mv (.c (.i .i64 191)),Sb⟩]) (.ret)) (.skip)))))))))) (.seq (.reg [⟨Sa 50,.mv (.t 10),Sb⟩,⟨Sa 51,.mv (.t 9),Sb⟩,⟨Sa 52,.cvi .i64 (.t 51),Sb⟩,⟨Sa 53,.bin .add (.t 50) (.t 52),Sb⟩,⟨Sa 12,.mv (.t 53),Sb⟩]) (.seq (.seq (.reg [⟨Sa 54,.mv (.t 0),Sb⟩,⟨Sa 55,.mv (.t 12),Sb⟩,⟨Sa 56,.call 191 [.t 54,.t 55],Sb⟩,⟨Sa 13,.mv (.t 56),Sb⟩]) (.seq (.reg [⟨Sa 57,.mv (.t 13),Sb⟩,⟨Sa 58,.bin .neq (.t 57) (.c (.i .i64 0)),Sb⟩]) (.cond (.t 58) (.seq (.reg [⟨Sa 59,.mv (.t 13),Sb⟩,⟨Sa 4,.mv (.c (.s [])),Sb⟩,⟨Sa 5,.mv (.t 59),Sb⟩]) (.ret)) (.skip)))) (.seq (.reg [⟨Sa 60,.mv (.t 6),Sb⟩,⟨Sa 61,.mv (.t 0),Sb⟩,⟨Sa 62,.mv (.t 10),Sb⟩,⟨Sa 63,.mv (.t 12),Sb⟩,⟨Sa 64,.slcs (.t 61) (some (.t 62)) (some (.t 63)),Sb⟩,⟨Sa 65,.apps 5 (.t 60) (.t 64),Sb⟩,⟨Sa 6,.mv (.t 65),Sb⟩]) (.reg [⟨Sa 66,.mv (.t 12),Sb⟩,⟨Sa 67,.bin .add (.t 66) (.c (.i .i64 2)),Sb⟩,⟨Sa 7,.mv (.t 67),Sb⟩])))))))))) (.seq (.seq (.reg [⟨Sa 68,.mv (.t 0),Sb⟩,⟨Sa 69,.mv (.t 7),Sb⟩,⟨Sa 70,.call 192 [.t 68,.t 69],Sb⟩,⟨Sa 14,.mv (.t 70),Sb⟩]) (.seq (.reg [⟨Sa 71,.mv (.t 14),Sb⟩,⟨Sa 72,.bin .neq (.t 71) (.c (.i .i64 0)),Sb⟩]) (.cond (.t 72) (.seq (.reg [⟨Sa 73,.mv (.t 14),Sb⟩,⟨Sa 4,.mv (.c (.s [])),Sb⟩,⟨Sa 5,.mv (.t 73),Sb⟩]) (.ret)) (.skip)))) (.seq (.reg [⟨Sa 74,.mv (.t 6),Sb⟩,⟨Sa 75,.cvbs (.t 74),Sb⟩,⟨Sa 4,.mv (.t 75),Sb⟩,⟨Sa 5,.mv (.c (.i .i64 0)),Sb⟩]) (.ret)))))))
theorem is_body_Chunked:FnIs Tryz.prog 121 76 [.tmp 4,.tmp 5] c_body_Chunked:=⟨⟨_,_,Tryz.func121,rfl,rfl,by kernel_rfl,by kernel_rfl⟩⟩
def c_body_readLength:SCode :=.seq (.reg [⟨Sa 6,.mv (.c (.s [])),Sb⟩,⟨Sa 7,.mv (.c (.i .i64 0)),Sb⟩]) (.seq (.reg [⟨Sa 14,.mv (.t 0),Sb⟩,⟨Sa 15,.call 114 [.t 14,.c (.s [44])],Sb⟩,⟨Sa 8,.mv (.t 15),Sb⟩]) (.seq (.reg [⟨Sa 16,.mv (.t 8),Sb⟩,⟨Sa 17,.iad 1 (.t 16) (.c (.i .i64 0)),Sb⟩,⟨Sa 18,.load1 (.t 17),Sb⟩,⟨Sa 19,.call 184 [.t 18],Sb⟩,⟨Sa 9,.mv (.t 19),Sb⟩]) (.seq (.seq (.reg [⟨Sa 20,.mv (.t 8),Sb⟩,⟨Sa 21,.lenr (.t 20),Sb⟩,⟨Sa 22,.mv (.c (.i .i64 0)),Sb⟩]) (.blk 0 (.loop (.seq (.reg [⟨Sa 23,.bin .lss (.t 22) (.t 21),Sb⟩]) (.seq (.cond (.t 23) (.skip) (.exit 0)) (.seq (.blk 1 (.seq (.reg [⟨Sa 24,.iad 1 (.t 20) (.t 22),Sb⟩,⟨Sa 25,.load1 (.t 24),Sb⟩,⟨Sa 11,.mv (.t 25),Sb⟩]) (.seq (.reg [⟨Sa 26,.mv (.t 11),Sb⟩,⟨Sa 27,.call 184 [.t 26],Sb⟩,⟨Sa 28,.mv (.t 9),Sb⟩,⟨Sa 29,.bin .neq (.t 27) (.t 28),Sb⟩]) (.cond (.t 29) (.seq (.reg [⟨Sa 6,.mv (.c (.s [])),Sb⟩,⟨Sa 7,.mv (.c (.i .i64 190)),Sb⟩]) (.ret)) (.skip))))) (.reg [⟨Sa 30,.bin .add (.t 22) (.c (.i .i64 1)),Sb⟩,⟨Sa 22,.mv (.t 30),Sb⟩]))))))) (.seq (.seq (.reg [⟨Sa 31,.mv (.t 9),Sb⟩,⟨Sa 32,.call 193 [.t 31],Sb⟩,⟨Sa 33,.not (.t 32),Sb⟩]) (.cond (.t 33) (.seq (.reg [⟨Sa 6,.mv (.c (.s [])),Sb⟩,⟨Sa 7,.mv (.c (.i .i64 190)),Sb⟩]) (.ret)) (.skip))) (.seq (.reg [⟨Sa 35,.mv (.t 9),Sb⟩,⟨Sa 36,.mv (.t 2),Sb⟩,⟨Sa 37,.cvi .u64 (.t 36),Sb⟩,⟨Sa 38,.call 181 [.t 35,.t 37],Sb⟩,⟨Sa 34,.mv (.t 38),Sb⟩,⟨Sa 39,.ext (.t 34) 0,Sb⟩,⟨Sa 40,.ext (.t 34) 1,Sb⟩,⟨Sa 12,.mv (.t 39),Sb⟩,⟨Sa 13,.mv (.t 40),Sb⟩]) (.seq (.seq (.reg [⟨Sa 41,.mv (.t 13),Sb⟩,⟨Sa 42,.bin .neq (.t 41) (.c (.i .i64 0)),Sb⟩]) (.cond (.t 42) (.seq (.reg [⟨Sa 6,.mv (.c (.s [])),Sb⟩,⟨Sa 7,.mv (.c (.i .i64 142)),Sb⟩]) (.ret)) (.skip))) (.seq (.seq (.reg [⟨Sa 43,.mv (.t 12),Sb⟩,⟨Sa 44,.mv (.t 1),Sb⟩,⟨Sa 45,.lens (.t 44),Sb⟩,⟨Sa 46,.cvi .u64 (.t 45),Sb⟩,⟨Sa 47,.bin .gtr (.t 43) (.t 46),Sb⟩]) (.cond (.t 47) (.seq (.reg [⟨Sa 6,.mv (.c (.s [])),Sb⟩,⟨Sa 7,.mv (.c (.i .i64 191)),Sb⟩]) (.ret)) (.skip))) (.seq (.reg [⟨Sa 48,.mv (.t 1),Sb⟩,⟨Sa 49,.mv (.t 12),Sb⟩,⟨Sa 50,.slcs (.t 48) none (some (.t 49)),Sb⟩,⟨Sa 6,.mv (.t 50),Sb⟩,⟨Sa 7,.mv (.c (.i .i64 0)),Sb⟩]) (.ret)))))))))
theorem is_body_readLength:FnIs Tryz.prog 122 51 [.tmp 6,.tmp 7] c_body_readLength:=⟨⟨_,_,Tryz.func122,rfl,rfl,by kernel_rfl,by kernel_rfl⟩⟩
def c_ref05_Decimal:SCode :=.seq (.reg [⟨Sa 2,.mv (.c (.s [])),Sb⟩]) (.seq (.seq (.reg [⟨Sa 3,.mv (.t 0),Sb⟩,⟨Sa 4,.bin .lss (.t 3) (.c (.i .i64 0)),Sb⟩]) (.cond (.t 4) (.seq (.reg [⟨Sa 5,.mv (.t 0),Sb⟩,⟨Sa 6,.bin .add (.t 5) (.c (.i .i64 1)),Sb⟩,⟨Sa 7,.neg (.t 6),Sb⟩,⟨Sa 8,.cvi .u64 (.t 7),Sb⟩,⟨Sa 9,.bin .add (.t 8) (.c (.i .u64 1)),Sb⟩,⟨Sa 10,.call 194 [.t 9],Sb⟩,⟨Sa 11,.bin .add (.c (.s [45])) (.t 10),Sb⟩,⟨Sa 2,.mv (.t 11),Sb⟩]) (.ret)) (.skip))) (.seq (.reg [⟨Sa 12,.mv (.t 0),Sb⟩,⟨Sa 13,.cvi .u64 (.t 12),Sb⟩,⟨Sa 14,.call 194 [.t 13],Sb⟩,⟨Sa 2,.mv (.t 14),Sb⟩]) (.ret)))
theorem is_ref05_Decimal:FnIs Tryz.prog 123 15 [.tmp 2] c_ref05_Decimal:=⟨⟨_,_,Tryz.func123,rfl,rfl,by kernel_rfl,by kernel_rfl⟩⟩
def c_ref19_hex:SCode :=.seq (.reg [⟨Sa 2,.mv (.c (.s [])),Sb⟩]) (.seq (.reg [⟨Sa 3,.mv (.c (.s [])),Sb⟩]) (.blk 0 (.loop (.blk 1 (.seq (.reg [⟨Sa 4,.mv (.t 0),Sb⟩,⟨Sa 5,.bin .rem (.t 4) (.c (.i .i64 16)),Sb⟩,⟨Sa 6,.mv (.t 0),Sb⟩,⟨Sa 7,.bin .rem (.t 6) (.c (.i .i64 16)),Sb⟩,⟨Sa 8,.bin .add (.t 7) (.c (.i .i64 1)),Sb⟩,⟨Sa 9,.slcs (.c (.s [48,49,50,51,52,53,54,55,56,57,97,98,99,100,101,102])) (some (.t 5)) (some (.t 8)),Sb⟩,⟨Sa 10,.mv (.t 3),Sb⟩,⟨Sa 11,.bin .add (.t 9) (.t 10),Sb⟩,⟨Sa 3,.mv (.t 11),Sb⟩]) (.seq (.reg [⟨Sa 12,.mv (.t 0),Sb⟩,⟨Sa 13,.bin .quo (.t 12) (.c (.i .i64 16)),Sb⟩,⟨Sa 0,.mv (.t 13),Sb⟩]) (.seq (.reg [⟨Sa 14,.mv (.t 0),Sb⟩,⟨Sa 15,.bin .eql (.t 14) (.c (.i .i64 0)),Sb⟩]) (.cond (.t 15) (.seq (.reg [⟨Sa 16,.mv (.t 3),Sb⟩,⟨Sa 2,.mv (.t 16),Sb⟩]) (.ret)) (.skip)))))))))
theorem is_ref19_hex:FnIs Tryz.prog 124 17 [.tmp 2] c_ref19_hex:=⟨⟨_,_,Tryz.func124,rfl,rfl,by kernel_rfl,by kernel_rfl⟩⟩
def c_weburl_parseOrigin:SCode :=.seq (.reg [⟨Sa 1,.box 88 (.t 0),Sb⟩,⟨Sa 2,.alloc 24 [.s [],.i .i64 0],Sb⟩,⟨Sa 3,.mv (.c (.i .i64 0)),Sb⟩]) (.seq (.blk 0 (.seq (.reg [⟨Sa 5,.fad 5 (.t 1),Sb⟩,⟨Sa 6,.load1 (.t 5),Sb⟩,⟨Sa 7,.not (.t 6),Sb⟩,⟨Sa 8,.mv (.t 7),Sb⟩,⟨Sa 9,.fad 0 (.t 1),some (8,false)⟩,⟨Sa 10,.load1 (.t 9),some (8,false)⟩,⟨Sa 11,.call 224 [.t 10,.c (.s [104,116,116,112,115])],some (8,false)⟩,⟨Sa 12,.not (.t 11),some (8,false)⟩,⟨Sa 13,.pick (.t 8) (.c (.b true)) (.t 12),Sb⟩,⟨Sa 4,.mv (.t 13),Sb⟩]) (.cond (.t 4) (.seq (.reg [⟨Sa 14,.build [.s [],.i .i64 0] [],Sb⟩,⟨Sb,.store 2 (.t 2) (.t 14),Sb⟩,⟨Sa 3,.mv (.c (.i .i64 60)),Sb⟩]) (.ret)) (.seq (.reg [⟨Sa 16,.fad 6 (.t 1),Sb⟩,⟨Sa 17,.load1 (.t 16),Sb⟩,⟨Sa 18,.not (.t 17),Sb⟩,⟨Sa 15,.mv (.t 18),Sb⟩]) (.cond (.t 15) (.seq (.reg [⟨Sa 19,.build [.s [],.i .i64 0] [],Sb⟩,⟨Sb,.store 2 (.t 2) (.t 19),Sb⟩,⟨Sa 3,.mv (.c (.i .i64 71)),Sb⟩]) (.ret)) (.seq (.reg [⟨Sa 21,.fad 1 (.t 1),Sb⟩,⟨Sa 22,.load1 (.t 21),Sb⟩,⟨Sa 23,.call 225 [.t 22,.c (.s [64])],Sb⟩,⟨Sa 20,.mv (.t 23),Sb⟩]) (.cond (.t 20) (.seq (.reg [⟨Sa 24,.build [.s [],.i .i64 0] [],Sb⟩,⟨Sb,.store 2 (.t 2) (.t 24),Sb⟩,⟨Sa 3,.mv (.c (.i .i64 70)),Sb⟩]) (.ret)) (.skip)))))))) (.seq (.reg [⟨Sa 25,.fad 1 (.t 1),Sb⟩,⟨Sa 26,.load1 (.t 25),Sb⟩,⟨Sa 27,.call 66 [.t 26],Sb⟩,⟨Sa 28,.ext (.t 27) 0,Sb⟩,⟨Sa 29,.ext (.t 27) 1,Sb⟩,⟨Sb,.store 2 (.t 2) (.t 28),Sb⟩,⟨Sa 3,.mv (.t 29),Sb⟩]) (.ret)))
theorem is_weburl_parseOrigin:FnIs Tryz.prog 168 30 [.celln 2 2,.tmp 3] c_weburl_parseOrigin:=⟨⟨_,_,Tryz.func168,rfl,rfl,by kernel_rfl,by kernel_rfl⟩⟩
def c_weburl_parseRest:SCode :=.seq (.reg [⟨Sa 1,.box 88 (.t 0),Sb⟩,⟨Sa 2,.alloc 35 [.s [],.i .i64 0,.s [],.s [],.s [],.b false,.b false],Sb⟩,⟨Sa 3,.mv (.c (.i .i64 0)),Sb⟩]) (.seq (.reg [⟨Sa 9,.fad 2 (.t 1),Sb⟩,⟨Sa 10,.load1 (.t 9),Sb⟩,⟨Sa 11,.call 226 [.t 10,.c (.s [33,36,38,39,40,41,42,43,44,59,61,58,64,47])],Sb⟩,⟨Sa 8,.mv (.t 11),Sb⟩,⟨Sa 12,.ext (.t 8) 0,Sb⟩,⟨Sa 13,.ext (.t 8) 1,Sb⟩,⟨Sa 4,.mv (.t 12),Sb⟩,⟨Sa 5,.mv (.t 13),Sb⟩]) (.seq (.seq (.reg [⟨Sa 14,.mv (.t 5),Sb⟩,⟨Sa 15,.bin .neq (.t 14) (.c (.i .i64 0)),Sb⟩]) (.cond (.t 15) (.seq (.reg [⟨Sa 16,.build [.s [],.i .i64 0,.s [],.s [],.s [],.b false,.b false] [],Sb⟩,⟨Sa 17,.mv (.t 5),Sb⟩,⟨Sb,.store 7 (.t 2) (.t 16),Sb⟩,⟨Sa 3,.mv (.t 17),Sb⟩]) (.ret)) (.skip))) (.seq (.seq (.reg [⟨Sa 18,.mv (.t 4),Sb⟩,⟨Sa 19,.call 227 [.t 18],Sb⟩,⟨Sa 4,.mv (.t 19),Sb⟩]) (.seq (.reg [⟨Sa 20,.mv (.t 4),Sb⟩,⟨Sa 21,.bin .eql (.t 20) (.c (.s [])),Sb⟩]) (.cond (.t 21) (.reg [⟨Sa 4,.mv (.c (.s [47])),Sb⟩]) (.skip)))) (.seq (.reg [⟨Sa 23,.fad 3 (.t 1),Sb⟩,⟨Sa 24,.load1 (.t 23),Sb⟩,⟨Sa 25,.call 226 [.t 24,.c (.s [33,36,38,39,40,41,42,43,44,59,61,58,64,47,63])],Sb⟩,⟨Sa 22,.mv (.t 25),Sb⟩,⟨Sa 26,.ext (.t 22) 0,Sb⟩,⟨Sa 27,.ext (.t 22) 1,Sb⟩,⟨Sa 6,.mv (.t 26),Sb⟩,⟨Sa 5,.mv (.t 27),Sb⟩]) (.seq (.seq (.reg [⟨Sa 28,.mv (.t 5),Sb⟩,⟨Sa 29,.bin .neq (.t 28) (.c (.i .i64 0)),Sb⟩]) (.cond (.t 29) (.seq (.reg [⟨Sa 30,.build [.s [],.i .i64 0,.s [],.s [],.s [],.b false,.b false] [],Sb⟩,⟨Sa 31,.mv (.t 5),Sb⟩,⟨Sb,.store 7 (.t 2) (.t 30),Sb⟩,⟨Sa 3,.mv (.t 31),Sb⟩]) (.ret)) (.skip))) (.seq (.reg [⟨Sa 33,.fad 4 (.t 1),Sb⟩,⟨Sa 34,.load1 (.t 33),Sb⟩,⟨Sa 35,.call 226 [.t 34,.c (.s [33,36,38,39,40,41,42,43,44,59,61,58,64,47,63])],Sb⟩,⟨Sa 32,.mv (.t 35),Sb⟩,⟨Sa 36,.ext (.t 32) 0,Sb⟩,⟨Sa 37,.ext (.t 32) 1,Sb⟩,⟨Sa 7,.mv (.t 36),Sb⟩,⟨Sa 5,.mv (.t 37),Sb⟩]) (.seq (.seq (.reg [⟨Sa 38,.mv (.t 5),Sb⟩,⟨Sa 39,.bin .neq (.t 38) (.c (.i .i64 0)),Sb⟩]) (.cond (.t 39) (.seq (.reg [⟨Sa 40,.build [.s [],.i .i64 0,.s [],.s [],.s [],.b false,.b false] [],Sb⟩,⟨Sa 41,.mv (.t 5),Sb⟩,⟨Sb,.store 7 (.t 2) (.t 40),Sb⟩,⟨Sa 3,.mv (.t 41),Sb⟩]) (.ret)) (.skip))) (.seq (.reg [⟨Sa 42,.mv (.t 4),Sb⟩,⟨Sa 43,.mv (.t 6),Sb⟩,⟨Sa 44,.fad 7 (.t 1),Sb⟩,⟨Sa 45,.load1 (.t 44),Sb⟩,⟨Sa 46,.mv (.t 7),Sb⟩,⟨Sa 47,.fad 8 (.t 1),Sb⟩,⟨Sa 48,.load1 (.t 47),Sb⟩,⟨Sa 49,.build [.s [],.i .i64 0,.s [],.s [],.s [],.b false,.b false] [(2,(1,.t 42)),(3,(1,.t 43)),(5,(1,.t 45)),(4,(1,.t 46)),(6,(1,.t 48))],Sb⟩,⟨Sb,.store 7 (.t 2) (.t 49),Sb⟩,⟨Sa 3,.mv (.c (.i .i64 0)),Sb⟩]) (.ret)))))))))
theorem is_weburl_parseRest:FnIs Tryz.prog 169 50 [.celln 2 7,.tmp 3] c_weburl_parseRest:=⟨⟨_,_,Tryz.func169,rfl,rfl,by kernel_rfl,by kernel_rfl⟩⟩
def c_fieldtext_IsText:SCode :=.seq (.reg [⟨Sa 2,.mv (.c (.b false)),Sb⟩]) (.seq (.seq (.reg [⟨Sa 4,.mv (.t 0),Sb⟩,⟨Sa 5,.lens (.t 4),Sb⟩,⟨Sa 6,.mv (.c (.i .i64 0)),Sb⟩]) (.blk 0 (.loop (.seq (.reg [⟨Sa 7,.bin .lss (.t 6) (.t 5),Sb⟩]) (.seq (.cond (.t 7) (.skip) (.exit 0)) (.seq (.blk 1 (.seq (.reg [⟨Sa 8,.mv (.t 6),Sb⟩,⟨Sa 3,.mv (.t 8),Sb⟩]) (.seq (.reg [⟨Sa 9,.mv (.t 0),Sb⟩,⟨Sa 10,.mv (.t 3),Sb⟩,⟨Sa 11,.idx (.t 9) (.t 10),Sb⟩,⟨Sa 12,.call 244 [.t 11],Sb⟩,⟨Sa 13,.not (.t 12),Sb⟩]) (.cond (.t 13) (.seq (.reg [⟨Sa 2,.mv (.c (.b false)),Sb⟩]) (.ret)) (.skip))))) (.reg [⟨Sa 14,.bin .add (.t 6) (.c (.i .i64 1)),Sb⟩,⟨Sa 6,.mv (.t 14),Sb⟩]))))))) (.seq (.reg [⟨Sa 2,.mv (.c (.b true)),Sb⟩]) (.ret)))
theorem is_fieldtext_IsText:FnIs Tryz.prog 182 15 [.tmp 2] c_fieldtext_IsText:=⟨⟨_,_,Tryz.func182,rfl,rfl,by kernel_rfl,by kernel_rfl⟩⟩
def c_fieldtext_IsToken:SCode :=.seq (.reg [⟨Sa 2,.mv (.c (.b false)),Sb⟩]) (.seq (.reg [⟨Sa 3,.mv (.t 0),Sb⟩,⟨Sa 4,.bin .neq (.t 3) (.c (.s [])),Sb⟩,⟨Sa 5,.mv (.t 4),Sb⟩,⟨Sa 6,.mv (.t 0),some (5,true)⟩,⟨Sa 7,.call 245 [.t 6,.c (.i .i64 0)],some (5,true)⟩,⟨Sa 8,.mv (.t 0),some (5,true)⟩,⟨Sa 9,.lens (.t 8),some (5,true)⟩,⟨Sa 10,.bin .eql (.t 7) (.t 9),some (5,true)⟩,⟨Sa 11,.pick (.t 5) (.t 10) (.c (.b false)),Sb⟩,⟨Sa 2,.mv (.t 11),Sb⟩]) (.ret))
theorem is_fieldtext_IsToken:FnIs Tryz.prog 183 12 [.tmp 2] c_fieldtext_IsToken:=⟨⟨_,_,Tryz.func183,rfl,rfl,by kernel_rfl,by kernel_rfl⟩⟩
def c_head_Values:SCode :=.seq (.reg [⟨Sa 2,.box 48 (.t 0),Sb⟩,⟨Sa 4,.mv (.c .nil),Sb⟩]) (.seq (.reg [⟨Sa 5,.mv (.c .nil),Sb⟩]) (.seq (.seq (.reg [⟨Sa 8,.fad 2 (.t 2),Sb⟩,⟨Sa 9,.load1 (.t 8),Sb⟩,⟨Sa 10,.lenr (.t 9),Sb⟩,⟨Sa 11,.mv (.c (.i .i64 0)),Sb⟩]) (.blk 0 (.loop (.seq (.reg [⟨Sa 12,.bin .lss (.t 11) (.t 10),Sb⟩]) (.seq (.cond (.t 12) (.skip) (.exit 0)) (.seq (.blk 1 (.seq (.reg [⟨Sa 13,.iad 2 (.t 9) (.t 11),Sb⟩,⟨Sa 14,.loadn 2 (.t 13),Sb⟩,⟨Sa 7,.alloc 74 [.s [],.s []],Sb⟩,⟨Sb,.store 2 (.t 7) (.t 14),Sb⟩]) (.seq (.reg [⟨Sa 15,.fad 0 (.t 7),Sb⟩,⟨Sa 16,.load1 (.t 15),Sb⟩,⟨Sa 17,.mv (.t 1),Sb⟩,⟨Sa 18,.call 224 [.t 16,.t 17],Sb⟩]) (.cond (.t 18) (.reg [⟨Sa 19,.mv (.t 5),Sb⟩,⟨Sa 20,.fad 1 (.t 7),Sb⟩,⟨Sa 21,.load1 (.t 20),Sb⟩,⟨Sa 22,.bslice 1 [.s []] [(0,(1,.t 21))],Sb⟩,⟨Sa 23,.app 9 1 16 (.t 19) (.t 22),Sb⟩,⟨Sa 5,.mv (.t 23),Sb⟩]) (.skip))))) (.reg [⟨Sa 24,.bin .add (.t 11) (.c (.i .i64 1)),Sb⟩,⟨Sa 11,.mv (.t 24),Sb⟩]))))))) (.seq (.reg [⟨Sa 25,.mv (.t 5),Sb⟩,⟨Sa 4,.mv (.t 25),Sb⟩]) (.ret))))
theorem is_head_Values:FnIs Tryz.prog 185 26 [.tmp 4] c_head_Values:=⟨⟨_,_,Tryz.func185,rfl,rfl,by kernel_rfl,by kernel_rfl⟩⟩
def c_weburl_Relative:SCode :=.seq (.reg [⟨Sa 2,.box 35 (.t 0),Sb⟩,⟨Sa 4,.alloc 35 [.s [],.i .i64 0,.s [],.s [],.s [],.b false,.b false],Sb⟩,⟨Sa 5,.mv (.c (.i .i64 0)),Sb⟩]) (.seq (.seq (.reg [⟨Sa 10,.loadn 7 (.t 2),Sb⟩,⟨Sa 11,.call 41 [.t 10],Sb⟩,⟨Sa 12,.not (.t 11),Sb⟩]) (.cond (.t 12) (.seq (.reg [⟨Sa 13,.build [.s [],.i .i64 0,.s [],.s [],.s [],.b false,.b false] [],Sb⟩,⟨Sb,.store 7 (.t 4) (.t 13),Sb⟩,⟨Sa 5,.mv (.c (.i .i64 8)),Sb⟩]) (.ret)) (.skip))) (.seq (.reg [⟨Sa 15,.loadn 7 (.t 2),Sb⟩,⟨Sa 16,.call 103 [.t 15],Sb⟩,⟨Sa 17,.call 167 [.t 16],Sb⟩,⟨Sa 14,.mv (.t 17),Sb⟩,⟨Sa 18,.ext (.t 14) 0,Sb⟩,⟨Sa 19,.ext (.t 14) 1,Sb⟩,⟨Sa 6,.alloc 88 [.s [],.s [],.s [],.s [],.s [],.b false,.b false,.b false,.b false],Sb⟩,⟨Sb,.store 9 (.t 6) (.t 18),Sb⟩,⟨Sa 7,.mv (.t 19),Sb⟩]) (.seq (.seq (.reg [⟨Sa 20,.mv (.t 7),Sb⟩,⟨Sa 21,.bin .neq (.t 20) (.c (.i .i64 0)),Sb⟩]) (.cond (.t 21) (.seq (.reg [⟨Sa 22,.build [.s [],.i .i64 0,.s [],.s [],.s [],.b false,.b false] [],Sb⟩,⟨Sa 23,.mv (.t 7),Sb⟩,⟨Sb,.store 7 (.t 4) (.t 22),Sb⟩,⟨Sa 5,.mv (.t 23),Sb⟩]) (.ret)) (.skip))) (.seq (.reg [⟨Sa 25,.mv (.t 1),Sb⟩,⟨Sa 26,.call 167 [.t 25],Sb⟩,⟨Sa 24,.mv (.t 26),Sb⟩,⟨Sa 27,.ext (.t 24) 0,Sb⟩,⟨Sa 28,.ext (.t 24) 1,Sb⟩,⟨Sa 8,.alloc 88 [.s [],.s [],.s [],.s [],.s [],.b false,.b false,.b false,.b false],Sb⟩,⟨Sb,.store 9 (.t 8) (.t 27),Sb⟩,⟨Sa 7,.mv (.t 28),Sb⟩]) (.seq (.seq (.reg [⟨Sa 29,.mv (.t 7),Sb⟩,⟨Sa 30,.bin .neq (.t 29) (.c (.i .i64 0)),Sb⟩]) (.cond (.t 30) (.seq (.reg [⟨Sa 31,.build [.s [],.i .i64 0,.s [],.s [],.s [],.b false,.b false] [],Sb⟩,⟨Sa 32,.mv (.t 7),Sb⟩,⟨Sb,.store 7 (.t 4) (.t 31),Sb⟩,⟨Sa 5,.mv (.t 32),Sb⟩]) (.ret)) (.skip))) (.seq (.reg [⟨Sa 33,.loadn 9 (.t 6),Sb⟩,⟨Sa 34,.loadn 9 (.t 8),Sb⟩,⟨Sa 35,.call 246 [.t 33,.t 34],Sb⟩,⟨Sa 9,.alloc 88 [.s [],.s [],.s [],.s [],.s [],.b false,.b false,.b false,.b false],Sb⟩,⟨Sb,.store 9 (.t 9) (.t 35),Sb⟩]) (.seq (.seq (.reg [⟨Sa 36,.fad 0 (.t 9),Sb⟩,⟨Sa 37,.load1 (.t 36),Sb⟩,⟨Sa 38,.call 224 [.t 37,.c (.s [104,116,116,112,115])],Sb⟩,⟨Sa 39,.not (.t 38),Sb⟩]) (.cond (.t 39) (.seq (.reg [⟨Sa 40,.build [.s [],.i .i64 0,.s [],.s [],.s [],.b false,.b false] [],Sb⟩,⟨Sb,.store 7 (.t 4) (.t 40),Sb⟩,⟨Sa 5,.mv (.c (.i .i64 253)),Sb⟩]) (.ret)) (.skip))) (.seq (.reg [⟨Sa 41,.loadn 9 (.t 9),Sb⟩,⟨Sa 42,.call 247 [.t 41],Sb⟩,⟨Sa 43,.call 102 [.t 42],Sb⟩,⟨Sa 44,.ext (.t 43) 0,Sb⟩,⟨Sa 45,.ext (.t 43) 1,Sb⟩,⟨Sb,.store 7 (.t 4) (.t 44),Sb⟩,⟨Sa 5,.mv (.t 45),Sb⟩]) (.ret)))))))))
theorem is_weburl_Relative:FnIs Tryz.prog 186 46 [.celln 4 7,.tmp 5] c_weburl_Relative:=⟨⟨_,_,Tryz.func186,rfl,rfl,by kernel_rfl,by kernel_rfl⟩⟩
def c_body_sizeLine:SCode :=.seq (.reg [⟨Sa 4,.mv (.c (.i .u64 0)),Sb⟩,⟨Sa 5,.mv (.c (.i .i64 0)),Sb⟩,⟨Sa 6,.mv (.c (.i .i64 0)),Sb⟩]) (.seq (.reg [⟨Sa 12,.mv (.t 1),Sb⟩,⟨Sa 7,.mv (.t 12),Sb⟩]) (.seq (.blk 0 (.loop (.seq (.seq (.reg [⟨Sa 13,.mv (.t 7),Sb⟩,⟨Sa 14,.mv (.t 0),Sb⟩,⟨Sa 15,.lens (.t 14),Sb⟩,⟨Sa 16,.bin .lss (.t 13) (.t 15),Sb⟩,⟨Sa 17,.mv (.t 16),Sb⟩,⟨Sa 18,.mv (.t 0),some (17,true)⟩,⟨Sa 19,.mv (.t 7),some (17,true)⟩,⟨Sa 20,.idx (.t 18) (.t 19),some (17,true)⟩,⟨Sa 21,.call 252 [.t 20],some (17,true)⟩,⟨Sa 22,.pick (.t 17) (.t 21) (.c (.b false)),Sb⟩]) (.cond (.t 22) (.skip) (.exit 0))) (.blk 1 (.reg [⟨Sa 23,.mv (.t 7),Sb⟩,⟨Sa 24,.bin .add (.t 23) (.c (.i .i64 1)),Sb⟩,⟨Sa 7,.mv (.t 24),Sb⟩]))))) (.seq (.reg [⟨Sa 25,.mv (.t 0),Sb⟩,⟨Sa 26,.mv (.t 1),Sb⟩,⟨Sa 27,.mv (.t 7),Sb⟩,⟨Sa 28,.slcs (.t 25) (some (.t 26)) (some (.t 27)),Sb⟩,⟨Sa 8,.mv (.t 28),Sb⟩]) (.seq (.seq (.reg [⟨Sa 29,.mv (.t 8),Sb⟩,⟨Sa 30,.bin .eql (.t 29) (.c (.s [])),Sb⟩,⟨Sa 31,.mv (.t 30),Sb⟩,⟨Sa 32,.mv (.t 7),some (31,true)⟩,⟨Sa 33,.mv (.t 0),some (31,true)⟩,⟨Sa 34,.lens (.t 33),some (31,true)⟩,⟨Sa 35,.bin .lss (.t 32) (.t 34),some (31,true)⟩,⟨Sa 36,.pick (.t 31) (.t 35) (.c (.b false)),Sb⟩]) (.cond (.t 36) (.seq (.reg [⟨Sa 4,.mv (.c (.i .u64 0)),Sb⟩,⟨Sa 5,.mv (.c (.i .i64 0)),Sb⟩,⟨Sa 6,.mv (.c (.i .i64 190)),Sb⟩]) (.ret)) (.skip))) (.seq (.seq (.reg [⟨Sa 37,.mv (.t 7),Sb⟩,⟨Sa 38,.mv (.t 0),Sb⟩,⟨Sa 39,.lens (.t 38),Sb⟩,⟨Sa 40,.bin .lss (.t 37) (.t 39),Sb⟩,⟨Sa 41,.mv (.t 40),Sb⟩,⟨Sa 42,.mv (.t 0),some (41,true)⟩,⟨Sa 43,.mv (.t 7),some (41,true)⟩,⟨Sa 44,.idx (.t 42) (.t 43),some (41,true)⟩,⟨Sa 45,.bin .eql (.t 44) (.c (.i .u8 59)),some (41,true)⟩,⟨Sa 46,.pick (.t 41) (.t 45) (.c (.b false)),Sb⟩]) (.cond (.t 46) (.reg [⟨Sa 47,.mv (.t 0),Sb⟩,⟨Sa 48,.mv (.t 7),Sb⟩,⟨Sa 49,.call 253 [.t 47,.t 48],Sb⟩,⟨Sa 7,.mv (.t 49),Sb⟩]) (.skip))) (.seq (.seq (.reg [⟨Sa 50,.mv (.t 0),Sb⟩,⟨Sa 51,.mv (.t 7),Sb⟩,⟨Sa 52,.call 191 [.t 50,.t 51],Sb⟩,⟨Sa 9,.mv (.t 52),Sb⟩]) (.seq (.reg [⟨Sa 53,.mv (.t 9),Sb⟩,⟨Sa 54,.bin .neq (.t 53) (.c (.i .i64 0)),Sb⟩]) (.cond (.t 54) (.seq (.reg [⟨Sa 55,.mv (.t 9),Sb⟩,⟨Sa 4,.mv (.c (.i .u64 0)),Sb⟩,⟨Sa 5,.mv (.c (.i .i64 0)),Sb⟩,⟨Sa 6,.mv (.t 55),Sb⟩]) (.ret)) (.skip)))) (.seq (.reg [⟨Sa 57,.mv (.t 8),Sb⟩,⟨Sa 58,.call 254 [.t 57,.c (.i .u64 18446744073709551615)],Sb⟩,⟨Sa 56,.mv (.t 58),Sb⟩,⟨Sa 59,.ext (.t 56) 0,Sb⟩,⟨Sa 60,.ext (.t 56) 1,Sb⟩,⟨Sa 10,.mv (.t 59),Sb⟩,⟨Sa 11,.mv (.t 60),Sb⟩]) (.seq (.seq (.reg [⟨Sa 61,.mv (.t 11),Sb⟩,⟨Sa 62,.bin .neq (.t 61) (.c (.i .i64 0)),Sb⟩]) (.cond (.t 62) (.reg [⟨Sa 10,.mv (.c (.i .u64 18446744073709551615)),Sb⟩]) (.skip))) (.seq (.reg [⟨Sa 63,.mv (.t 10),Sb⟩,⟨Sa 64,.mv (.t 7),Sb⟩,⟨Sa 65,.bin .add (.t 64) (.c (.i .i64 2)),Sb⟩,⟨Sa 4,.mv (.t 63),Sb⟩,⟨Sa 5,.mv (.t 65),Sb⟩,⟨Sa 6,.mv (.c (.i .i64 0)),Sb⟩]) (.ret))))))))))
theorem is_body_sizeLine:FnIs Tryz.prog 189 66 [.tmp 4,.tmp 5,.tmp 6] c_body_sizeLine:=⟨⟨_,_,Tryz.func189,rfl,rfl,by kernel_rfl,by kernel_rfl⟩⟩
def c_body_checkLineEnd:SCode :=.seq (.reg [⟨Sa 4,.mv (.c (.i .i64 0)),Sb⟩]) (.seq (.seq (.reg [⟨Sa 6,.mv (.c (.i .i64 0)),Sb⟩]) (.blk 0 (.loop (.seq (.reg [⟨Sa 7,.bin .lss (.t 6) (.c (.i .i64 2)),Sb⟩]) (.seq (.cond (.t 7) (.skip) (.exit 0)) (.seq (.blk 1 (.seq (.reg [⟨Sa 8,.mv (.t 6),Sb⟩,⟨Sa 5,.mv (.t 8),Sb⟩]) (.seq (.seq (.reg [⟨Sa 9,.mv (.t 1),Sb⟩,⟨Sa 10,.mv (.t 5),Sb⟩,⟨Sa 11,.bin .add (.t 9) (.t 10),Sb⟩,⟨Sa 12,.mv (.t 0),Sb⟩,⟨Sa 13,.lens (.t 12),Sb⟩,⟨Sa 14,.bin .geq (.t 11) (.t 13),Sb⟩]) (.cond (.t 14) (.seq (.reg [⟨Sa 4,.mv (.c (.i .i64 191)),Sb⟩]) (.ret)) (.skip))) (.seq (.drw [⟨Sa 15,.mv (.t 0),Sb⟩,⟨Sa 16,.mv (.t 1),Sb⟩,⟨Sa 17,.mv (.t 5),Sb⟩,⟨Sa 18,.bin .add (.t 16) (.t 17),Sb⟩,⟨Sa 19,.idx (.t 15) (.t 18),Sb⟩,⟨Sa 20,.mv (.t 5),Sb⟩,⟨Sa 21,.idx (.c (.s [13,10])) (.t 20),Sb⟩,⟨Sa 22,.bin .neq (.t 19) (.t 21),Sb⟩] 8 []) (.cond (.t 22) (.seq (.reg [⟨Sa 4,.mv (.c (.i .i64 190)),Sb⟩]) (.ret)) (.skip)))))) (.reg [⟨Sa 23,.bin .add (.t 6) (.c (.i .i64 1)),Sb⟩,⟨Sa 6,.mv (.t 23),Sb⟩]))))))) (.seq (.reg [⟨Sa 4,.mv (.c (.i .i64 0)),Sb⟩]) (.ret)))
theorem is_body_checkLineEnd:FnIs Tryz.prog 191 24 [.tmp 4] c_body_checkLineEnd:=⟨⟨_,_,Tryz.func191,rfl,rfl,by kernel_rfl,by kernel_rfl⟩⟩
def c_body_checkTrailer:SCode :=.seq (.reg [⟨Sa 4,.mv (.c (.i .i64 0)),Sb⟩]) (.blk 0 (.loop (.blk 1 (.seq (.reg [⟨Sa 7,.mv (.t 0),Sb⟩,⟨Sa 8,.mv (.t 1),Sb⟩,⟨Sa 9,.call 253 [.t 7,.t 8],Sb⟩,⟨Sa 5,.mv (.t 9),Sb⟩]) (.seq (.seq (.reg [⟨Sa 10,.mv (.t 0),Sb⟩,⟨Sa 11,.mv (.t 5),Sb⟩,⟨Sa 12,.call 191 [.t 10,.t 11],Sb⟩,⟨Sa 6,.mv (.t 12),Sb⟩]) (.seq (.reg [⟨Sa 13,.mv (.t 6),Sb⟩,⟨Sa 14,.bin .neq (.t 13) (.c (.i .i64 0)),Sb⟩,⟨Sa 15,.mv (.t 14),Sb⟩,⟨Sa 16,.mv (.t 5),some (15,false)⟩,⟨Sa 17,.mv (.t 1),some (15,false)⟩,⟨Sa 18,.bin .eql (.t 16) (.t 17),some (15,false)⟩,⟨Sa 19,.pick (.t 15) (.c (.b true)) (.t 18),Sb⟩]) (.cond (.t 19) (.seq (.reg [⟨Sa 20,.mv (.t 6),Sb⟩,⟨Sa 4,.mv (.t 20),Sb⟩]) (.ret)) (.skip)))) (.reg [⟨Sa 21,.mv (.t 5),Sb⟩,⟨Sa 22,.bin .add (.t 21) (.c (.i .i64 2)),Sb⟩,⟨Sa 1,.mv (.t 22),Sb⟩]))))))
theorem is_body_checkTrailer:FnIs Tryz.prog 192 23 [.tmp 4] c_body_checkTrailer:=⟨⟨_,_,Tryz.func192,rfl,rfl,by kernel_rfl,by kernel_rfl⟩⟩
def c_fieldtext_IsByte:SCode :=.seq (.reg [⟨Sa 2,.mv (.c (.b false)),Sb⟩]) (.seq (.reg [⟨Sa 3,.mv (.t 0),Sb⟩,⟨Sa 4,.bin .geq (.t 3) (.c (.i .u8 32)),Sb⟩,⟨Sa 5,.mv (.t 4),Sb⟩,⟨Sa 6,.mv (.t 0),some (5,true)⟩,⟨Sa 7,.bin .neq (.t 6) (.c (.i .u8 127)),some (5,true)⟩,⟨Sa 8,.pick (.t 5) (.t 7) (.c (.b false)),Sb⟩,⟨Sa 9,.mv (.t 8),Sb⟩,⟨Sa 10,.mv (.t 0),some (9,false)⟩,⟨Sa 11,.bin .eql (.t 10) (.c (.i .u8 9)),some (9,false)⟩,⟨Sa 12,.pick (.t 9) (.c (.b true)) (.t 11),Sb⟩,⟨Sa 2,.mv (.t 12),Sb⟩]) (.ret))
theorem is_fieldtext_IsByte:FnIs Tryz.prog 244 13 [.tmp 2] c_fieldtext_IsByte:=⟨⟨_,_,Tryz.func244,rfl,rfl,by kernel_rfl,by kernel_rfl⟩⟩
def c_fieldtext_TokenEnd:SCode :=.seq (.reg [⟨Sa 4,.mv (.c (.i .i64 0)),Sb⟩]) (.seq (.blk 0 (.loop (.seq (.seq (.reg [⟨Sa 5,.mv (.t 1),Sb⟩,⟨Sa 6,.mv (.t 0),Sb⟩,⟨Sa 7,.lens (.t 6),Sb⟩,⟨Sa 8,.bin .lss (.t 5) (.t 7),Sb⟩,⟨Sa 9,.mv (.t 8),Sb⟩,⟨Sa 10,.mv (.t 0),some (9,true)⟩,⟨Sa 11,.mv (.t 1),some (9,true)⟩,⟨Sa 12,.idx (.t 10) (.t 11),some (9,true)⟩,⟨Sa 13,.call 278 [.t 12],some (9,true)⟩,⟨Sa 14,.pick (.t 9) (.t 13) (.c (.b false)),Sb⟩]) (.cond (.t 14) (.skip) (.exit 0))) (.blk 1 (.reg [⟨Sa 15,.mv (.t 1),Sb⟩,⟨Sa 16,.bin .add (.t 15) (.c (.i .i64 1)),Sb⟩,⟨Sa 1,.mv (.t 16),Sb⟩]))))) (.seq (.reg [⟨Sa 17,.mv (.t 1),Sb⟩,⟨Sa 4,.mv (.t 17),Sb⟩]) (.ret)))
theorem is_fieldtext_TokenEnd:FnIs Tryz.prog 245 18 [.tmp 4] c_fieldtext_TokenEnd:=⟨⟨_,_,Tryz.func245,rfl,rfl,by kernel_rfl,by kernel_rfl⟩⟩
def c_uri_Resolve:SCode :=.seq (.reg [⟨Sa 2,.box 88 (.t 0),Sb⟩,⟨Sa 3,.box 88 (.t 1),Sb⟩,⟨Sa 4,.alloc 88 [.s [],.s [],.s [],.s [],.s [],.b false,.b false,.b false,.b false],Sb⟩]) (.seq (.reg [⟨Sa 6,.loadn 9 (.t 3),Sb⟩,⟨Sa 5,.alloc 88 [.s [],.s [],.s [],.s [],.s [],.b false,.b false,.b false,.b false],Sb⟩,⟨Sb,.store 9 (.t 5) (.t 6),Sb⟩]) (.seq (.seq (.reg [⟨Sa 7,.fad 5 (.t 3),Sb⟩,⟨Sa 8,.load1 (.t 7),Sb⟩]) (.cond (.t 8) (.seq (.reg [⟨Sa 9,.fad 2 (.t 3),Sb⟩,⟨Sa 10,.load1 (.t 9),Sb⟩,⟨Sa 11,.call 227 [.t 10],Sb⟩,⟨Sa 12,.fad 2 (.t 5),Sb⟩,⟨Sb,.store 1 (.t 12) (.t 11),Sb⟩]) (.seq (.reg [⟨Sa 13,.loadn 9 (.t 5),Sb⟩,⟨Sb,.store 9 (.t 4) (.t 13),Sb⟩]) (.ret))) (.skip))) (.seq (.drw [⟨Sa 14,.fad 0 (.t 2),Sb⟩,⟨Sa 15,.load1 (.t 14),Sb⟩,⟨Sa 16,.fad 5 (.t 2),Sb⟩,⟨Sa 17,.load1 (.t 16),Sb⟩,⟨Sa 18,.fad 0 (.t 5),Sb⟩,⟨Sb,.store 1 (.t 18) (.t 15),Sb⟩,⟨Sa 19,.fad 5 (.t 5),Sb⟩,⟨Sb,.store 1 (.t 19) (.t 17),Sb⟩] 8 [(16,(18,none))]) (.seq (.seq (.reg [⟨Sa 20,.fad 6 (.t 3),Sb⟩,⟨Sa 21,.load1 (.t 20),Sb⟩]) (.cond (.t 21) (.seq (.reg [⟨Sa 22,.fad 2 (.t 3),Sb⟩,⟨Sa 23,.load1 (.t 22),Sb⟩,⟨Sa 24,.call 227 [.t 23],Sb⟩,⟨Sa 25,.fad 2 (.t 5),Sb⟩,⟨Sb,.store 1 (.t 25) (.t 24),Sb⟩]) (.seq (.reg [⟨Sa 26,.loadn 9 (.t 5),Sb⟩,⟨Sb,.store 9 (.t 4) (.t 26),Sb⟩]) (.ret))) (.skip))) (.seq (.drw [⟨Sa 27,.fad 1 (.t 2),Sb⟩,⟨Sa 28,.load1 (.t 27),Sb⟩,⟨Sa 29,.fad 6 (.t 2),Sb⟩,⟨Sa 30,.load1 (.t 29),Sb⟩,⟨Sa 31,.fad 1 (.t 5),Sb⟩,⟨Sb,.store 1 (.t 31) (.t 28),Sb⟩,⟨Sa 32,.fad 6 (.t 5),Sb⟩,⟨Sb,.store 1 (.t 32) (.t 30),Sb⟩] 8 [(29,(31,none))]) (.seq (.blk 0 (.seq (.reg [⟨Sa 40,.fad 2 (.t 3),Sb⟩,⟨Sa 41,.load1 (.t 40),Sb⟩,⟨Sa 42,.bin .eql (.t 41) (.c (.s [])),Sb⟩,⟨Sa 39,.mv (.t 42),Sb⟩]) (.cond (.t 39) (.seq (.reg [⟨Sa 43,.fad 2 (.t 2),Sb⟩,⟨Sa 44,.load1 (.t 43),Sb⟩,⟨Sa 45,.fad 2 (.t 5),Sb⟩,⟨Sb,.store 1 (.t 45) (.t 44),Sb⟩]) (.seq (.reg [⟨Sa 46,.fad 7 (.t 3),Sb⟩,⟨Sa 47,.load1 (.t 46),Sb⟩,⟨Sa 48,.not (.t 47),Sb⟩]) (.cond (.t 48) (.drw [⟨Sa 49,.fad 3 (.t 2),Sb⟩,⟨Sa 50,.load1 (.t 49),Sb⟩,⟨Sa 51,.fad 7 (.t 2),Sb⟩,⟨Sa 52,.load1 (.t 51),Sb⟩,⟨Sa 53,.fad 3 (.t 5),Sb⟩,⟨Sb,.store 1 (.t 53) (.t 50),Sb⟩,⟨Sa 54,.fad 7 (.t 5),Sb⟩,⟨Sb,.store 1 (.t 54) (.t 52),Sb⟩] 8 [(51,(53,none))]) (.skip)))) (.seq (.reg [⟨Sa 56,.fad 2 (.t 3),Sb⟩,⟨Sa 57,.load1 (.t 56),Sb⟩,⟨Sa 58,.idx (.t 57) (.c (.i .i64 0)),Sb⟩,⟨Sa 59,.bin .eql (.t 58) (.c (.i .u8 47)),Sb⟩,⟨Sa 55,.mv (.t 59),Sb⟩]) (.cond (.t 55) (.reg [⟨Sa 60,.fad 2 (.t 3),Sb⟩,⟨Sa 61,.load1 (.t 60),Sb⟩,⟨Sa 62,.call 227 [.t 61],Sb⟩,⟨Sa 63,.fad 2 (.t 5),Sb⟩,⟨Sb,.store 1 (.t 63) (.t 62),Sb⟩]) (.reg [⟨Sa 33,.loadn 9 (.t 2),Sb⟩,⟨Sa 34,.fad 2 (.t 3),Sb⟩,⟨Sa 35,.load1 (.t 34),Sb⟩,⟨Sa 36,.call 279 [.t 33,.t 35],Sb⟩,⟨Sa 37,.call 227 [.t 36],Sb⟩,⟨Sa 38,.fad 2 (.t 5),Sb⟩,⟨Sb,.store 1 (.t 38) (.t 37),Sb⟩])))))) (.seq (.reg [⟨Sa 64,.loadn 9 (.t 5),Sb⟩,⟨Sb,.store 9 (.t 4) (.t 64),Sb⟩]) (.ret))))))))
theorem is_uri_Resolve:FnIs Tryz.prog 246 65 [.celln 4 9] c_uri_Resolve:=⟨⟨_,_,Tryz.func246,rfl,rfl,by kernel_rfl,by kernel_rfl⟩⟩
def c_uri_Join:SCode :=.seq (.reg [⟨Sa 1,.box 88 (.t 0),Sb⟩,⟨Sa 2,.mv (.c (.s [])),Sb⟩]) (.seq (.drw [⟨Sa 3,.fad 5 (.t 1),Sb⟩,⟨Sa 4,.load1 (.t 3),Sb⟩,⟨Sa 5,.fad 0 (.t 1),Sb⟩,⟨Sa 6,.load1 (.t 5),Sb⟩,⟨Sa 7,.bslice 2 [.s [],.s []] [(0,(1,.t 6)),(1,(1,.c (.s [58])))],Sb⟩,⟨Sa 8,.call 281 [.t 4,.t 7],Sb⟩,⟨Sa 9,.fad 6 (.t 1),Sb⟩,⟨Sa 10,.load1 (.t 9),Sb⟩,⟨Sa 11,.fad 1 (.t 1),Sb⟩,⟨Sa 12,.load1 (.t 11),Sb⟩,⟨Sa 13,.bslice 2 [.s [],.s []] [(0,(1,.c (.s [47,47]))),(1,(1,.t 12))],Sb⟩,⟨Sa 14,.call 281 [.t 10,.t 13],Sb⟩,⟨Sa 15,.fad 2 (.t 1),Sb⟩,⟨Sa 16,.load1 (.t 15),Sb⟩,⟨Sa 17,.fad 7 (.t 1),Sb⟩,⟨Sa 18,.load1 (.t 17),Sb⟩,⟨Sa 19,.fad 3 (.t 1),Sb⟩,⟨Sa 20,.load1 (.t 19),Sb⟩,⟨Sa 21,.bslice 2 [.s [],.s []] [(0,(1,.c (.s [63]))),(1,(1,.t 20))],Sb⟩,⟨Sa 22,.call 281 [.t 18,.t 21],Sb⟩,⟨Sa 23,.fad 8 (.t 1),Sb⟩,⟨Sa 24,.load1 (.t 23),Sb⟩,⟨Sa 25,.fad 4 (.t 1),Sb⟩,⟨Sa 26,.load1 (.t 25),Sb⟩,⟨Sa 27,.bslice 2 [.s [],.s []] [(0,(1,.c (.s [35]))),(1,(1,.t 26))],Sb⟩,⟨Sa 28,.call 281 [.t 24,.t 27],Sb⟩,⟨Sa 29,.bslice 5 [.s [],.s [],.s [],.s [],.s []] [(0,(1,.t 8)),(1,(1,.t 14)),(2,(1,.t 16)),(3,(1,.t 22)),(4,(1,.t 28))],Sb⟩,⟨Sa 30,.call 280 [.t 29],Sb⟩,⟨Sa 2,.mv (.t 30),Sb⟩] 29 []) (.ret))
theorem is_uri_Join:FnIs Tryz.prog 247 31 [.tmp 2] c_uri_Join:=⟨⟨_,_,Tryz.func247,rfl,rfl,by kernel_rfl,by kernel_rfl⟩⟩
def c_body_lineTextEnd:SCode :=.seq (.reg [⟨Sa 4,.mv (.c (.i .i64 0)),Sb⟩]) (.seq (.blk 0 (.loop (.seq (.seq (.reg [⟨Sa 5,.mv (.t 1),Sb⟩,⟨Sa 6,.mv (.t 0),Sb⟩,⟨Sa 7,.lens (.t 6),Sb⟩,⟨Sa 8,.bin .lss (.t 5) (.t 7),Sb⟩,⟨Sa 9,.mv (.t 8),Sb⟩,⟨Sa 10,.mv (.t 0),some (9,true)⟩,⟨Sa 11,.mv (.t 1),some (9,true)⟩,⟨Sa 12,.idx (.t 10) (.t 11),some (9,true)⟩,⟨Sa 13,.bin .neq (.t 12) (.c (.i .u8 13)),some (9,true)⟩,⟨Sa 14,.pick (.t 9) (.t 13) (.c (.b false)),Sb⟩,⟨Sa 15,.mv (.t 14),Sb⟩,⟨Sa 16,.mv (.t 0),some (15,true)⟩,⟨Sa 17,.mv (.t 1),some (15,true)⟩,⟨Sa 18,.idx (.t 16) (.t 17),some (15,true)⟩,⟨Sa 19,.bin .neq (.t 18) (.c (.i .u8 10)),some (15,true)⟩,⟨Sa 20,.pick (.t 15) (.t 19) (.c (.b false)),Sb⟩]) (.cond (.t 20) (.skip) (.exit 0))) (.blk 1 (.reg [⟨Sa 21,.mv (.t 1),Sb⟩,⟨Sa 22,.bin .add (.t 21) (.c (.i .i64 1)),Sb⟩,⟨Sa 1,.mv (.t 22),Sb⟩]))))) (.seq (.reg [⟨Sa 23,.mv (.t 1),Sb⟩,⟨Sa 4,.mv (.t 23),Sb⟩]) (.ret)))
theorem is_body_lineTextEnd:FnIs Tryz.prog 253 24 [.tmp 4] c_body_lineTextEnd:=⟨⟨_,_,Tryz.func253,rfl,rfl,by kernel_rfl,by kernel_rfl⟩⟩
def c_uri_merge:SCode :=.seq (.reg [⟨Sa 2,.box 88 (.t 0),Sb⟩,⟨Sa 4,.mv (.c (.s [])),Sb⟩]) (.seq (.seq (.reg [⟨Sa 5,.fad 6 (.t 2),Sb⟩,⟨Sa 6,.load1 (.t 5),Sb⟩,⟨Sa 7,.mv (.t 6),Sb⟩,⟨Sa 8,.fad 2 (.t 2),some (7,true)⟩,⟨Sa 9,.load1 (.t 8),some (7,true)⟩,⟨Sa 10,.bin .eql (.t 9) (.c (.s [])),some (7,true)⟩,⟨Sa 11,.pick (.t 7) (.t 10) (.c (.b false)),Sb⟩]) (.cond (.t 11) (.seq (.reg [⟨Sa 12,.mv (.t 1),Sb⟩,⟨Sa 13,.bin .add (.c (.s [47])) (.t 12),Sb⟩,⟨Sa 4,.mv (.t 13),Sb⟩]) (.ret)) (.skip))) (.seq (.drw [⟨Sa 14,.fad 2 (.t 2),Sb⟩,⟨Sa 15,.load1 (.t 14),Sb⟩,⟨Sa 16,.fad 2 (.t 2),Sb⟩,⟨Sa 17,.load1 (.t 16),Sb⟩,⟨Sa 18,.call 299 [.t 17,.c (.i .u8 47)],Sb⟩,⟨Sa 19,.bin .add (.t 18) (.c (.i .i64 1)),Sb⟩,⟨Sa 20,.slcs (.t 15) none (some (.t 19)),Sb⟩,⟨Sa 21,.mv (.t 1),Sb⟩,⟨Sa 22,.bin .add (.t 20) (.t 21),Sb⟩,⟨Sa 4,.mv (.t 22),Sb⟩] 10 []) (.ret)))
theorem is_uri_merge:FnIs Tryz.prog 279 23 [.tmp 4] c_uri_merge:=⟨⟨_,_,Tryz.func279,rfl,rfl,by kernel_rfl,by kernel_rfl⟩⟩
def c_uri_concat:SCode :=.seq (.reg [⟨Sa 2,.mv (.c (.s [])),Sb⟩]) (.seq (.reg [⟨Sa 3,.mv (.t 0),Sb⟩,⟨Sa 4,.call 187 [.t 3,.c (.s [])],Sb⟩,⟨Sa 2,.mv (.t 4),Sb⟩]) (.ret))
theorem is_uri_concat:FnIs Tryz.prog 280 5 [.tmp 2] c_uri_concat:=⟨⟨_,_,Tryz.func280,rfl,rfl,by kernel_rfl,by kernel_rfl⟩⟩
def c_uri_given:SCode :=.seq (.reg [⟨Sa 4,.mv (.c (.s [])),Sb⟩]) (.seq (.seq (.reg [⟨Sa 5,.mv (.t 0),Sb⟩,⟨Sa 6,.not (.t 5),Sb⟩]) (.cond (.t 6) (.seq (.reg [⟨Sa 4,.mv (.c (.s [])),Sb⟩]) (.ret)) (.skip))) (.seq (.reg [⟨Sa 7,.mv (.t 1),Sb⟩,⟨Sa 8,.call 280 [.t 7],Sb⟩,⟨Sa 4,.mv (.t 8),Sb⟩]) (.ret)))
theorem is_uri_given:FnIs Tryz.prog 281 9 [.tmp 4] c_uri_given:=⟨⟨_,_,Tryz.func281,rfl,rfl,by kernel_rfl,by kernel_rfl⟩⟩
end Go.Proofs.YtomkbafdmbfmfaaGreatDoor.Sx
namespace Go.Proofs.YtomkbafdmbfmfaaGreatDoor
open Go.RowKit Sx
open List renaming all_eq_true->qf
theorem all_of {s:List UInt8} {p:UInt8->Bool} (h:∀j (hj:j<s.length),p s[j]=true):s.all p=true:=by
 rw[qf];intro x hx;obtain⟨j,hj,rfl⟩:=List.mem_iff_getElem.1 hx;exact h j hj
theorem all_not {s:List UInt8} {p:UInt8->Bool} {j:Nat} (hj:j<s.length) (h:p s[j]=false):s.all p=false:=by
 rw[Bool.eq_false_iff];intro e;have:=qf.1 e s[j] (List.getElem_mem _);rw[h] at this;cases this
theorem zc5 {s:List UInt8} {j:Nat} (hj:j<s.length):s.getD j 0=s[j]:=by
 rw[List.getD_eq_getElem?_getD,List.getElem?_eq_getElem hj];rfl
theorem zbN (n:Int) (h0:0<=n) (h1:n<18446744073709551616):IntKind.u64.wrap n=n:=by
 simp[IntKind.wrap,IntKind.bits,IntKind.signed];omega
theorem Qb.rev {w w':World} (h:w'=w):Qb w w':=by subst h;exact Qb.refl _
section
variable [Tabs Tryz.prog] {objs:List OB} {K:List OB->AV->Prop}
theorem zdQ (a b:List UInt8) (ha:a.length<=maxLen) (hb:b.length<=maxLen) (hk:K objs (.b (eqL a b))):zaa Tryz.prog 224 [.s a,.s b] objs K :=
 conv (vs:=[.string (S a),.string (S b)]) rfl rfl (fun w=>zpC (S a) (S b) w (by rw[zap];exact ha) (by rw[zap];exact hb)) hk
theorem zmI (s:List UInt8) (c:UInt8) (hs:s.length<=maxLen) (hk:K objs (.tup [.s (zaB c s).1,.s (zaB c s).2.1,.b (zaB c s).2.2])):zaa Tryz.prog 125 [.s s,.s [c]] objs K :=
 conv (vs:=[.string (S s),.string (S [c])]) rfl rfl (fun w=>zbr (S s) c w (by rw[zap];exact hs)) hk
theorem zdF (u:Nat) (hu:u<18446744073709551616) (hk:K objs (.s (Lib.decDigits u))):zaa Tryz.prog 194 [.i .u64 u] objs K :=
 conv (vs:=[.int .u64 u]) rfl rfl (fun w=>zh5 u hu w) hk
theorem itoa_k [Pow Tryz.prog] (n:Int) (h0:-9223372036854775808<=n) (h1:n<=9223372036854775807) (hk:K objs (.s (Lib.itoa n))):zaa Tryz.prog 128 [.i .i64 n] objs K :=
 convT (vs:=[.int .i64 n]) rfl rfl (fun w hT=>(Tryz.strconv_Itoa n h0 h1 w (Pow.pw w hT)).mono fun e w' h=>by
  obtain⟨h2,k,os,h3⟩:=h;exact⟨h2,by rw[h3];exact qb_grow w k os⟩) hk
theorem aHex_k (c:UInt8) (hk:K objs (.b (zau c))):zaa Tryz.prog 252 [.i .u8 c.toNat] objs K :=
 zjx (vs:=[.int .u8 c.toNat]) rfl rfl (fun w=>zew c w) hk
theorem aTok_k (c:UInt8) (hk:K objs (.b (zcu c))):zaa Tryz.prog 278 [.i .u8 c.toNat] objs K :=
 zjx (vs:=[.int .u8 c.toNat]) rfl rfl (fun w=>zpA c w) hk
theorem zke (s:List UInt8) (most:Nat) (hs:s.length<=maxLen) (hm:most<=18446744073709551615) (hk:K objs (.tup [.i .u64 (zbe zaf 10 most s).2,.i .i64 (zbe zaf 10 most s).1])):zaa Tryz.prog 181 [.s s,.i .u64 most] objs K :=
 zjx (vs:=[.string (S s),.int .u64 most]) rfl rfl (fun w=>zlN (S s) most w (by rw[zap];exact hs) (by omega) (by omega)) hk
theorem nHex_k (s:List UInt8) (most:Nat) (hs:s.length<=maxLen) (hm:most<=18446744073709551615) (hk:K objs (.tup [.i .u64 (zbe zau 16 most s).2,.i .i64 (zbe zau 16 most s).1])):zaa Tryz.prog 254 [.s s,.i .u64 most] objs K :=
 zjx (vs:=[.string (S s),.int .u64 most]) rfl rfl (fun w=>nHex_any (S s) most w (by rw[zap];exact hs) (by omega) (by omega)) hk
end
end Go.Proofs.YtomkbafdmbfmfaaGreatDoor
namespace Go.Proofs.YtomkbafdmbfmfaaGreatDoor
open Go.RowKit
open Lib renaming hasPrefix->zm, hid->za
open List renaming eq_nil_of_length_eq_zero->jb, length_cons->ze, length_drop->zv, length_take->qi
open Nat renaming le_refl->zd
theorem zme (s:ByteArray) (w:World) (h:16384<s.size) :
  Calls Tryz.prog 167 #[.string s] w fun e w'=>e=.returned (zjG (zai s.data.toList))/\Qb w w':=by
 have HE:Hid (zai s.data.toList=(5,zgb)):=za (by unfold zai;rw[if_pos (by rw[zae];exact h)])
 go_enter Tryz.func167,Tryz.ntmps167
 go_wp2_with fail
 exact bodyPost_ret (v:=zjG (5,zgb)) (by simp[results,Tryz.results167,go_sem,zjG,uriA,zaT,zgb]) rfl ⟨by rw[HE.out],(Qb.refl w).alloc _⟩
set_option maxHeartbeats 2000000 in
theorem zjz (s:ByteArray) (w:World) (h:s.size<=16384) :
  Calls Tryz.prog 167 #[.string s] w fun e w'=>e=.returned (zjG (zai s.data.toList))/\Qb w w':=by
 obtain⟨l1,fr,bf,h35⟩:∃l1 fr bf,zaB 35 s.data.toList=(l1,fr,bf):=⟨_,_,_,rfl⟩;obtain⟨l2,qu,bq,h63⟩:∃l2 qu bq,zaB 63 l1=(l2,qu,bq):=⟨_,_,_,rfl⟩;have hl1:l1.length<=16384:=by have:=(zbo 35 s.data.toList).1;rw[h35,zae] at this;simp at this;omega
 have hl2:l2.length<=16384:=by have:=(zbo 63 l1).1;rw[h63] at this;simp at this;omega
 have HB:Hid (zhE s.data.toList=l2):=za (by unfold zhE;rw[h35];simp only;rw[h63]);have HS:Hid (za3 s.data.toList=zaB 58 (zaF l2)):=za (by unfold za3;rw[HB.out]);have HE:Hid (zai s.data.toList=if ((za3 s.data.toList).2.2&&!zcX (za3 s.data.toList).1)=true then (6,zgb) else (0,{ scheme:=if (za3 s.data.toList).2.2=true then (za3 s.data.toList).1 else [],auth:=zcc (zde s.data.toList),path:=zcZ (zde s.data.toList),query:=qu,frag:=fr,hs:=(za3 s.data.toList).2.2,ha:=zeb (zde s.data.toList),hq:=bq,hf:=bf })):=za (by
  unfold zai;rw[if_neg (by rw[zae];omega),h35];simp only;rw[h63])
 have H35:=za h35;have H63:=za h63;have hfl:=(zbL l2).2;clear h35 h63
 go_enter Tryz.func167,Tryz.ntmps167
 go_wp2_with fail
 refine(ze7 s.data.toList 35 (w.heap.size+1) _ (by rw[zae];omega) (Obk.alloc (Obk.at_ (w.alloc _) _ _ _ (by simp)) _)).mono ?_;rintro e w1 ⟨he,hC1,hg1⟩;rw[H35.out] at he hC1;subst he;have hU1:=(Obk.at_ ((w.alloc (.cells (zaT zgb) 88)).alloc (.cells #[.string s] 9)) 88 (zaT zgb) (w.heap.size+2) (by simp)).other hg1 (by omega);have hR1:=(Obk.alloc (Obk.alloc (Obk.new w 88 (zaT zgb)) (.cells #[.string s] 9)) (.cells (zaT zgb) 88)).other hg1 (by omega);have hq1:Qb w w1:=((((Qb.refl w).alloc (.cells (zaT zgb) 88)).alloc (.cells #[.string s] 9)).alloc (.cells (zaT zgb) 88)).turned hg1 (by omega);have hz1:w.heap.size+3<=w1.heap.size:=by have:=hg1.size;simp at this;omega
 have c4:w1.cell? ⟨w.heap.size+2,4,none⟩=some (.string (S [])):=hU1.cell 4;have c8:w1.cell? ⟨w.heap.size+2,8,none⟩=some (.bool false):=hU1.cell 8;have f4:=hU1.frozen 4;have f8:=hU1.frozen 8;have HU1:=za hU1;have HR1:=za hR1;have HC1:=za hC1;clear hU1 hR1 hC1
 go_wp2_with fail
 refine(ze7 l1 63 (w.heap.size+1) _ (by omega) ((HC1.out.st (w.heap.size+2) 4 _ (by omega)).st (w.heap.size+2) 8 _ (by omega))).mono ?_;rintro e w2 ⟨he,hC2,hg2⟩;rw[H63.out] at he hC2;subst he;have hU2:Obk w2 (w.heap.size+2) 88 (zaT { zgb with frag:=fr,hf:=bf }):=((HU1.out.put 4 _).put 8 _).other hg2 (by omega);have hR2:=((HR1.out.st (w.heap.size+2) 4 _ (by omega)).st (w.heap.size+2) 8 _ (by omega)).other hg2 (by omega);have hq2:Qb w w2:=((hq1.st (w.heap.size+2) 4 _ (by omega)).st (w.heap.size+2) 8 _ (by omega)).turned hg2 (by omega);have hz2:w.heap.size+3<=w2.heap.size:=by have:=hg2.size;simp[World.setCell] at this;omega
 have c3:w2.cell? ⟨w.heap.size+2,3,none⟩=some (.string (S [])):=hU2.cell 3;have c7:w2.cell? ⟨w.heap.size+2,7,none⟩=some (.bool false):=hU2.cell 7;have cc:w2.cell? ⟨w.heap.size+1,0,none⟩=some (.string (S l2)):=hC2.cell 0;have f3:=hU2.frozen 3;have f7:=hU2.frozen 7;have HU2:=za hU2;have HR2:=za hR2;have HC2:=za hC2;clear hU2 hR2 hC2 hg1 c4 c8 f4 f8
 go_wp2_with fail
 refine(zg6 (S l2) _ (by unfold maxLen;rw[zap];omega)).mono ?_;rintro e w3 ⟨rfl,hq3⟩;rw[zak];have hU3:Obk w3 (w.heap.size+2) 88 (zaT { zgb with frag:=fr,hf:=bf,query:=qu,hq:=bq }):=((HU2.out.put 3 _).put 7 _).qb hq3;have hR3:Obk w3 w.heap.size 88 (zaT zgb):=((HR2.out.st (w.heap.size+2) 3 _ (by omega)).st (w.heap.size+2) 7 _ (by omega)).qb hq3;have hC3:Obk w3 (w.heap.size+1) 9 #[.string (S l2)]:=((HC2.out.st (w.heap.size+2) 3 _ (by omega)).st (w.heap.size+2) 7 _ (by omega)).qb hq3;have hqw:Qb w w3:=((hq2.st (w.heap.size+2) 3 _ (by omega)).st (w.heap.size+2) 7 _ (by omega)).trans hq3;have hz3:w.heap.size+3<=w3.heap.size:=by have:=hq3.size;simp[World.setCell] at this;omega
 clear hg2 c3 c7 cc f3 f7 hq1 hq2 hq3 HU1 HR1 HC1 HU2 HR2 HC2 hz1 hz2;rcases zbR 58 (zaF l2) with ⟨i1,i2,_⟩|⟨k,i1,i2,i3,_⟩
 ·have HI:=za i1;have hcut:za3 s.data.toList=(zaF l2,[],false):=by rw[HS.out,i2]
  have hhier:zde s.data.toList=l2:=by unfold zde;rw[hcut,HB.out];rfl
  have HF0:∀b,zeb l2=b->zai s.data.toList=(0,{ scheme:=[],auth:=zcc l2,path:=zcZ l2,query:=qu,frag:=fr,hs:=false,ha:=b,hq:=bq,hf:=bf }):=fun b hb=>by
   rw[HE.out,hcut,hhier,hb];rfl
  have HFH:=za HF0;rw[HI.out];clear i1 i2 hcut hhier HF0;have hU:=hU3;have hR:=hR3;have hC:=hC3;clear hU3 hR3 hC3;have cc:w3.cell? ⟨w.heap.size+1,0,none⟩=some (.string (S l2)):=hC.cell 0;rcases h2:zeb l2 with _|_
  ·have HF:=za (HFH.out false h2);have hau:zcc l2=[]:=by unfold zcc;rw[h2];rfl
   have hpa:zcZ l2=l2:=by unfold zcZ;rw[h2];rfl
   rw[hau,hpa] at HF;have H2:=za h2;have u0:w3.cell? ⟨w.heap.size+2,0,none⟩=some (.string (S [])):=hU.cell 0;have uf0:w3.frozen? ⟨w.heap.size+2,0,none⟩=false:=hU.frozen 0;have u1:w3.cell? ⟨w.heap.size+2,1,none⟩=some (.string (S [])):=hU.cell 1;have uf1:w3.frozen? ⟨w.heap.size+2,1,none⟩=false:=hU.frozen 1;have u2:w3.cell? ⟨w.heap.size+2,2,none⟩=some (.string (S [])):=hU.cell 2;have uf2:w3.frozen? ⟨w.heap.size+2,2,none⟩=false:=hU.frozen 2;have u3:w3.cell? ⟨w.heap.size+2,3,none⟩=some (.string (S qu)):=hU.cell 3;have uf3:w3.frozen? ⟨w.heap.size+2,3,none⟩=false:=hU.frozen 3;have u4:w3.cell? ⟨w.heap.size+2,4,none⟩=some (.string (S fr)):=hU.cell 4;have uf4:w3.frozen? ⟨w.heap.size+2,4,none⟩=false:=hU.frozen 4;have u5:w3.cell? ⟨w.heap.size+2,5,none⟩=some (.bool false):=hU.cell 5;have uf5:w3.frozen? ⟨w.heap.size+2,5,none⟩=false:=hU.frozen 5;have u6:w3.cell? ⟨w.heap.size+2,6,none⟩=some (.bool false):=hU.cell 6;have uf6:w3.frozen? ⟨w.heap.size+2,6,none⟩=false:=hU.frozen 6;have u7:w3.cell? ⟨w.heap.size+2,7,none⟩=some (.bool bq):=hU.cell 7;have uf7:w3.frozen? ⟨w.heap.size+2,7,none⟩=false:=hU.frozen 7;have u8:w3.cell? ⟨w.heap.size+2,8,none⟩=some (.bool bf):=hU.cell 8;have uf8:w3.frozen? ⟨w.heap.size+2,8,none⟩=false:=hU.frozen 8;have r0:w3.cell? ⟨w.heap.size,0,none⟩=some (.string (S [])):=hR.cell 0;have rf0:w3.frozen? ⟨w.heap.size,0,none⟩=false:=hR.frozen 0;have r1:w3.cell? ⟨w.heap.size,1,none⟩=some (.string (S [])):=hR.cell 1;have rf1:w3.frozen? ⟨w.heap.size,1,none⟩=false:=hR.frozen 1;have r2:w3.cell? ⟨w.heap.size,2,none⟩=some (.string (S [])):=hR.cell 2;have rf2:w3.frozen? ⟨w.heap.size,2,none⟩=false:=hR.frozen 2;have r3:w3.cell? ⟨w.heap.size,3,none⟩=some (.string (S [])):=hR.cell 3;have rf3:w3.frozen? ⟨w.heap.size,3,none⟩=false:=hR.frozen 3;have r4:w3.cell? ⟨w.heap.size,4,none⟩=some (.string (S [])):=hR.cell 4;have rf4:w3.frozen? ⟨w.heap.size,4,none⟩=false:=hR.frozen 4;have r5:w3.cell? ⟨w.heap.size,5,none⟩=some (.bool false):=hR.cell 5;have rf5:w3.frozen? ⟨w.heap.size,5,none⟩=false:=hR.frozen 5;have r6:w3.cell? ⟨w.heap.size,6,none⟩=some (.bool false):=hR.cell 6;have rf6:w3.frozen? ⟨w.heap.size,6,none⟩=false:=hR.frozen 6;have r7:w3.cell? ⟨w.heap.size,7,none⟩=some (.bool false):=hR.cell 7;have rf7:w3.frozen? ⟨w.heap.size,7,none⟩=false:=hR.frozen 7;have r8:w3.cell? ⟨w.heap.size,8,none⟩=some (.bool false):=hR.cell 8;have rf8:w3.frozen? ⟨w.heap.size,8,none⟩=false:=hR.frozen 8;have HU:=za hU;have HR:=za hR;clear h2 hau hpa hU hR
   go_wp2_with fail
   refine(Tryz.strings_CutPrefix _ _ _).mono ?_;rintro e w4 ⟨rfl,rfl⟩;rw[zak,show zm l2 [47,47]=false from H2.out]
   go_wp2_with fail
   exact bodyPost_ret (v:=zjG (0,⟨[],[],l2,qu,fr,false,false,bq,bf⟩)) (by simp[results,Tryz.results167,go_sem,zjG,uriA,zaT,r0,r1,r2,r3,r4,r5,r6,r7,r8,rf0,rf1,rf2,rf3,rf4,rf5,rf6,rf7,rf8]) rfl ⟨by rw[HF.out],((((((((((hqw.st (w.heap.size+2) 2 _ (by omega)).st w.heap.size 0 _ (by omega)).st w.heap.size 1 _ (by omega)).st w.heap.size 2 _ (by omega)).st w.heap.size 3 _ (by omega)).st w.heap.size 4 _ (by omega)).st w.heap.size 5 _ (by omega)).st w.heap.size 6 _ (by omega)).st w.heap.size 7 _ (by omega)).st w.heap.size 8 _ (by omega))⟩
  ·have hln:=zhQ h2;have htp:=za (zgk h2);have HF:=za (HFH.out true h2);have hau:zcc l2=zaF (l2.drop 2):=by unfold zcc;rw[h2];rfl
   have hpa:zcZ l2=(l2.drop 2).drop (zaF (l2.drop 2)).length:=by unfold zcZ;rw[h2,hau];rfl
   rw[hau,hpa] at HF;have hfp:=(zbL (l2.drop 2)).2;have hdl:(l2.drop 2).length<=16384:=by rw[zv];omega
   have H2:=za h2;have HX1:=zaZ (S (l2.drop 2)) (zaF (l2.drop 2)).length;rw[zap,zak] at HX1;have HX:=za HX1;clear h2 hau hpa HX1;generalize l2.drop 2=d at *;generalize hga:zaF d=a at *;have HA:=za hga;clear hga;have HU:=za hU;have HR:=za hR;have HC:=za hC;clear hU hR hC
   go_wp2_with fail
   refine(Tryz.strings_CutPrefix _ _ _).mono ?_;rintro e w4 ⟨rfl,rfl⟩;rw[zak,show zm l2 [47,47]=true from H2.out,show Lib.trimPrefix l2 [47,47]=d from htp.out]
   go_wp2_with fail
   refine(zca (S d) _ (by unfold maxLen;rw[zap];omega)).mono ?_;rintro e w5 ⟨rfl,hq5⟩;rw[zak,HA.out];have hU:=HU.out.qb hq5;have hR:=HR.out.qb hq5;have hC:=HC.out.qb hq5;have hqv:=hqw.trans hq5;have cc5:w5.cell? ⟨w.heap.size+1,0,none⟩=some (.string (S l2)):=hC.cell 0;have cf5:w5.frozen? ⟨w.heap.size+1,0,none⟩=false:=hC.frozen 0;have u0:w5.cell? ⟨w.heap.size+2,0,none⟩=some (.string (S [])):=hU.cell 0;have uf0:w5.frozen? ⟨w.heap.size+2,0,none⟩=false:=hU.frozen 0;have u1:w5.cell? ⟨w.heap.size+2,1,none⟩=some (.string (S [])):=hU.cell 1;have uf1:w5.frozen? ⟨w.heap.size+2,1,none⟩=false:=hU.frozen 1;have u2:w5.cell? ⟨w.heap.size+2,2,none⟩=some (.string (S [])):=hU.cell 2;have uf2:w5.frozen? ⟨w.heap.size+2,2,none⟩=false:=hU.frozen 2;have u3:w5.cell? ⟨w.heap.size+2,3,none⟩=some (.string (S qu)):=hU.cell 3;have uf3:w5.frozen? ⟨w.heap.size+2,3,none⟩=false:=hU.frozen 3;have u4:w5.cell? ⟨w.heap.size+2,4,none⟩=some (.string (S fr)):=hU.cell 4;have uf4:w5.frozen? ⟨w.heap.size+2,4,none⟩=false:=hU.frozen 4;have u5:w5.cell? ⟨w.heap.size+2,5,none⟩=some (.bool false):=hU.cell 5;have uf5:w5.frozen? ⟨w.heap.size+2,5,none⟩=false:=hU.frozen 5;have u6:w5.cell? ⟨w.heap.size+2,6,none⟩=some (.bool false):=hU.cell 6;have uf6:w5.frozen? ⟨w.heap.size+2,6,none⟩=false:=hU.frozen 6;have u7:w5.cell? ⟨w.heap.size+2,7,none⟩=some (.bool bq):=hU.cell 7;have uf7:w5.frozen? ⟨w.heap.size+2,7,none⟩=false:=hU.frozen 7;have u8:w5.cell? ⟨w.heap.size+2,8,none⟩=some (.bool bf):=hU.cell 8;have uf8:w5.frozen? ⟨w.heap.size+2,8,none⟩=false:=hU.frozen 8;have r0:w5.cell? ⟨w.heap.size,0,none⟩=some (.string (S [])):=hR.cell 0;have rf0:w5.frozen? ⟨w.heap.size,0,none⟩=false:=hR.frozen 0;have r1:w5.cell? ⟨w.heap.size,1,none⟩=some (.string (S [])):=hR.cell 1;have rf1:w5.frozen? ⟨w.heap.size,1,none⟩=false:=hR.frozen 1;have r2:w5.cell? ⟨w.heap.size,2,none⟩=some (.string (S [])):=hR.cell 2;have rf2:w5.frozen? ⟨w.heap.size,2,none⟩=false:=hR.frozen 2;have r3:w5.cell? ⟨w.heap.size,3,none⟩=some (.string (S [])):=hR.cell 3;have rf3:w5.frozen? ⟨w.heap.size,3,none⟩=false:=hR.frozen 3;have r4:w5.cell? ⟨w.heap.size,4,none⟩=some (.string (S [])):=hR.cell 4;have rf4:w5.frozen? ⟨w.heap.size,4,none⟩=false:=hR.frozen 4;have r5:w5.cell? ⟨w.heap.size,5,none⟩=some (.bool false):=hR.cell 5;have rf5:w5.frozen? ⟨w.heap.size,5,none⟩=false:=hR.frozen 5;have r6:w5.cell? ⟨w.heap.size,6,none⟩=some (.bool false):=hR.cell 6;have rf6:w5.frozen? ⟨w.heap.size,6,none⟩=false:=hR.frozen 6;have r7:w5.cell? ⟨w.heap.size,7,none⟩=some (.bool false):=hR.cell 7;have rf7:w5.frozen? ⟨w.heap.size,7,none⟩=false:=hR.frozen 7;have r8:w5.cell? ⟨w.heap.size,8,none⟩=some (.bool false):=hR.cell 8;have rf8:w5.frozen? ⟨w.heap.size,8,none⟩=false:=hR.frozen 8;clear HU HR HC hU hR hC cc hq5;have e1:(S d).extract a.length d.length=S (d.drop a.length):=HX.out
   go_wp2_with fail
   exact bodyPost_ret (v:=zjG (0,⟨[],a,(d.drop a.length),qu,fr,false,true,bq,bf⟩)) (by simp[results,Tryz.results167,go_sem,zjG,uriA,zaT,r0,r1,r2,r3,r4,r5,r6,r7,r8,rf0,rf1,rf2,rf3,rf4,rf5,rf6,rf7,rf8]) rfl ⟨by rw[HF.out],(((((((((((((hqv.st (w.heap.size+2) 1 _ (by omega)).st (w.heap.size+2) 6 _ (by omega)).st (w.heap.size+1) 0 _ (by omega)).st (w.heap.size+2) 2 _ (by omega)).st w.heap.size 0 _ (by omega)).st w.heap.size 1 _ (by omega)).st w.heap.size 2 _ (by omega)).st w.heap.size 3 _ (by omega)).st w.heap.size 4 _ (by omega)).st w.heap.size 5 _ (by omega)).st w.heap.size 6 _ (by omega)).st w.heap.size 7 _ (by omega)).st w.heap.size 8 _ (by omega))⟩
 ·have hk2:k<l2.length:=by omega
  have hkf:(zaF l2).take k=l2.take k:=by
   have h1:=(zbL l2).1;rw[h1,List.take_take,Nat.min_eq_left (by omega)]
  rw[hkf] at i3;have hcut:za3 s.data.toList=(l2.take k,(zaF l2).drop (k+1),true):=by rw[HS.out,i3]
  have hE1:=zd5 (S l2) k;rw[zak] at hE1;have E1:=za hE1;have HI:=za i1;rw[HI.out];rcases hsb:zcX (l2.take k) with _|_
  ·have HF:Hid (zai s.data.toList=(6,zgb)):=za (by rw[HE.out,hcut];simp only;rw[hsb];rfl);have HSB:=za hsb;have cc:w3.cell? ⟨w.heap.size+1,0,none⟩=some (.string (S l2)):=hC3.cell 0;have r0:w3.cell? ⟨w.heap.size,0,none⟩=some (.string (S [])):=hR3.cell 0;have rf0:w3.frozen? ⟨w.heap.size,0,none⟩=false:=hR3.frozen 0;have r1:w3.cell? ⟨w.heap.size,1,none⟩=some (.string (S [])):=hR3.cell 1;have rf1:w3.frozen? ⟨w.heap.size,1,none⟩=false:=hR3.frozen 1;have r2:w3.cell? ⟨w.heap.size,2,none⟩=some (.string (S [])):=hR3.cell 2;have rf2:w3.frozen? ⟨w.heap.size,2,none⟩=false:=hR3.frozen 2;have r3:w3.cell? ⟨w.heap.size,3,none⟩=some (.string (S [])):=hR3.cell 3;have rf3:w3.frozen? ⟨w.heap.size,3,none⟩=false:=hR3.frozen 3;have r4:w3.cell? ⟨w.heap.size,4,none⟩=some (.string (S [])):=hR3.cell 4;have rf4:w3.frozen? ⟨w.heap.size,4,none⟩=false:=hR3.frozen 4;have r5:w3.cell? ⟨w.heap.size,5,none⟩=some (.bool false):=hR3.cell 5;have rf5:w3.frozen? ⟨w.heap.size,5,none⟩=false:=hR3.frozen 5;have r6:w3.cell? ⟨w.heap.size,6,none⟩=some (.bool false):=hR3.cell 6;have rf6:w3.frozen? ⟨w.heap.size,6,none⟩=false:=hR3.frozen 6;have r7:w3.cell? ⟨w.heap.size,7,none⟩=some (.bool false):=hR3.cell 7;have rf7:w3.frozen? ⟨w.heap.size,7,none⟩=false:=hR3.frozen 7;have r8:w3.cell? ⟨w.heap.size,8,none⟩=some (.bool false):=hR3.cell 8;have rf8:w3.frozen? ⟨w.heap.size,8,none⟩=false:=hR3.frozen 8;clear i1 i3 hcut hkf hE1 hsb hU3 hR3 hC3
   go_wp2_with fail
   rw[E1.out];refine(zeZ _ _ (by unfold maxLen;rw[zap,qi];omega)).mono ?_;rintro e w4 ⟨rfl,rfl⟩;rw[zak,HSB.out]
   go_wp2_with fail
   exact bodyPost_ret (v:=zjG (6,zgb)) (by simp[results,Tryz.results167,go_sem,zjG,uriA,zaT,zgb,r0,r1,r2,r3,r4,r5,r6,r7,r8,rf0,rf1,rf2,rf3,rf4,rf5,rf6,rf7,rf8]) rfl ⟨by rw[HF.out],(((((((((hqw.st w.heap.size 0 _ (by omega)).st w.heap.size 1 _ (by omega)).st w.heap.size 2 _ (by omega)).st w.heap.size 3 _ (by omega)).st w.heap.size 4 _ (by omega)).st w.heap.size 5 _ (by omega)).st w.heap.size 6 _ (by omega)).st w.heap.size 7 _ (by omega)).st w.heap.size 8 _ (by omega))⟩
  ·have HSB:=za hsb;have hlt:(l2.take k).length=k:=by rw[qi];omega
   have hhier:zde s.data.toList=l2.drop (k+1):=by unfold zde;rw[hcut,HB.out,if_pos rfl,hlt]
   have HF0:∀b,zeb (l2.drop (k+1))=b->zai s.data.toList=(0,{ scheme:=l2.take k,auth:=zcc (l2.drop (k+1)),path:=zcZ (l2.drop (k+1)),query:=qu,frag:=fr,hs:=true,ha:=b,hq:=bq,hf:=bf }):=fun b hb=>by
    rw[HE.out,hcut,hhier,hb];simp only;rw[hsb];rfl
   have HFH:=za HF0;have hE2:=zaZ (S l2) (k+1);rw[zak,zap] at hE2;have E2:=za hE2;have cc:w3.cell? ⟨w.heap.size+1,0,none⟩=some (.string (S l2)):=hC3.cell 0;have cf:w3.frozen? ⟨w.heap.size+1,0,none⟩=false:=hC3.frozen 0;have u0:w3.cell? ⟨w.heap.size+2,0,none⟩=some (.string (S [])):=hU3.cell 0;have u5:w3.cell? ⟨w.heap.size+2,5,none⟩=some (.bool false):=hU3.cell 5;have uf0:=hU3.frozen 0;have uf5:=hU3.frozen 5;have HU3:=za hU3;have HR3:=za hR3;have HC3:=za hC3;have q0:(0:Int)<=(k:Int):=by omega
   have q1:IntKind.i64.wrap ((k:Int)+1)=(k:Int)+1:=IntWalk.i64_in _ (by omega);have q2:(0:Int)<=(k:Int)+1:=by omega
   have q3:((k:Int)+1).toNat=k+1:=by omega
   have q4:(k:Int)+1<=(l2.length:Int):=by omega
   have q5:(k:Int)<=(l2.length:Int):=by omega
   clear i1 i3 hcut hkf hE1 hE2 hsb hU3 hR3 hC3 HF0 hhier hlt
   go_wp2_with fail
   rw[E1.out];refine(zeZ _ _ (by unfold maxLen;rw[zap,qi];omega)).mono ?_;rintro e w4 ⟨rfl,rfl⟩;rw[zak,HSB.out]
   go_wp2_with fail
   go_region
   rw[E1.out,E2.out];have hU5:Obk ((((w3.setCell ⟨w.heap.size+1+1,0,none⟩ (.string (S (l2.take k)))).setCell ⟨w.heap.size+1+1,5,none⟩ (.bool true)).setCell ⟨w.heap.size+1,0,none⟩ (.string (S (l2.drop (k+1))))).drew) (w.heap.size+2) 88 (zaT { zgb with frag:=fr,hf:=bf,query:=qu,hq:=bq,scheme:=l2.take k,hs:=true }):=(((HU3.out.put 0 _).put 5 _).st (w.heap.size+1) 0 _ (by omega)).drew;have hR5:Obk ((((w3.setCell ⟨w.heap.size+1+1,0,none⟩ (.string (S (l2.take k)))).setCell ⟨w.heap.size+1+1,5,none⟩ (.bool true)).setCell ⟨w.heap.size+1,0,none⟩ (.string (S (l2.drop (k+1))))).drew) w.heap.size 88 (zaT zgb):=(((HR3.out.st (w.heap.size+2) 0 _ (by omega)).st (w.heap.size+2) 5 _ (by omega)).st (w.heap.size+1) 0 _ (by omega)).drew;have hC5:Obk ((((w3.setCell ⟨w.heap.size+1+1,0,none⟩ (.string (S (l2.take k)))).setCell ⟨w.heap.size+1+1,5,none⟩ (.bool true)).setCell ⟨w.heap.size+1,0,none⟩ (.string (S (l2.drop (k+1))))).drew) (w.heap.size+1) 9 #[.string (S (l2.drop (k+1)))]:=(((HC3.out.st (w.heap.size+2) 0 _ (by omega)).st (w.heap.size+2) 5 _ (by omega)).put 0 _).drew;have hqx:Qb w ((((w3.setCell ⟨w.heap.size+1+1,0,none⟩ (.string (S (l2.take k)))).setCell ⟨w.heap.size+1+1,5,none⟩ (.bool true)).setCell ⟨w.heap.size+1,0,none⟩ (.string (S (l2.drop (k+1))))).drew):=(((hqw.st (w.heap.size+2) 0 _ (by omega)).st (w.heap.size+2) 5 _ (by omega)).st (w.heap.size+1) 0 _ (by omega)).drew;clear cc cf u0 u5 uf0 uf5 HU3 HR3 HC3 hqw q0 q1 q2 q3 q4 q5;generalize ((((w3.setCell ⟨w.heap.size+1+1,0,none⟩ (.string (S (l2.take k)))).setCell ⟨w.heap.size+1+1,5,none⟩ (.bool true)).setCell ⟨w.heap.size+1,0,none⟩ (.string (S (l2.drop (k+1))))).drew)=W5 at hU5 hR5 hC5 hqx ⊢;have hqw:=hqx;have hU:=hU5;have hR:=hR5;have hC:=hC5;have hln5:(l2.drop (k+1)).length<=16384:=by rw[zv];omega
   generalize l2.drop (k+1)=rr at *;clear hU5 hR5 hC5 hqx E1 E2 HI HSB;generalize l2.take k=sc at *;have cc:W5.cell? ⟨w.heap.size+1,0,none⟩=some (.string (S rr)):=hC.cell 0;rcases h2:zeb rr with _|_
   ·have HF:=za (HFH.out false h2);have hau:zcc rr=[]:=by unfold zcc;rw[h2];rfl
    have hpa:zcZ rr=rr:=by unfold zcZ;rw[h2];rfl
    rw[hau,hpa] at HF;have H2:=za h2;have u0:W5.cell? ⟨w.heap.size+2,0,none⟩=some (.string (S sc)):=hU.cell 0;have uf0:W5.frozen? ⟨w.heap.size+2,0,none⟩=false:=hU.frozen 0;have u1:W5.cell? ⟨w.heap.size+2,1,none⟩=some (.string (S [])):=hU.cell 1;have uf1:W5.frozen? ⟨w.heap.size+2,1,none⟩=false:=hU.frozen 1;have u2:W5.cell? ⟨w.heap.size+2,2,none⟩=some (.string (S [])):=hU.cell 2;have uf2:W5.frozen? ⟨w.heap.size+2,2,none⟩=false:=hU.frozen 2;have u3:W5.cell? ⟨w.heap.size+2,3,none⟩=some (.string (S qu)):=hU.cell 3;have uf3:W5.frozen? ⟨w.heap.size+2,3,none⟩=false:=hU.frozen 3;have u4:W5.cell? ⟨w.heap.size+2,4,none⟩=some (.string (S fr)):=hU.cell 4;have uf4:W5.frozen? ⟨w.heap.size+2,4,none⟩=false:=hU.frozen 4;have u5:W5.cell? ⟨w.heap.size+2,5,none⟩=some (.bool true):=hU.cell 5;have uf5:W5.frozen? ⟨w.heap.size+2,5,none⟩=false:=hU.frozen 5;have u6:W5.cell? ⟨w.heap.size+2,6,none⟩=some (.bool false):=hU.cell 6;have uf6:W5.frozen? ⟨w.heap.size+2,6,none⟩=false:=hU.frozen 6;have u7:W5.cell? ⟨w.heap.size+2,7,none⟩=some (.bool bq):=hU.cell 7;have uf7:W5.frozen? ⟨w.heap.size+2,7,none⟩=false:=hU.frozen 7;have u8:W5.cell? ⟨w.heap.size+2,8,none⟩=some (.bool bf):=hU.cell 8;have uf8:W5.frozen? ⟨w.heap.size+2,8,none⟩=false:=hU.frozen 8;have r0:W5.cell? ⟨w.heap.size,0,none⟩=some (.string (S [])):=hR.cell 0;have rf0:W5.frozen? ⟨w.heap.size,0,none⟩=false:=hR.frozen 0;have r1:W5.cell? ⟨w.heap.size,1,none⟩=some (.string (S [])):=hR.cell 1;have rf1:W5.frozen? ⟨w.heap.size,1,none⟩=false:=hR.frozen 1;have r2:W5.cell? ⟨w.heap.size,2,none⟩=some (.string (S [])):=hR.cell 2;have rf2:W5.frozen? ⟨w.heap.size,2,none⟩=false:=hR.frozen 2;have r3:W5.cell? ⟨w.heap.size,3,none⟩=some (.string (S [])):=hR.cell 3;have rf3:W5.frozen? ⟨w.heap.size,3,none⟩=false:=hR.frozen 3;have r4:W5.cell? ⟨w.heap.size,4,none⟩=some (.string (S [])):=hR.cell 4;have rf4:W5.frozen? ⟨w.heap.size,4,none⟩=false:=hR.frozen 4;have r5:W5.cell? ⟨w.heap.size,5,none⟩=some (.bool false):=hR.cell 5;have rf5:W5.frozen? ⟨w.heap.size,5,none⟩=false:=hR.frozen 5;have r6:W5.cell? ⟨w.heap.size,6,none⟩=some (.bool false):=hR.cell 6;have rf6:W5.frozen? ⟨w.heap.size,6,none⟩=false:=hR.frozen 6;have r7:W5.cell? ⟨w.heap.size,7,none⟩=some (.bool false):=hR.cell 7;have rf7:W5.frozen? ⟨w.heap.size,7,none⟩=false:=hR.frozen 7;have r8:W5.cell? ⟨w.heap.size,8,none⟩=some (.bool false):=hR.cell 8;have rf8:W5.frozen? ⟨w.heap.size,8,none⟩=false:=hR.frozen 8;have HU:=za hU;have HR:=za hR;clear h2 hau hpa hU hR
    go_wp2_with fail
    refine(Tryz.strings_CutPrefix _ _ _).mono ?_;rintro e w4 ⟨rfl,rfl⟩;rw[zak,show zm rr [47,47]=false from H2.out]
    go_wp2_with fail
    exact bodyPost_ret (v:=zjG (0,⟨sc,[],rr,qu,fr,true,false,bq,bf⟩)) (by simp[results,Tryz.results167,go_sem,zjG,uriA,zaT,r0,r1,r2,r3,r4,r5,r6,r7,r8,rf0,rf1,rf2,rf3,rf4,rf5,rf6,rf7,rf8]) rfl ⟨by rw[HF.out],((((((((((hqw.st (w.heap.size+2) 2 _ (by omega)).st w.heap.size 0 _ (by omega)).st w.heap.size 1 _ (by omega)).st w.heap.size 2 _ (by omega)).st w.heap.size 3 _ (by omega)).st w.heap.size 4 _ (by omega)).st w.heap.size 5 _ (by omega)).st w.heap.size 6 _ (by omega)).st w.heap.size 7 _ (by omega)).st w.heap.size 8 _ (by omega))⟩
   ·have hln:=zhQ h2;have htp:=za (zgk h2);have HF:=za (HFH.out true h2);have hau:zcc rr=zaF (rr.drop 2):=by unfold zcc;rw[h2];rfl
    have hpa:zcZ rr=(rr.drop 2).drop (zaF (rr.drop 2)).length:=by unfold zcZ;rw[h2,hau];rfl
    rw[hau,hpa] at HF;have hfp:=(zbL (rr.drop 2)).2;have hdl:(rr.drop 2).length<=16384:=by rw[zv];omega
    have H2:=za h2;have HX1:=zaZ (S (rr.drop 2)) (zaF (rr.drop 2)).length;rw[zap,zak] at HX1;have HX:=za HX1;clear h2 hau hpa HX1;generalize rr.drop 2=d at *;generalize hga:zaF d=a at *;have HA:=za hga;clear hga;have HU:=za hU;have HR:=za hR;have HC:=za hC;clear hU hR hC
    go_wp2_with fail
    refine(Tryz.strings_CutPrefix _ _ _).mono ?_;rintro e w4 ⟨rfl,rfl⟩;rw[zak,show zm rr [47,47]=true from H2.out,show Lib.trimPrefix rr [47,47]=d from htp.out]
    go_wp2_with fail
    refine(zca (S d) _ (by unfold maxLen;rw[zap];omega)).mono ?_;rintro e w5 ⟨rfl,hq5⟩;rw[zak,HA.out];have hU:=HU.out.qb hq5;have hR:=HR.out.qb hq5;have hC:=HC.out.qb hq5;have hqv:=hqw.trans hq5;have cc5:w5.cell? ⟨w.heap.size+1,0,none⟩=some (.string (S rr)):=hC.cell 0;have cf5:w5.frozen? ⟨w.heap.size+1,0,none⟩=false:=hC.frozen 0;have u0:w5.cell? ⟨w.heap.size+2,0,none⟩=some (.string (S sc)):=hU.cell 0;have uf0:w5.frozen? ⟨w.heap.size+2,0,none⟩=false:=hU.frozen 0;have u1:w5.cell? ⟨w.heap.size+2,1,none⟩=some (.string (S [])):=hU.cell 1;have uf1:w5.frozen? ⟨w.heap.size+2,1,none⟩=false:=hU.frozen 1;have u2:w5.cell? ⟨w.heap.size+2,2,none⟩=some (.string (S [])):=hU.cell 2;have uf2:w5.frozen? ⟨w.heap.size+2,2,none⟩=false:=hU.frozen 2;have u3:w5.cell? ⟨w.heap.size+2,3,none⟩=some (.string (S qu)):=hU.cell 3;have uf3:w5.frozen? ⟨w.heap.size+2,3,none⟩=false:=hU.frozen 3;have u4:w5.cell? ⟨w.heap.size+2,4,none⟩=some (.string (S fr)):=hU.cell 4;have uf4:w5.frozen? ⟨w.heap.size+2,4,none⟩=false:=hU.frozen 4;have u5:w5.cell? ⟨w.heap.size+2,5,none⟩=some (.bool true):=hU.cell 5;have uf5:w5.frozen? ⟨w.heap.size+2,5,none⟩=false:=hU.frozen 5;have u6:w5.cell? ⟨w.heap.size+2,6,none⟩=some (.bool false):=hU.cell 6;have uf6:w5.frozen? ⟨w.heap.size+2,6,none⟩=false:=hU.frozen 6;have u7:w5.cell? ⟨w.heap.size+2,7,none⟩=some (.bool bq):=hU.cell 7;have uf7:w5.frozen? ⟨w.heap.size+2,7,none⟩=false:=hU.frozen 7;have u8:w5.cell? ⟨w.heap.size+2,8,none⟩=some (.bool bf):=hU.cell 8;have uf8:w5.frozen? ⟨w.heap.size+2,8,none⟩=false:=hU.frozen 8;have r0:w5.cell? ⟨w.heap.size,0,none⟩=some (.string (S [])):=hR.cell 0;have rf0:w5.frozen? ⟨w.heap.size,0,none⟩=false:=hR.frozen 0;have r1:w5.cell? ⟨w.heap.size,1,none⟩=some (.string (S [])):=hR.cell 1;have rf1:w5.frozen? ⟨w.heap.size,1,none⟩=false:=hR.frozen 1;have r2:w5.cell? ⟨w.heap.size,2,none⟩=some (.string (S [])):=hR.cell 2;have rf2:w5.frozen? ⟨w.heap.size,2,none⟩=false:=hR.frozen 2;have r3:w5.cell? ⟨w.heap.size,3,none⟩=some (.string (S [])):=hR.cell 3;have rf3:w5.frozen? ⟨w.heap.size,3,none⟩=false:=hR.frozen 3;have r4:w5.cell? ⟨w.heap.size,4,none⟩=some (.string (S [])):=hR.cell 4;have rf4:w5.frozen? ⟨w.heap.size,4,none⟩=false:=hR.frozen 4;have r5:w5.cell? ⟨w.heap.size,5,none⟩=some (.bool false):=hR.cell 5;have rf5:w5.frozen? ⟨w.heap.size,5,none⟩=false:=hR.frozen 5;have r6:w5.cell? ⟨w.heap.size,6,none⟩=some (.bool false):=hR.cell 6;have rf6:w5.frozen? ⟨w.heap.size,6,none⟩=false:=hR.frozen 6;have r7:w5.cell? ⟨w.heap.size,7,none⟩=some (.bool false):=hR.cell 7;have rf7:w5.frozen? ⟨w.heap.size,7,none⟩=false:=hR.frozen 7;have r8:w5.cell? ⟨w.heap.size,8,none⟩=some (.bool false):=hR.cell 8;have rf8:w5.frozen? ⟨w.heap.size,8,none⟩=false:=hR.frozen 8;clear HU HR HC hU hR hC cc hq5;have e1:(S d).extract a.length d.length=S (d.drop a.length):=HX.out
    go_wp2_with fail
    exact bodyPost_ret (v:=zjG (0,⟨sc,a,(d.drop a.length),qu,fr,true,true,bq,bf⟩)) (by simp[results,Tryz.results167,go_sem,zjG,uriA,zaT,r0,r1,r2,r3,r4,r5,r6,r7,r8,rf0,rf1,rf2,rf3,rf4,rf5,rf6,rf7,rf8]) rfl ⟨by rw[HF.out],(((((((((((((hqv.st (w.heap.size+2) 1 _ (by omega)).st (w.heap.size+2) 6 _ (by omega)).st (w.heap.size+1) 0 _ (by omega)).st (w.heap.size+2) 2 _ (by omega)).st w.heap.size 0 _ (by omega)).st w.heap.size 1 _ (by omega)).st w.heap.size 2 _ (by omega)).st w.heap.size 3 _ (by omega)).st w.heap.size 4 _ (by omega)).st w.heap.size 5 _ (by omega)).st w.heap.size 6 _ (by omega)).st w.heap.size 7 _ (by omega)).st w.heap.size 8 _ (by omega))⟩
def zeW:List UInt8->List UInt8
 | []=>[]
 | x::t=>if x=47 then t else zeW t
def za7 (l:List UInt8):List UInt8:=(zeW l.reverse).reverse
theorem zfB (l:List UInt8) (x:UInt8):za7 (l++[x])=if x=47 then l else za7 l:=by
 unfold za7;rw[List.reverse_append,List.reverse_singleton,List.singleton_append,zeW]
 split
 ·simp
 ·rfl
theorem zdE (l:List UInt8):(za7 l).length<=l.length:=by
 have:∀m:List UInt8,(zeW m).length<=m.length:=by
  intro m
  induction m with
  | nil=>exact zd _
  | cons x t ih=>rw[zeW];split<;>simp<;>omega
 unfold za7;rw[List.length_reverse];have:=this l.reverse;rw[List.length_reverse] at this;exact this
def zg5 (l:List UInt8):Nat:=1+(zaF (l.drop 1)).length
def zaw (i o:List UInt8):List UInt8×List UInt8 :=
 if zm i [46,46,47]=true then (i.drop 3,o)
 else if zm i [46,47]=true then (i.drop 2,o)
 else if zm i [47,46,47]=true then (i.drop 2,o)
 else if i=[47,46] then ([47],o)
 else if zm i [47,46,46,47]=true then (i.drop 3,za7 o)
 else if i=[47,46,46] then ([47],za7 o)
 else if i=[46]\/i=[46,46] then ([],o)
 else (i.drop (zg5 i),o++i.take (zg5 i))
def zhz:Nat->List UInt8->List UInt8->List UInt8
 | 0,i,o=>o
 | n+1,i,o=>if i=[] then o else zhz n (zaw i o).1 (zaw i o).2
def zc8 (i o:List UInt8):List UInt8:=zhz i.length i o
def za8 (l:List UInt8):List UInt8:=zc8 l []
theorem zhd {s p:List UInt8} (h:zm s p=true):p.length<=s.length:=(List.isPrefixOf_iff_prefix.1 h).length_le
theorem zmE {l:List UInt8} (h:l≠[]):zg5 l<=l.length/\1<=zg5 l:=by
 have:=(zbL (l.drop 1)).2;rw[zv] at this;have h2:l.length≠0:=fun e=>h (jb e);unfold zg5;omega
theorem zba {i o:List UInt8} (h:i≠[]):(zaw i o).1.length<i.length:=by
 have h0:i.length≠0:=fun e=>h (jb e);have hs:=zmE h;unfold zaw
 split
 ·simp;omega
 ·split
  ·simp;omega
  ·split
   ·simp;omega
   ·split
    ·rename_i h4;rw[h4];simp
    ·split
     ·simp;omega
     ·split
      ·rename_i h6;rw[h6];simp
      ·split
       ·simp;omega
       ·simp;omega
theorem za0 {i o:List UInt8}:(zaw i o).2.length+(zaw i o).1.length<=o.length+i.length:=by
 have h1:=zdE o;unfold zaw
 split
 ·simp
 ·split
  ·simp
  ·split
   ·simp
   ·split
    ·rename_i h4;rw[h4];simp
    ·split
     ·simp;omega
     ·split
      ·rename_i h6;rw[h6];simp;omega
      ·split
       ·simp
       ·simp;omega
theorem zl5:∀(n:Nat) (i o:List UInt8),i.length<=n->zhz n i o=zhz i.length i o:=by
 intro n
 induction n using Nat.strongRecOn with
 | _ n ih=>
  intro i o hi;rcases i with _|⟨c,t⟩
  ·cases n with
   | zero=>rfl
   | succ n=>rfl
  ·cases n with
   | zero=>simp at hi
   | succ n=>
    have hl:=zba (i:=c::t) (o:=o) (by simp);simp only[ze] at hi hl ⊢;rw[zhz,zhz,if_neg (by simp),if_neg (by simp),ih n (by omega) _ _ (by omega)]
    by_cases e:t.length=n
    ·subst e;rw[ih t.length (by omega) _ _ (by omega)]
    ·rw[ih t.length (by omega) _ _ (by omega)]
theorem zer (o:List UInt8):zc8 [] o=o:=rfl
theorem zaW {i o:List UInt8} (h:i≠[]):zc8 i o=zc8 (zaw i o).1 (zaw i o).2:=by
 have hl:=zba (o:=o) h;unfold zc8;rcases i with _|⟨c,t⟩
 ·exact absurd rfl h
 ·simp only[ze] at hl;rw[ze,zhz,if_neg h,zl5 t.length _ _ (by omega)]
theorem zfx {w:World} {ops:Array Oper} {o:Oper} {a:Act} {K:Act->World->Prop} {Q:Exit->Act->World->Prop} {E:Prop} (hgd:o.guard=none) (sl x:Operand)
  (ho:o.op=.call { callee:=.builtin .append,args:=#[sl,x],argTypes:=#[22,9] })
  (B:Nat) (v:Value) (l:List UInt8) (hs:a.eval sl=v) (hrow:zbY w B v l) (s:ByteArray) (hx:a.eval x=.string s)
  (hlen:l.length+s.size<=140737488355328) (hB:B<=w.heap.size)
  (h:∀v' w',zbY w' B v' (l++s.data.toList)->Below B w w'->K (a.put o.dst v') w'):if Region.wanted o (yielded ops a.tmps)=true then Oper.wp Tryz.prog o a w K Q else E:=by
 have hw:Region.wanted o (yielded ops a.tmps)=true:=by simp[Region.wanted,hgd]
 rw[if_pos hw];obtain⟨i0,hi,hz0,hz1,hz2⟩:=info_parts zkF;obtain⟨v',w',hrun,h1,h2,_⟩:=Lib.run_append_own_string (P:=Tryz.prog) w B 22 9 o.type 5 i0 Tryz.underlying22 Tryz.underlying9 hi hz0 hz1 hz2 v l.length (bv l) hrow s (by simp only[maxLen];omega) hlen hB;unfold Oper.wp execOp;simp only[ho,resolve,invoke,builtin,Sem.run_bind,Sem.run_pure,Result.andThen_ok,List.map_toArray,List.map_cons,List.map_nil,hs,hx,hrun];exact h v' w' (zbY.appended h1 (by rw[ziW,zf6]) (by rw[List.length_append,zae])) (zdy hrow hB h2)
theorem zbY.form {w:World} {B:Nat} {v:Value} {l:List UInt8} (h:zbY w B v l) (hl:0<l.length):∃g cap,v=.slice (some ⟨g,0,none⟩) l.length cap/\B<=g/\g<w.heap.size/\l.length<=cap:=by
 rcases h.2 with ⟨rfl,hn⟩|⟨g,cap,cur,rfl,hb,hg,hnc,_⟩
 ·omega
 ·refine⟨g,cap,rfl,hb,?_,hnc⟩;rcases Nat.lt_or_ge g w.heap.size with h1|h1
  ·exact h1
  ·rw[Array.getElem?_eq_none h1] at hg;cases hg
theorem zbY.cap {w:World} {B g n cap:Nat} {l:List UInt8} (h:zbY w B (.slice (some ⟨g,0,none⟩) n cap) l):n=l.length/\n<=cap/\cap<=maxLen:=by
 rcases h.2 with ⟨e,_⟩|⟨g',cap',cur,e,hb,hg,hnc,hcm,_⟩
 ·simp at e
 ·simp only[Value.slice.injEq] at e;obtain⟨_,rfl,rfl⟩:=e;exact⟨rfl,hnc,hcm⟩
theorem zbY.pre {w:World} {B g n cap:Nat} {l:List UInt8} (h:zbY w B (.slice (some ⟨g,0,none⟩) n cap) l) (k:Nat) (hk:k<=l.length):zbY w B (.slice (some ⟨g,0,none⟩) k cap) (l.take k):=by
 rcases h.2 with ⟨e,_⟩|⟨g',cap',cur,e,hb,hg,hnc,hcm,hcs,ht⟩
 ·simp at e
 ·simp only[Value.slice.injEq] at e;obtain⟨hgg,rfl,rfl⟩:=e;obtain rfl:g=g':=by simpa using hgg
  have hlen:(l.take k).length=k:=by rw[qi];omega
  refine⟨by rw[zdx];simp,.inr ⟨g,cap,cur,by rw[hlen],hb,hg,by rw[hlen];omega,hcm,hcs,?_⟩⟩;rw[hlen];have:=congrArg (List.take k) ht;rw[Nat.mul_one] at this ⊢;rw[List.take_take,Nat.min_eq_left hk] at this;rw[this];simp[bv,List.map_take]
theorem zfA (l:List UInt8):za7 l=l.take (za7 l).length:=by
 have:∀(n:Nat) (l:List UInt8),l.length<=n->za7 l=l.take (za7 l).length:=by
  intro n
  induction n with
  | zero=>
   intro l hl;obtain rfl:l=[]:=jb (by omega)
   rfl
  | succ n ih=>
   intro l hl;rcases List.eq_nil_or_concat l with rfl|⟨t,x,rfl⟩
   ·rfl
   ·rw[List.concat_eq_append] at hl ⊢;rw[zfB]
    by_cases hx:x=47
    ·rw[if_pos hx];simp
    ·rw[if_neg hx];have h1:=ih t (by simp at hl;omega);have h2:=zdE t;rw[List.take_append_of_le_length h2];exact h1
 exact this _ l (zd _)
theorem zdi (g cap B:Nat) (l:List UInt8) (w:World) (hrow:zbY w B (.slice (some ⟨g,0,none⟩) l.length cap) l) (hl:l.length<=1000000) :
  Calls Tryz.prog 270 #[.slice (some ⟨g,0,none⟩) l.length cap] w fun e w'=>e=.returned (.slice (some ⟨g,0,none⟩) (za7 l).length cap)/\w=w':=by
 obtain⟨_,hc1,hc2⟩:=hrow.cap;unfold maxLen at hc2;have HR:=za hrow;clear hrow
 go_enter Tryz.func270,Tryz.ntmps270
 go_wp2_with fail
 go_loop [3] (fun i=>∃k:Nat,k<=l.length/\i=.int .i64 ((k:Int) - 1)/\Hid (za7 l=za7 (l.take k))) (fun i=>(intOf i+1).toNat)
 case atStart=>exact⟨l.length,zd _,rfl,za (by rw[List.take_length])⟩
 case round=>
  obtain⟨k,hk,rfl,HT⟩:=hrel;rcases k with _|k
  ·go_wp2_with fail
   go_ret
   exact⟨by rw[HT.out];rfl,rfl⟩
  ·have hlt:k<l.length:=by omega
   have hst:=zfB (l.take k) l[k];rw[<-List.take_succ_eq_append_getElem hlt] at hst;have hcell:=HR.out.cell k hlt;have e1:(((k+1:Nat):Int) - 1)=(k:Int):=by omega
   have hkl:(l.take k).length=k:=by rw[qi];omega
   generalize l[k]=x at *
   by_cases hc:x=47
   ·have hb:((x.toNat:Int)==47)=true:=by rw[hc];rfl
    have HN:Hid ((za7 l).length=k):=za (by rw[HT.out,hst,if_pos hc,hkl]);clear hst hc hkl;rw[e1];clear e1
    go_wp2_with fail
    go_ret
    exact⟨by rw[HN.out];rfl,rfl⟩
   ·have hb:((x.toNat:Int)==47)=false:=by
     rw[beq_eq_false_iff_ne];intro e;exact hc (UInt8.toNat_inj.1 (by show x.toNat=47;omega))
    have HN:Hid (za7 l=za7 (l.take k)):=za (by rw[HT.out,hst,if_neg hc]);clear hst hc hkl;rw[e1];clear e1
    go_wp2_with fail
    go_round
    case rel=>exact⟨k,by omega,rfl,HN⟩
    case measure=>simp[intOf]
theorem zaE {l m:List UInt8} (h:(l==m)=false):¬l=m:=by rw[beq_eq_false_iff_ne] at h;exact h
end Go.Proofs.YtomkbafdmbfmfaaGreatDoor
namespace Go.Proofs.YtomkbafdmbfmfaaGreatDoor
open Go.RowKit
open Lib renaming hasPrefix->zm, hid->za
attribute [local go_sem ↓] Go.wp_at_zero Go.wp_at_succ
set_option maxHeartbeats 8000000 in
theorem znp (s:ByteArray) (w:World) (hs:s.size<=1000000) :
  Calls Tryz.prog 227 #[.string s] w fun e w'=>e=.returned (.string (S (za8 s.data.toList)))/\Qb w w':=by
 have hmk:=fun W=>zie s.size (by omega) W
 go_enter Tryz.func227,Tryz.ntmps227
 go_wp2_with fail
 go_region
 go_wp2_with fail
 clear hmk
 go_loopw [3,4,5] (fun x y _ wr=>∃(i o:List UInt8) (g cap:Nat),o.length+i.length<=s.size/\x=.string (S i)/\y=.slice (some ⟨g,0,none⟩) o.length cap/\zbY wr w.heap.size (.slice (some ⟨g,0,none⟩) o.length cap) o/\Hid (za8 s.data.toList=zc8 i o)/\Qb w wr) (fun x _ _ _=>strLen x)
 case atStart=>exact⟨s.data.toList,[],w.heap.size,s.size,by rw[zae];simp,rfl,rfl,(zf8 w _ 0 _ (Nat.le_refl _) (Nat.zero_le _) (by omega)).drew,za rfl,((Qb.refl w).alloc _).drew⟩
 case round=>
  obtain⟨i,o,g,cap,hl,rfl,rfl,hrow,HD,hq⟩:=hrel;have hB:w.heap.size<=wr.heap.size:=hq.size;rcases i with _|⟨c,t⟩
  ·have hst:=zi3 hrow;clear hrow
   go_wp2_with fail
   go_ret
   exact⟨zjY (by rw[HD.out,zer]),hq⟩
  ·generalize hi:c::t=i at *;have hi0:i≠[]:=by rw[<-hi];simp
   have hne:i.isEmpty=false:=by rw[<-hi];rfl
   clear hi;have hml:(S i).size<=maxLen:=by unfold maxLen;rw[zap];omega
   have hil:i.length<=1000000:=by omega
   have hol:o.length<=1000000:=by omega
   rcases p1:zm i [46,46,47] with _|_
   ·rcases p2:zm i [46,47] with _|_
    ·rcases p3:zm i [47,46,47] with _|_
     ·rcases e4:(i==[47,46]) with _|_
      ·rcases p5:zm i [47,46,46,47] with _|_
       ·rcases e6:(i==[47,46,46]) with _|_
        ·rcases e7:(i==[46]) with _|_
         ·rcases e8:(i==[46,46]) with _|_
          ·have HS:Hid (zaw i o=(i.drop (zg5 i),o++i.take (zg5 i))):=za (by unfold zaw;rw[if_neg (by rw[p1];exact Bool.false_ne_true),if_neg (by rw[p2];exact Bool.false_ne_true),if_neg (by rw[p3];exact Bool.false_ne_true),if_neg (zaE e4),if_neg (by rw[p5];exact Bool.false_ne_true),if_neg (zaE e6),if_neg (fun h=>h.elim (zaE e7) (zaE e8))]);have hlt:=zba (o:=o) hi0;have hout:=za0 (i:=i) (o:=o);rw[HS.out] at hlt hout;simp only at hlt hout;have HN:Hid (za8 s.data.toList=zc8 (i.drop (zg5 i)) (o++i.take (zg5 i))):=za (by rw[HD.out,zaW hi0,HS.out]);have hseg:=zmE hi0;have hx1:=zaZ (S i) 1;rw[zap,zak] at hx1;have HX1:=za hx1;have hx2:=zaZ (S i) (zg5 i);rw[zap,zak] at hx2;have hx3:=zd5 (S i) (zg5 i);rw[zak] at hx3;have HXS:=za hx2;have HXP:=za hx3;have hdl:(i.drop 1).length<=1000000:=by rw[List.length_drop];omega
           have hsg:(1:Int)+((zaF (i.drop 1)).length:Int)=(zg5 i:Int):=by unfold zg5;omega
           have HSG:=za hsg;clear hx1 hx2 hx3 hsg;have Hp1:=za p1;have Hp2:=za p2;have Hp3:=za p3;have Hp5:=za p5;clear p1 p2 p3 p5
           go_wp2_with fail
           refine(Tryz.strings_HasPrefix _ _ _).mono ?_;rintro e w1 ⟨rfl,rfl⟩;rw[zak,show zm i ({ data:=#[46,46,47] }:ByteArray).data.toList=false from Hp1.out]
           go_wp2_with fail
           refine(Tryz.strings_HasPrefix _ _ _).mono ?_;rintro e w1 ⟨rfl,rfl⟩;rw[zak,show zm i ({ data:=#[46,47] }:ByteArray).data.toList=false from Hp2.out]
           go_wp2_with fail
           refine(Tryz.strings_HasPrefix _ _ _).mono ?_;rintro e w1 ⟨rfl,rfl⟩;rw[zak,show zm i ({ data:=#[47,46,47] }:ByteArray).data.toList=false from Hp3.out]
           go_wp2_with fail
           refine(Tryz.strings_HasPrefix _ _ _).mono ?_;rintro e w1 ⟨rfl,rfl⟩;rw[zak,show zm i ({ data:=#[47,46,46,47] }:ByteArray).data.toList=false from Hp5.out]
           go_wp2_with fail
           rw[HX1.out];refine(zca _ _ (by unfold maxLen;rw[zap];omega)).mono ?_;rintro e w1 ⟨rfl,hq1⟩;rw[zak];have hrow1:=hrow.below hq1;have hB1:w.heap.size<=w1.heap.size:=Nat.le_trans hB hq1.size;have hfl:=(zbL (i.drop 1)).2;generalize hfa:zaF (i.drop 1)=fa at *;have HFA:=za hfa;clear hfa;have q0:(1:Int)+(fa.length:Int)=(zg5 i:Int):=HSG.out;generalize hsn:zg5 i=sg at *;clear hsn;have q1:(0:Int)<=(sg:Int):=by omega
           have q2:(sg:Int)<=(i.length:Int):=by omega
           have q3:(i.take sg).length<=sg:=List.length_take_le _ _
           go_wp2_with fail
           go_region_held_law (fun w'=>True) (first|trivial|go_keep) ((refine zfx (o:=⟨some 24,_,_,_,_,_⟩) (by rfl) (.tmp 20) (.tmp 23) (by rfl) w.heap.size _ o (by rfl) (zbY.drew hrow1) _ (by rfl) (by rw[HXP.out,zap];omega) (by simp;omega) ?_;intro v1 w2 hr1 hb1))
           rw[HXP.out,zak] at hr1;obtain⟨oo,hoo⟩:∃oo,oo=o++i.take sg:=⟨_,rfl⟩;rw[<-hoo] at hr1;have HN2:Hid (za8 s.data.toList=zc8 (i.drop sg) oo):=za (by rw[hoo];exact HN.out);have hoo1:oo.length+(i.drop sg).length<=s.size:=by rw[hoo];omega
           have hoo2:0<oo.length:=by rw[hoo,List.length_append,List.length_take];omega
           clear hoo HN hout;obtain⟨g1,cap1,rfl,_⟩:=hr1.form hoo2
           go_wp2_with fail
           go_roundw
           case rel=>exact⟨_,_,_,_,hoo1,congrArg Value.string HXS.out,rfl,hr1,HN2,Below.trans ((hq.trans hq1).drew) hb1⟩
           case measure=>rw[HXS.out,zao,zao,zap,zap];exact hlt
          ·have HS:Hid (zaw i o=([],o)):=za (by unfold zaw;rw[if_neg (by rw[p1];exact Bool.false_ne_true),if_neg (by rw[p2];exact Bool.false_ne_true),if_neg (by rw[p3];exact Bool.false_ne_true),if_neg (zaE e4),if_neg (by rw[p5];exact Bool.false_ne_true),if_neg (zaE e6),if_pos (.inr (eq_of_beq e8))]);have hlt:=zba (o:=o) hi0;have hout:=za0 (i:=i) (o:=o);rw[HS.out] at hlt hout;simp only at hlt hout;have HN:Hid (za8 s.data.toList=zc8 ([]) (o)):=za (by rw[HD.out,zaW hi0,HS.out]);have Hp1:=za p1;have Hp2:=za p2;have Hp3:=za p3;have Hp5:=za p5;clear p1 p2 p3 p5
           go_wp2_with fail
           refine(Tryz.strings_HasPrefix _ _ _).mono ?_;rintro e w1 ⟨rfl,rfl⟩;rw[zak,show zm i ({ data:=#[46,46,47] }:ByteArray).data.toList=false from Hp1.out]
           go_wp2_with fail
           refine(Tryz.strings_HasPrefix _ _ _).mono ?_;rintro e w1 ⟨rfl,rfl⟩;rw[zak,show zm i ({ data:=#[46,47] }:ByteArray).data.toList=false from Hp2.out]
           go_wp2_with fail
           refine(Tryz.strings_HasPrefix _ _ _).mono ?_;rintro e w1 ⟨rfl,rfl⟩;rw[zak,show zm i ({ data:=#[47,46,47] }:ByteArray).data.toList=false from Hp3.out]
           go_wp2_with fail
           refine(Tryz.strings_HasPrefix _ _ _).mono ?_;rintro e w1 ⟨rfl,rfl⟩;rw[zak,show zm i ({ data:=#[47,46,46,47] }:ByteArray).data.toList=false from Hp5.out]
           go_wp2_with fail
           go_roundw
           case rel=>exact⟨_,_,_,_,by omega,rfl,rfl,hrow,HN,hq⟩
           case measure=>rw[zao,zao,zap];exact hlt
         ·have HS:Hid (zaw i o=([],o)):=za (by unfold zaw;rw[if_neg (by rw[p1];exact Bool.false_ne_true),if_neg (by rw[p2];exact Bool.false_ne_true),if_neg (by rw[p3];exact Bool.false_ne_true),if_neg (zaE e4),if_neg (by rw[p5];exact Bool.false_ne_true),if_neg (zaE e6),if_pos (.inl (eq_of_beq e7))]);have hlt:=zba (o:=o) hi0;have hout:=za0 (i:=i) (o:=o);rw[HS.out] at hlt hout;simp only at hlt hout;have HN:Hid (za8 s.data.toList=zc8 ([]) (o)):=za (by rw[HD.out,zaW hi0,HS.out]);have Hp1:=za p1;have Hp2:=za p2;have Hp3:=za p3;have Hp5:=za p5;clear p1 p2 p3 p5
          go_wp2_with fail
          refine(Tryz.strings_HasPrefix _ _ _).mono ?_;rintro e w1 ⟨rfl,rfl⟩;rw[zak,show zm i ({ data:=#[46,46,47] }:ByteArray).data.toList=false from Hp1.out]
          go_wp2_with fail
          refine(Tryz.strings_HasPrefix _ _ _).mono ?_;rintro e w1 ⟨rfl,rfl⟩;rw[zak,show zm i ({ data:=#[46,47] }:ByteArray).data.toList=false from Hp2.out]
          go_wp2_with fail
          refine(Tryz.strings_HasPrefix _ _ _).mono ?_;rintro e w1 ⟨rfl,rfl⟩;rw[zak,show zm i ({ data:=#[47,46,47] }:ByteArray).data.toList=false from Hp3.out]
          go_wp2_with fail
          refine(Tryz.strings_HasPrefix _ _ _).mono ?_;rintro e w1 ⟨rfl,rfl⟩;rw[zak,show zm i ({ data:=#[47,46,46,47] }:ByteArray).data.toList=false from Hp5.out]
          go_wp2_with fail
          go_roundw
          case rel=>exact⟨_,_,_,_,by omega,rfl,rfl,hrow,HN,hq⟩
          case measure=>rw[zao,zao,zap];exact hlt
        ·have HS:Hid (zaw i o=([47],za7 o)):=za (by unfold zaw;rw[if_neg (by rw[p1];exact Bool.false_ne_true),if_neg (by rw[p2];exact Bool.false_ne_true),if_neg (by rw[p3];exact Bool.false_ne_true),if_neg (zaE e4),if_neg (by rw[p5];exact Bool.false_ne_true),if_pos (eq_of_beq e6)]);have hlt:=zba (o:=o) hi0;have hout:=za0 (i:=i) (o:=o);rw[HS.out] at hlt hout;simp only at hlt hout;have HN:Hid (za8 s.data.toList=zc8 ([47]) (za7 o)):=za (by rw[HD.out,zaW hi0,HS.out]);have Hp1:=za p1;have Hp2:=za p2;have Hp3:=za p3;have Hp5:=za p5;clear p1 p2 p3 p5
         go_wp2_with fail
         refine(Tryz.strings_HasPrefix _ _ _).mono ?_;rintro e w1 ⟨rfl,rfl⟩;rw[zak,show zm i ({ data:=#[46,46,47] }:ByteArray).data.toList=false from Hp1.out]
         go_wp2_with fail
         refine(Tryz.strings_HasPrefix _ _ _).mono ?_;rintro e w1 ⟨rfl,rfl⟩;rw[zak,show zm i ({ data:=#[46,47] }:ByteArray).data.toList=false from Hp2.out]
         go_wp2_with fail
         refine(Tryz.strings_HasPrefix _ _ _).mono ?_;rintro e w1 ⟨rfl,rfl⟩;rw[zak,show zm i ({ data:=#[47,46,47] }:ByteArray).data.toList=false from Hp3.out]
         go_wp2_with fail
         refine(Tryz.strings_HasPrefix _ _ _).mono ?_;rintro e w1 ⟨rfl,rfl⟩;rw[zak,show zm i ({ data:=#[47,46,46,47] }:ByteArray).data.toList=false from Hp5.out];have hrow1:=hrow.pre (za7 o).length (zdE o);rw[<-zfA] at hrow1
         go_wp2_with fail
         refine(zdi g cap _ o _ hrow (by omega)).mono ?_;rintro e w1 ⟨rfl,rfl⟩
         go_wp2_with fail
         go_roundw
         case rel=>exact⟨_,_,_,_,by omega,rfl,rfl,hrow1,HN,hq⟩
         case measure=>rw[zao,zao,zap];exact hlt
       ·have HS:Hid (zaw i o=(i.drop 3,za7 o)):=za (by unfold zaw;rw[if_neg (by rw[p1];exact Bool.false_ne_true),if_neg (by rw[p2];exact Bool.false_ne_true),if_neg (by rw[p3];exact Bool.false_ne_true),if_neg (zaE e4),if_pos p5]);have hlt:=zba (o:=o) hi0;have hout:=za0 (i:=i) (o:=o);rw[HS.out] at hlt hout;simp only at hlt hout;have HN:Hid (za8 s.data.toList=zc8 (i.drop 3) (za7 o)):=za (by rw[HD.out,zaW hi0,HS.out]);have hp3:3<=i.length:=by have:=zhd p5;simp at this;omega
        have hx:=zaZ (S i) 3;rw[zap,zak] at hx;have HX:=za hx;clear hx;have Hp1:=za p1;have Hp2:=za p2;have Hp3:=za p3;have Hp5:=za p5;clear p1 p2 p3 p5
        go_wp2_with fail
        refine(Tryz.strings_HasPrefix _ _ _).mono ?_;rintro e w1 ⟨rfl,rfl⟩;rw[zak,show zm i ({ data:=#[46,46,47] }:ByteArray).data.toList=false from Hp1.out]
        go_wp2_with fail
        refine(Tryz.strings_HasPrefix _ _ _).mono ?_;rintro e w1 ⟨rfl,rfl⟩;rw[zak,show zm i ({ data:=#[46,47] }:ByteArray).data.toList=false from Hp2.out]
        go_wp2_with fail
        refine(Tryz.strings_HasPrefix _ _ _).mono ?_;rintro e w1 ⟨rfl,rfl⟩;rw[zak,show zm i ({ data:=#[47,46,47] }:ByteArray).data.toList=false from Hp3.out]
        go_wp2_with fail
        refine(Tryz.strings_HasPrefix _ _ _).mono ?_;rintro e w1 ⟨rfl,rfl⟩;rw[zak,show zm i ({ data:=#[47,46,46,47] }:ByteArray).data.toList=true from Hp5.out];have hrow1:=hrow.pre (za7 o).length (zdE o);rw[<-zfA] at hrow1
        go_wp2_with fail
        go_quiet ((go_at_call 270;exact zeG (zdi g cap _ o _ (hrow.drewN _) (by omega))))
        go_wp2_with fail
        go_roundw
        case rel=>exact⟨_,_,_,_,by omega,congrArg Value.string HX.out,rfl,hrow1.drewN _,HN,hq.drewN _⟩
        case measure=>rw[HX.out,zao,zao,zap,zap];exact hlt
      ·have HS:Hid (zaw i o=([47],o)):=za (by unfold zaw;rw[if_neg (by rw[p1];exact Bool.false_ne_true),if_neg (by rw[p2];exact Bool.false_ne_true),if_neg (by rw[p3];exact Bool.false_ne_true),if_pos (eq_of_beq e4)]);have hlt:=zba (o:=o) hi0;have hout:=za0 (i:=i) (o:=o);rw[HS.out] at hlt hout;simp only at hlt hout;have HN:Hid (za8 s.data.toList=zc8 ([47]) (o)):=za (by rw[HD.out,zaW hi0,HS.out]);have Hp1:=za p1;have Hp2:=za p2;have Hp3:=za p3;clear p1 p2 p3
       go_wp2_with fail
       refine(Tryz.strings_HasPrefix _ _ _).mono ?_;rintro e w1 ⟨rfl,rfl⟩;rw[zak,show zm i ({ data:=#[46,46,47] }:ByteArray).data.toList=false from Hp1.out]
       go_wp2_with fail
       refine(Tryz.strings_HasPrefix _ _ _).mono ?_;rintro e w1 ⟨rfl,rfl⟩;rw[zak,show zm i ({ data:=#[46,47] }:ByteArray).data.toList=false from Hp2.out]
       go_wp2_with fail
       refine(Tryz.strings_HasPrefix _ _ _).mono ?_;rintro e w1 ⟨rfl,rfl⟩;rw[zak,show zm i ({ data:=#[47,46,47] }:ByteArray).data.toList=false from Hp3.out]
       go_wp2_with fail
       go_roundw
       case rel=>exact⟨_,_,_,_,by omega,rfl,rfl,hrow,HN,hq⟩
       case measure=>rw[zao,zao,zap];exact hlt
     ·have HS:Hid (zaw i o=(i.drop 2,o)):=za (by unfold zaw;rw[if_neg (by rw[p1];exact Bool.false_ne_true),if_neg (by rw[p2];exact Bool.false_ne_true),if_pos p3]);have hlt:=zba (o:=o) hi0;have hout:=za0 (i:=i) (o:=o);rw[HS.out] at hlt hout;simp only at hlt hout;have HN:Hid (za8 s.data.toList=zc8 (i.drop 2) (o)):=za (by rw[HD.out,zaW hi0,HS.out]);have hp2:2<=i.length:=by have:=zhd p3;simp at this;omega
      have hx:=zaZ (S i) 2;rw[zap,zak] at hx;have HX:=za hx;clear hx;have Hp1:=za p1;have Hp2:=za p2;have Hp3:=za p3;clear p1 p2 p3
      go_wp2_with fail
      refine(Tryz.strings_HasPrefix _ _ _).mono ?_;rintro e w1 ⟨rfl,rfl⟩;rw[zak,show zm i ({ data:=#[46,46,47] }:ByteArray).data.toList=false from Hp1.out]
      go_wp2_with fail
      refine(Tryz.strings_HasPrefix _ _ _).mono ?_;rintro e w1 ⟨rfl,rfl⟩;rw[zak,show zm i ({ data:=#[46,47] }:ByteArray).data.toList=false from Hp2.out]
      go_wp2_with fail
      refine(Tryz.strings_HasPrefix _ _ _).mono ?_;rintro e w1 ⟨rfl,rfl⟩;rw[zak,show zm i ({ data:=#[47,46,47] }:ByteArray).data.toList=true from Hp3.out]
      go_wp2_with fail
      go_roundw
      case rel=>exact⟨_,_,_,_,by omega,congrArg Value.string HX.out,rfl,hrow,HN,hq⟩
      case measure=>rw[HX.out,zao,zao,zap,zap];exact hlt
    ·have HS:Hid (zaw i o=(i.drop 2,o)):=za (by unfold zaw;rw[if_neg (by rw[p1];exact Bool.false_ne_true),if_pos p2]);have hlt:=zba (o:=o) hi0;have hout:=za0 (i:=i) (o:=o);rw[HS.out] at hlt hout;simp only at hlt hout;have HN:Hid (za8 s.data.toList=zc8 (i.drop 2) (o)):=za (by rw[HD.out,zaW hi0,HS.out]);have hp2:2<=i.length:=by have:=zhd p2;simp at this;omega
     have hx:=zaZ (S i) 2;rw[zap,zak] at hx;have HX:=za hx;clear hx;have Hp1:=za p1;have Hp2:=za p2;clear p1 p2
     go_wp2_with fail
     refine(Tryz.strings_HasPrefix _ _ _).mono ?_;rintro e w1 ⟨rfl,rfl⟩;rw[zak,show zm i ({ data:=#[46,46,47] }:ByteArray).data.toList=false from Hp1.out]
     go_wp2_with fail
     refine(Tryz.strings_HasPrefix _ _ _).mono ?_;rintro e w1 ⟨rfl,rfl⟩;rw[zak,show zm i ({ data:=#[46,47] }:ByteArray).data.toList=true from Hp2.out]
     go_wp2_with fail
     go_roundw
     case rel=>exact⟨_,_,_,_,by omega,congrArg Value.string HX.out,rfl,hrow,HN,hq⟩
     case measure=>rw[HX.out,zao,zao,zap,zap];exact hlt
   ·have HS:Hid (zaw i o=(i.drop 3,o)):=za (by unfold zaw;rw[if_pos p1]);have hlt:=zba (o:=o) hi0;have hout:=za0 (i:=i) (o:=o);rw[HS.out] at hlt hout;simp only at hlt hout;have HN:Hid (za8 s.data.toList=zc8 (i.drop 3) (o)):=za (by rw[HD.out,zaW hi0,HS.out]);have hp3:3<=i.length:=by have:=zhd p1;simp at this;omega
    have hx:=zaZ (S i) 3;rw[zap,zak] at hx;have HX:=za hx;clear hx;have Hp1:=za p1;clear p1
    go_wp2_with fail
    refine(Tryz.strings_HasPrefix _ _ _).mono ?_;rintro e w1 ⟨rfl,rfl⟩;rw[zak,show zm i ({ data:=#[46,46,47] }:ByteArray).data.toList=true from Hp1.out]
    go_wp2_with fail
    go_roundw
    case rel=>exact⟨_,_,_,_,by omega,congrArg Value.string HX.out,rfl,hrow,HN,hq⟩
    case measure=>rw[HX.out,zao,zao,zap,zap];exact hlt
end Go.Proofs.YtomkbafdmbfmfaaGreatDoor
namespace Go.Proofs.YtomkbafdmbfmfaaGreatDoor
open Go.RowKit Sx
open List renaming getElem?_map->jc
def zbh (u:UriP):AV:=.agg [.s u.scheme,.s u.auth,.s u.path,.s u.query,.s u.frag,.b u.hs,.b u.ha,.b u.hq,.b u.hf]
theorem zjJ (G:Gh) (I:Imm):∀(xs:List (List UInt8)) (ys:List Value),zac G I (xs.map .s) ys->ys=xs.map fun l=>.string ⟨l.toArray⟩
 | [],ys,h=>by simpa[zac] using h
 | x::xs,ys,h=>by
  simp only[List.map_cons,zac,Den] at h;obtain⟨y,ys',rfl,rfl,h2⟩:=h;rw[zjJ G I xs ys' h2];rfl
theorem zil (xs:List (List UInt8)):Lib.join xs []=xs.flatten:=by
 unfold Lib.join
 induction xs with
 | nil=>rfl
 | cons x xs ih=>
  cases xs with
  | nil=>simp[List.intercalate]
  | cons y ys=>
   rw[show List.intercalate ([]:List UInt8) (x::y::ys)=x++List.intercalate [] (y::ys) by simp[List.intercalate,List.intersperse],ih]
   rfl
section
variable [Tabs Tryz.prog] {objs:List OB} {K:List OB->AV->Prop}
theorem zgZ (s:List UInt8) (hk:K objs (.tup [zbh (zai s).2,.i .i64 (zai s).1])):zaa Tryz.prog 167 [.s s] objs K:=by
 refine conv (vs:=[.string (S s)]) rfl rfl (fun w=>?_) hk;rcases Nat.lt_or_ge 16384 s.length with h|h
 ·exact zme (S s) w (by rw[zap];exact h)
 ·exact zjz (S s) w (by rw[zap];exact h)
theorem zft (s:List UInt8) (hs:s.length<=1000000) (hk:K objs (.s (za8 s))):zaa Tryz.prog 227 [.s s] objs K :=
 conv (vs:=[.string (S s)]) rfl rfl (fun w=>znp (S s) w (by rw[zap];exact hs)) hk
theorem zii (s:List UInt8) (c:Int) (hs:s.length<4611686018427387904) (hk:K objs (.i .i64 (Lib.lastIndexByte (S s) c))):zaa Tryz.prog 299 [.s s,.i .u8 c] objs K :=
 conv (vs:=[.string (S s),.int .u8 c]) rfl rfl (fun w=>(Tryz.strings_LastIndexByte (S s) c (by rw[zap];exact hs) w).mono fun e w' ⟨h1,h2⟩=>⟨h1,Qb.rev h2⟩) hk
theorem zmH (xs:List (List UInt8)) (sep:List UInt8) (hN:xs.length<=140737488355328) (hl:(Lib.join xs sep).length<=140737488355328) (hk:K objs (.s (Lib.join xs sep))):zaa Tryz.prog 187 [.row xs.length (xs.map .s),.s sep] objs K:=by
 refine zf3 (.s (Lib.join xs sep)) hk fun G I w ys hm hd=>?_;simp only[zac,Den] at hd;obtain⟨y,ys',rfl,⟨a,c,zs,rfl,⟨hc,_⟩,hz,_,hi⟩,y2,ys2,rfl,rfl,rfl⟩:=hd;have hz:=zjJ G I xs zs hz;subst hz;refine⟨_,?_,rfl⟩
 cases xs with
 | nil=>
  refine(Tryz.strings_Join_none a c (S sep) w).mono ?_;rintro e w' ⟨rfl,rfl⟩;exact⟨by rw[show Lib.join [] sep=[] from rfl],Qb.refl _⟩
 | cons x xs=>
  obtain⟨g,off,rfl,h0⟩:=hi 0 _ rfl;have hcell:∀(j:Nat) z,((x::xs).map (fun l:List UInt8=>(⟨l.toArray⟩:ByteArray)))[j]? = some z->w.cell? ⟨g,off+j,none⟩=some (.string z):=by
   intro j z hj;rw[jc] at hj;obtain⟨l,hl,rfl⟩:=Option.map_eq_some_iff.1 hj;obtain⟨g',off',e,h1⟩:=hi j _ (by rw[jc,hl];rfl)
   cases e
   exact hm.imm _ _ _ h1
  have e1:((x::xs).map (fun l:List UInt8=>(⟨l.toArray⟩:ByteArray))).map (·.data.toList)=x::xs:=by
   rw[List.map_map];simp[Function.comp_def]
  have:=Tryz.strings_Join g off c ((x::xs).map fun l=>⟨l.toArray⟩) (S sep) w hcell (World.block_lt_of_cell? (h:=hcell 0 _ rfl)) (by simpa using hN) (by simpa using hc) (by rw[e1,zak];exact hl);rw[e1,zak,List.length_map] at this;exact this
end
theorem zfS (x:UInt8) (t set:List UInt8):zfh (x::t) set=if zc4 x set=true then 0 else zfh t set+1:=by
 unfold zfh;rw[List.findIdx_cons]
 cases zc4 x set<;>rfl
theorem zl0 (x:UInt8) (t:List UInt8):zaF (x::t)=if x=47 then [] else x::zaF t:=by
 unfold zaF;rw[zcr]
 split<;>rfl
theorem zmF:∀l:List UInt8,(∀h:zfh l [58,47]<l.length,l[zfh l [58,47]]=58->(zaB 58 (zaF l)).1=l.take (zfh l [58,47])/\(zaB 58 (zaF l)).1.length=zfh l [58,47]/\(zaB 58 (zaF l)).2.2=true) /\
  ((∀h:zfh l [58,47]<l.length,l[zfh l [58,47]]≠58)->(zaB 58 (zaF l)).2.2=false)
 | []=>⟨fun h=>absurd h (by simp),fun _=>rfl⟩
 | x::t=>by
  have ih:=zmF t;rw[zl0]
  by_cases h47:x=47
  ·subst h47;have e:zfh (47::t) [58,47]=0:=by rw[zfS,if_pos (by decide)]
   rw[if_pos rfl];refine⟨fun h he=>?_,fun _=>rfl⟩;simp only[e] at he;exact absurd he (by simp)
  ·rw[if_neg h47,zcr]
   by_cases h58:x=58
   ·subst h58;have e:zfh (58::t) [58,47]=0:=by rw[zfS,if_pos (by decide)]
    rw[if_pos rfl];refine⟨fun h he=>by simp[e],fun h=>?_⟩;exact absurd (by simp[e]) (h (by simp[e]))
   ·have e:zfh (x::t) [58,47]=zfh t [58,47]+1:=by rw[zfS,if_neg (by simp[zc4,h47,h58])]
    rw[if_neg h58];simp only[e];refine⟨fun h he=>?_,fun h=>?_⟩
    ·obtain⟨h1,h2,h3⟩:=ih.1 (by simp at h;omega) (by simpa using he);exact⟨by simp[h1],by simp[h2],h3⟩
    ·exact ih.2 (fun h'=>by have:=h (by simp;omega);simpa using this)
section
variable [Tabs Tryz.prog] {objs:List OB} {K:List OB->AV->Prop}
end
end Go.Proofs.YtomkbafdmbfmfaaGreatDoor
namespace Go.Proofs.YtomkbafdmbfmfaaGreatDoor
open Lib renaming hid->za
open Nat renaming le_refl->zd
def lbB (c:UInt8):Bool:=zbx c||zaf c||(c.toNat==45)
def hyB (c:UInt8):Bool:=c.toNat==45
def zco (l:List UInt8):Bool:=!l.isEmpty&&decide (l.length<=63)&&!((l.head?.map hyB).getD false)&&!((l.getLast?.map hyB).getD false)&&l.all lbB
def zc0 (l:List UInt8):Bool:=(zbj 46 l).all zco&&!zb2 ((zbj 46 l).getLastD [])
def zdX (l:List UInt8):Bool:=decide ((zaH 255 l).1=0)
def ziL (n:Nat) (l:List UInt8):Bool:=decide ((zbj 46 l).length=n)&&(zbj 46 l).all zdX
def zd4 (l:List UInt8):Bool:=ziL 4 l
def zbH (l:List UInt8):Int×List UInt8:=if l=[] then (3,[]) else if 253<l.length then (5,[]) else if (zc0 l||zd4 l)=true then (0,zbm l) else (50,[])
def zel (l:List UInt8):Int×Nat:=if (zaH 65535 l).1=0/\(zaH 65535 l).2≠0 then (0,(zaH 65535 l).2) else (51,0)
def portV (r:Int×Nat):Value:=.tuple #[.int .i64 r.2,.int .i64 r.1]
theorem znN (s:ByteArray) (h:0<s.size):zco s.data.toList=(decide (s.size<=63)&&!hyB s[0]&&!hyB s[s.size - 1]&&s.data.toList.all lbB):=by
 have e:=zaQ s 0 h;rw[List.drop_zero] at e;have e1:s.data.toList.isEmpty=false:=by rw[e];rfl
 have e2:s.data.toList.head? = some s[0]:=by rw[e];rfl
 have e3:s.data.toList.getLast? = some s[s.size - 1]:=by
  rw[List.getLast?_eq_getElem?,zae,List.getElem?_eq_getElem (by rw[zae];omega)];rfl
 unfold zco;rw[e1,e2,e3,zae];simp only[Option.map_some,Option.getD_some]
 rfl
theorem zgz {l:List UInt8} (h:(zaB 46 l).2.2=true):zc0 l=(zco (zaB 46 l).1&&zc0 (zaB 46 l).2.1):=by
 unfold zc0;rw[zcd 46 l,if_pos h];obtain⟨p,ps,e⟩:=zcL 46 (zaB 46 l).2.1;rw[e,List.all_cons,Bool.and_assoc]
 rfl
theorem zgA {l:List UInt8} (h:(zaB 46 l).2.2=false):zc0 l=(zco l&&!zb2 l):=by
 unfold zc0;rw[zcd 46 l,if_neg (by rw[h];exact Bool.false_ne_true)];simp[List.getLastD]
theorem zin {l:List UInt8} {n:Nat} (h:(zaB 46 l).2.2=true):ziL (n+1) l=(zdX (zaB 46 l).1&&ziL n (zaB 46 l).2.1):=by
 unfold ziL;rw[zcd 46 l,if_pos h,List.length_cons,List.all_cons];have:decide ((zbj 46 (zaB 46 l).2.1).length+1=n+1)=decide ((zbj 46 (zaB 46 l).2.1).length=n):=decide_eq_decide.2 (by omega);rw[this];rcases zdX (zaB 46 l).1<;>simp
theorem ipvN_one {l:List UInt8} (h:(zaB 46 l).2.2=false):ziL 1 l=zdX l:=by
 unfold ziL;rw[zcd 46 l,if_neg (by rw[h];exact Bool.false_ne_true)];simp
theorem zoj {l:List UInt8} {n:Nat} (h:(zaB 46 l).2.2=false):ziL (n+2) l=false:=by
 unfold ziL;rw[zcd 46 l,if_neg (by rw[h];exact Bool.false_ne_true)];simp
theorem zok {l:List UInt8} (h:(zaB 46 l).2.2=true):ziL 1 l=false:=by
 rw[zin h];have:ziL 0 (zaB 46 l).2.1=false:=by
  unfold ziL;have:=zly 46 (zaB 46 l).2.1;rw[decide_eq_false (by omega)];rfl
 rw[this,Bool.and_false]
theorem zlP {l:List UInt8} (h:zco l=true):1<=l.length:=by
 rcases l with _|⟨c,t⟩
 ·cases h
 ·simp
open Go.RowKit
theorem hyT {c:UInt8} (h:hyB c=true):((c.toNat:Int)==45)=true:=by
 have:c.toNat=45:=by simpa[hyB] using h
 rw[this];rfl
theorem hyF {c:UInt8} (h:hyB c=false):((c.toNat:Int)==45)=false:=by
 have:c.toNat≠45:=by simpa[hyB] using h
 rw[beq_eq_false_iff_ne];omega
theorem hyT' {c:UInt8} (h:hyB c=true):((c.toNat:Int) != 45)=false:=by
 have:c.toNat=45:=by simpa[hyB] using h
 rw[this];rfl
theorem hyF' {c:UInt8} (h:hyB c=false):((c.toNat:Int) != 45)=true:=by
 have:c.toNat≠45:=by simpa[hyB] using h
 rw[bne_iff_ne];omega
theorem lb_of (c:UInt8):lbB c=(zbx c||zaf c||hyB c):=rfl
set_option maxHeartbeats 1000000 in
theorem zd3 (s:ByteArray) (w:World) (hs:s.size<=maxLen) :
  Calls Tryz.prog 255 #[.string s] w fun e w'=>e=.returned (.bool (zco s.data.toList))/\w=w':=by
 unfold maxLen at hs
 by_cases h0:s.size=0
 ·obtain rfl:s=S []:=zdR h0;clear h0 hs
  go_enter Tryz.func255,Tryz.ntmps255
  go_wp2_with fail
  go_ret
  exact⟨rfl,rfl⟩
 have hpos:0<s.size:=by omega
 have HL:=za (znN s hpos);have he1:s.toList.isEmpty=false:=by
  rw[ByteArray.toList_eq];rcases hl:s.data.toList with _|⟨c,t⟩
  ·have:=zae s;rw[hl] at this;simp at this;omega
  ·rfl
 clear h0
 by_cases h63:63<s.size
 ·go_enter Tryz.func255,Tryz.ntmps255
  go_wp2_with fail
  go_ret
  exact⟨zaq (by rw[HL.out,decide_eq_false (by omega)];rfl),rfl⟩
 have h63':s.size<=63:=by omega
 have hidx:s.size - 1<s.size:=by omega
 clear h63;rcases hy0:hyB s[0] with _|_
 ·rcases hy1:hyB s[s.size - 1] with _|_
  ·have b0:=hyF hy0;have b1:=hyF hy1;have HA:Hid (zco s.data.toList=s.data.toList.all lbB):=za (by rw[HL.out,hy0,hy1,decide_eq_true h63'];simp);clear hy0 hy1
   go_enter Tryz.func255,Tryz.ntmps255
   go_wp2_with fail
   clear b0 b1
   go_loop [26] (fun i=>∃k:Nat,k<=s.size/\i=.int .i64 k/\Hid ((s.data.toList.take k).all lbB=true)) (fun i=>s.size - (intOf i).toNat)
   case atStart=>exact⟨0,Nat.zero_le _,rfl,za rfl⟩
   case round=>
    obtain⟨k,hk,rfl,HT⟩:=hrel
    by_cases hlt:k<s.size
    ·have hst:lbB s[k]=true->Hid ((s.data.toList.take (k+1)).all lbB=true):=fun h=>za (by rw[zdb _ _ _ hlt,h,HT.out];rfl);have hbad:lbB s[k]=false->Hid (s.data.toList.all lbB=false):=fun h=>za (zbt _ _ (k+1) (by rw[zdb _ _ _ hlt,h,Bool.and_false]));rcases ha:zbx s[k] with _|_
     ·rcases hd:zaf s[k] with _|_
      ·rcases hy:hyB s[k] with _|_
       ·have HB:=hbad (by rw[lb_of,ha,hd,hy];rfl);have b:=hyF' hy;have H1:=za ha;have H2:=za hd;clear ha hd hy hst hbad
        go_wp2_with fail
        refine(za1 _ _).mono ?_;rintro e w' ⟨rfl,rfl⟩;rw[H1.out]
        go_wp2_with fail
        refine(zaL _ _).mono ?_;rintro e w' ⟨rfl,rfl⟩;rw[H2.out]
        go_wp2_with fail
        go_ret
        exact⟨zaq (by rw[HA.out,HB.out]),rfl⟩
       ·have HB:=hst (by rw[lb_of,ha,hd,hy];rfl);have b:=hyT' hy;have H1:=za ha;have H2:=za hd;clear ha hd hy hst hbad
        go_wp2_with fail
        refine(za1 _ _).mono ?_;rintro e w' ⟨rfl,rfl⟩;rw[H1.out]
        go_wp2_with fail
        refine(zaL _ _).mono ?_;rintro e w' ⟨rfl,rfl⟩;rw[H2.out]
        go_wp2_with fail
        go_round
        case rel=>exact⟨k+1,by omega,by go_num,HB⟩
        case measure=>simp[intOf];omega
      ·have HB:=hst (by rw[lb_of,ha,hd];rfl);have H1:=za ha;have H2:=za hd;clear ha hd hst hbad
       go_wp2_with fail
       refine(za1 _ _).mono ?_;rintro e w' ⟨rfl,rfl⟩;rw[H1.out]
       go_wp2_with fail
       refine(zaL _ _).mono ?_;rintro e w' ⟨rfl,rfl⟩;rw[H2.out]
       go_wp2_with fail
       go_round
       case rel=>exact⟨k+1,by omega,by go_num,HB⟩
       case measure=>simp[intOf];omega
     ·have HB:=hst (by rw[lb_of,ha];rfl);have H1:=za ha;clear ha hst hbad
      go_wp2_with fail
      refine(za1 _ _).mono ?_;rintro e w' ⟨rfl,rfl⟩;rw[H1.out]
      go_wp2_with fail
      go_round
      case rel=>exact⟨k+1,by omega,by go_num,HB⟩
      case measure=>simp[intOf];omega
    ·have HB:Hid (s.data.toList.all lbB=true):=za (by rw[<-zcw s k hlt];exact HT.out)
     go_wp2_with fail
     go_ret
     exact⟨zaq (by rw[HA.out,HB.out]),rfl⟩
  ·have b0:=hyF hy0;have b1:=hyT hy1;have HA:Hid (zco s.data.toList=false):=za (by rw[HL.out,hy0,hy1];simp);clear hy0 hy1
   go_enter Tryz.func255,Tryz.ntmps255
   go_wp2_with fail
   go_ret
   exact⟨zaq (by rw[HA.out]),rfl⟩
 ·have b0:=hyT hy0;have HA:Hid (zco s.data.toList=false):=za (by rw[HL.out,hy0];simp);clear hy0
  go_enter Tryz.func255,Tryz.ntmps255
  go_wp2_with fail
  go_ret
  exact⟨zaq (by rw[HA.out]),rfl⟩
theorem zeK (s:ByteArray) (w:World) (hs:s.size<=maxLen) :
  Calls Tryz.prog 196 #[.string s] w fun e w'=>e=.returned (.bool (zc0 s.data.toList))/\Qb w w':=by
 unfold maxLen at hs
 go_enter Tryz.func196,Tryz.ntmps196
 go_wp2_with fail
 go_loopw [3,4,5,6,10] (fun r _ _ _ i wr=>∃(k:Nat) (c:ByteArray),k<=s.size/\c.size+k<=s.size/\i=.int .i64 k/\r=.string c/\Hid (zc0 s.data.toList=zc0 c.data.toList)/\Qb w wr) (fun _ _ _ _ i _=>s.size - (intOf i).toNat)
 case atStart=>exact⟨0,s,Nat.zero_le _,by omega,rfl,rfl,za rfl,Qb.refl w⟩
 case round=>
  obtain⟨k,c,hk,hck,rfl,rfl,HN,hq⟩:=hrel
  by_cases hlt:k<s.size
  ·have hl:=zdK 46 c.data.toList;have hlens:=zbo 46 c.data.toList;obtain⟨p,q,b,hcut⟩:∃p q b,zaB 46 c.data.toList=(p,q,b):=⟨_,_,_,rfl⟩;have HC:=za hcut;have hsp:(S p).size<=maxLen:=by unfold maxLen;rw[zap];rw[hcut] at hlens;have:=hlens.1;rw[zae] at this;simp at this;omega
   rcases hlb:zco p with _|_
   ·have HF:Hid (zc0 c.data.toList=false):=za (by
     rcases hb:b with _|_
     ·subst hb;have h2:(zaB 46 c.data.toList).2.2=false:=by rw[hcut]
      have h3:=(hl.2.2 h2).1;rw[hcut] at h3;rw[zgA h2,<-h3,hlb];rfl
     ·subst hb;rw[zgz (by rw[hcut]),hcut,hlb];rfl)
    have H1:=za hlb;clear hl hlens hcut hlb
    go_wp2_with fail
    refine(zbr c 46 _ (by unfold maxLen;omega)).mono ?_;rintro e w1 ⟨rfl,hq1⟩;rw[HC.out];unfold zhK
    go_wp2_with fail
    refine(zd3 _ _ hsp).mono ?_;rintro e w2 ⟨rfl,rfl⟩;rw[zak,H1.out]
    go_wp2_with fail
    go_ret
    exact⟨zaq (by rw[HN.out,HF.out]),hq.trans hq1⟩
   ·have H1:=za hlb;rcases hb:b with _|_
    ·subst hb;have h2:(zaB 46 c.data.toList).2.2=false:=by rw[hcut]
     have h3:=(hl.2.2 h2).1;rw[hcut] at h3;have HF:Hid (zc0 c.data.toList=!zb2 p):=za (by rw[zgA h2,<-h3,hlb,Bool.true_and]);clear hl hlens hcut hlb h2 h3
     go_wp2_with fail
     refine(zbr c 46 _ (by unfold maxLen;omega)).mono ?_;rintro e w1 ⟨rfl,hq1⟩;rw[HC.out];unfold zhK
     go_wp2_with fail
     refine(zd3 _ _ hsp).mono ?_;rintro e w2 ⟨rfl,rfl⟩;rw[zak,H1.out]
     go_wp2_with fail
     refine(zgT _ _ hsp).mono ?_;rintro e w2 ⟨rfl,rfl⟩;rw[zak]
     go_wp2_with fail
     go_ret
     exact⟨zaq (by rw[HN.out,HF.out]),hq.trans hq1⟩
    ·subst hb;have h2:(zaB 46 c.data.toList).2.2=true:=by rw[hcut]
     have h3:=hl.2.1 h2;rw[hcut,zae] at h3;simp only at h3;have h4:=zlP hlb;have HF:Hid (zc0 c.data.toList=zc0 (S q).data.toList):=za (by rw[zgz h2,hcut,hlb,Bool.true_and]);have h5:(S q).size+(k+1)<=s.size:=by rw[zap];omega
     clear hl hlens hcut hlb h2 h3 h4
     go_wp2_with fail
     refine(zbr c 46 _ (by unfold maxLen;omega)).mono ?_;rintro e w1 ⟨rfl,hq1⟩;rw[HC.out];unfold zhK
     go_wp2_with fail
     refine(zd3 _ _ hsp).mono ?_;rintro e w2 ⟨rfl,rfl⟩;rw[zak,H1.out]
     go_wp2_with fail
     go_roundw
     case rel=>exact⟨k+1,S q,by omega,h5,by go_num,rfl,za (by rw[HN.out,HF.out]),hq.trans hq1⟩
     case measure=>simp[intOf];omega
  ·have hc0:c.size=0:=by omega
   obtain rfl:c=S []:=zdR hc0;clear hc0
   go_wp2_with fail
   go_ret
   exact⟨zaq (by rw[HN.out];decide),hq⟩
theorem zmb (l:List UInt8):zdX l=decide ((zaH (255:Int).toNat l).1=0):=rfl
theorem zgE (s:ByteArray) (w:World) (hs:s.size<=maxLen) :
  Calls Tryz.prog 197 #[.string s] w fun e w'=>e=.returned (.bool (zd4 s.data.toList))/\Qb w w':=by
 unfold maxLen at hs
 go_enter Tryz.func197,Tryz.ntmps197
 go_wp2_with fail
 go_loopw [3,4,5,6,7,8,9,10,12] (fun r _ _ _ _ _ _ _ i wr=>∃(k:Nat) (c:ByteArray),k<=4/\c.size<=s.size/\i=.int .i64 k/\r=.string c/\Hid (zd4 s.data.toList=if k=4 then true else ziL (4 - k) c.data.toList)/\Qb w wr) (fun _ _ _ _ _ _ _ _ i _=>4 - (intOf i).toNat)
 case atStart=>exact⟨0,s,by omega,zd _,rfl,rfl,za rfl,Qb.refl w⟩
 case round=>
  obtain⟨k,c,hk,hck,rfl,rfl,HN,hq⟩:=hrel
  by_cases hlt:k<4
  ·have hl:=zdK 46 c.data.toList;have hlens:=zbo 46 c.data.toList;obtain⟨p,q,b,hcut⟩:∃p q b,zaB 46 c.data.toList=(p,q,b):=⟨_,_,_,rfl⟩;have HC:=za hcut;have hsp:(S p).size<=maxLen:=by unfold maxLen;rw[zap];rw[hcut] at hlens;have:=hlens.1;rw[zae] at this;simp at this;omega
   have hsq:(S q).size<=s.size:=by rw[zap];rw[hcut] at hlens;have:=hlens.2;rw[zae] at this;simp at this;omega
   have HN':Hid (zd4 s.data.toList=ziL (4 - k) c.data.toList):=za (by rw[HN.out,if_neg (by omega)]);clear HN;obtain⟨er,v,hst⟩:∃er v,zaH (255:Int).toNat p=(er,v):=⟨_,_,rfl⟩;have HS:=za hst;have hok:zdX p=decide (er=0):=by rw[zmb,hst]
   by_cases hk3:k=3
   ·subst hk3;rcases hb:b with _|_
    ·subst hb;have h2:(zaB 46 c.data.toList).2.2=false:=by rw[hcut]
     have h3:=(hl.2.2 h2).1;rw[hcut] at h3;have HF:Hid (zd4 s.data.toList=decide (er=0)):=za (by rw[HN'.out,show 4 - 3=1 from rfl,ipvN_one h2,<-h3,hok]);clear hl hlens hcut h2 h3 hok hst
     by_cases he:er=0
     ·subst he
      go_wp2_with fail
      refine(zbr c 46 _ (by unfold maxLen;omega)).mono ?_;rintro e w1 ⟨rfl,hq1⟩;rw[HC.out];unfold zhK
      go_wp2_with fail
      refine(zbw _ _ _ hsp (by decide) (by decide)).mono ?_;rintro e w2 ⟨rfl,rfl⟩;rw[zak,HS.out];unfold zib
      go_wp2_with fail
      go_roundw
      case rel=>exact⟨4,S q,by omega,hsq,by go_num,rfl,za (by rw[HF.out];rfl),hq.trans hq1⟩
      case measure=>simp[intOf]
     ·have he1:(er != 0)=true:=bne_iff_ne.2 he;have HF2:Hid (zd4 s.data.toList=false):=za (by rw[HF.out,decide_eq_false he]);clear he HF
      go_wp2_with fail
      refine(zbr c 46 _ (by unfold maxLen;omega)).mono ?_;rintro e w1 ⟨rfl,hq1⟩;rw[HC.out];unfold zhK
      go_wp2_with fail
      refine(zbw _ _ _ hsp (by decide) (by decide)).mono ?_;rintro e w2 ⟨rfl,rfl⟩;rw[zak,HS.out];unfold zib
      go_wp2_with fail
      go_ret
      exact⟨zaq (by rw[HF2.out]),hq.trans hq1⟩
    ·subst hb;have HF:Hid (zd4 s.data.toList=false):=za (by rw[HN'.out,show 4 - 3=1 from rfl,zok (by rw[hcut])]);clear hl hlens hcut hok hst
     go_wp2_with fail
     refine(zbr c 46 _ (by unfold maxLen;omega)).mono ?_;rintro e w1 ⟨rfl,hq1⟩;rw[HC.out];unfold zhK
     go_wp2_with fail
     go_ret
     exact⟨zaq (by rw[HF.out]),hq.trans hq1⟩
   ·have hk2:k<=2:=by omega
    have hkb:((k:Int)==3)=false:=by rw[beq_eq_false_iff_ne];omega
    clear hk3;rcases hb:b with _|_
    ·subst hb;have HF:Hid (zd4 s.data.toList=false):=za (by rw[HN'.out,show 4 - k=(2 - k)+2 from by omega,zoj (by rw[hcut])]);clear hl hlens hcut hok hst
     go_wp2_with fail
     refine(zbr c 46 _ (by unfold maxLen;omega)).mono ?_;rintro e w1 ⟨rfl,hq1⟩;rw[HC.out];unfold zhK
     go_wp2_with fail
     go_ret
     exact⟨zaq (by rw[HF.out]),hq.trans hq1⟩
    ·subst hb;have HF:Hid (zd4 s.data.toList=(decide (er=0)&&ziL (4 - (k+1)) (S q).data.toList)):=za (by rw[HN'.out,show 4 - k=(4 - (k+1))+1 from by omega,zin (by rw[hcut]),hcut,hok]);clear hl hlens hcut hok hst
     by_cases he:er=0
     ·subst he
      go_wp2_with fail
      refine(zbr c 46 _ (by unfold maxLen;omega)).mono ?_;rintro e w1 ⟨rfl,hq1⟩;rw[HC.out];unfold zhK
      go_wp2_with fail
      refine(zbw _ _ _ hsp (by decide) (by decide)).mono ?_;rintro e w2 ⟨rfl,rfl⟩;rw[zak,HS.out];unfold zib
      go_wp2_with fail
      go_roundw
      case rel=>exact⟨k+1,S q,by omega,hsq,by go_num,rfl,za (by rw[HF.out,if_neg (by omega)];rfl),hq.trans hq1⟩
      case measure=>simp[intOf];omega
     ·have he1:(er != 0)=true:=bne_iff_ne.2 he;have HF2:Hid (zd4 s.data.toList=false):=za (by rw[HF.out,decide_eq_false he];rfl);clear he HF
      go_wp2_with fail
      refine(zbr c 46 _ (by unfold maxLen;omega)).mono ?_;rintro e w1 ⟨rfl,hq1⟩;rw[HC.out];unfold zhK
      go_wp2_with fail
      refine(zbw _ _ _ hsp (by decide) (by decide)).mono ?_;rintro e w2 ⟨rfl,rfl⟩;rw[zak,HS.out];unfold zib
      go_wp2_with fail
      go_ret
      exact⟨zaq (by rw[HF2.out]),hq.trans hq1⟩
  ·obtain rfl:k=4:=by omega
   go_wp2_with fail
   go_ret
   exact⟨zaq (by rw[HN.out];rfl),hq⟩
theorem zju {s:ByteArray} (h:0<s.size):s.toList.isEmpty=false:=by
 rw[ByteArray.toList_eq];rcases hl:s.data.toList with _|⟨c,t⟩
 ·have:=zae s;rw[hl] at this;simp at this;omega
 ·rfl
theorem list_ne {s:ByteArray} (h:0<s.size):s.data.toList≠[]:=fun e=>by have:=zae s;rw[e] at this;simp at this;omega
theorem zex (s:ByteArray) (w:World) (hs:s.size<=maxLen) :
  Calls Tryz.prog 126 #[.string s] w fun e w'=>e=.returned (zm4 (zbH s.data.toList))/\Qb w w':=by
 by_cases h0:s.size=0
 ·obtain rfl:s=S []:=zdR h0;clear h0 hs
  go_enter Tryz.func126,Tryz.ntmps126
  go_wp2_with fail
  go_ret2
  exact⟨rfl,Qb.refl _⟩
 have hpos:0<s.size:=by omega
 have he1:=zju hpos;have hne:=za (list_ne hpos);clear h0
 by_cases h253:253<s.size
 ·have HE:Hid (zbH s.data.toList=(5,[])):=za (by unfold zbH;rw[if_neg hne.out,if_pos (by rw[zae];exact h253)])
  go_enter Tryz.func126,Tryz.ntmps126
  go_wp2_with fail
  go_ret2
  exact⟨by rw[HE.out];rfl,Qb.refl _⟩
 have h253':s.size<=253:=by omega
 have hml:s.size<=maxLen:=by unfold maxLen;omega
 have HE:Hid (zbH s.data.toList=if (zc0 s.data.toList||zd4 s.data.toList)=true then (0,zbm s.data.toList) else (50,[])):=za (by unfold zbH;rw[if_neg hne.out,if_neg (by rw[zae];omega)]);clear h253;rcases h1:zc0 s.data.toList with _|_
 ·rcases h2:zd4 s.data.toList with _|_
  ·have HF:Hid (zbH s.data.toList=(50,[])):=za (by rw[HE.out,h1,h2];rfl);have H1:=za h1;have H2:=za h2;clear h1 h2
   go_enter Tryz.func126,Tryz.ntmps126
   go_wp2_with fail
   refine(zeK s _ hml).mono ?_;rintro e w1 ⟨rfl,hq1⟩;rw[H1.out]
   go_wp2_with fail
   refine(zgE s _ hml).mono ?_;rintro e w2 ⟨rfl,hq2⟩;rw[H2.out]
   go_wp2_with fail
   go_ret2
   exact⟨by rw[HF.out];rfl,hq1.trans hq2⟩
  ·have HF:Hid (zbH s.data.toList=(0,zbm s.data.toList)):=za (by rw[HE.out,h1,h2];rfl);have H1:=za h1;have H2:=za h2;clear h1 h2
   go_enter Tryz.func126,Tryz.ntmps126
   go_wp2_with fail
   refine(zeK s _ hml).mono ?_;rintro e w1 ⟨rfl,hq1⟩;rw[H1.out]
   go_wp2_with fail
   refine(zgE s _ hml).mono ?_;rintro e w2 ⟨rfl,hq2⟩;rw[H2.out]
   go_wp2_with fail
   refine(zga s _ (by omega)).mono ?_;rintro e w3 ⟨rfl,hq3⟩
   go_wp2_with fail
   go_ret2
   exact⟨by rw[HF.out];rfl,(hq1.trans hq2).trans hq3⟩
 ·have HF:Hid (zbH s.data.toList=(0,zbm s.data.toList)):=za (by rw[HE.out,h1];simp);have H1:=za h1;clear h1
  go_enter Tryz.func126,Tryz.ntmps126
  go_wp2_with fail
  refine(zeK s _ hml).mono ?_;rintro e w1 ⟨rfl,hq1⟩;rw[H1.out]
  go_wp2_with fail
  refine(zga s _ (by omega)).mono ?_;rintro e w3 ⟨rfl,hq3⟩
  go_wp2_with fail
  go_ret2
  exact⟨by rw[HF.out];rfl,hq1.trans hq3⟩
theorem zhI (s:ByteArray) (w:World) (hs:s.size<=maxLen) :
  Calls Tryz.prog 127 #[.string s] w fun e w'=>e=.returned (portV (zel s.data.toList))/\w=w':=by
 obtain⟨er,v,hst⟩:∃er v,zaH (65535:Int).toNat s.data.toList=(er,v):=⟨_,_,rfl⟩;have HS:=za hst;have hle:=zfw 65535 s.data.toList;rw[show zaH 65535 s.data.toList=(er,v) from hst] at hle;have HP:Hid (zel s.data.toList=if er=0/\v≠0 then (0,v) else (51,0)):=za (by
  unfold zel;rw[show zaH 65535 s.data.toList=(er,v) from hst])
 simp only at hle;clear hst
 by_cases he:er=0
 ·subst he
  by_cases hv:v=0
  ·subst hv
   go_enter Tryz.func127,Tryz.ntmps127
   go_wp2_with fail
   refine(zbw _ _ _ hs (by decide) (by decide)).mono ?_;rintro e w2 ⟨rfl,rfl⟩;rw[HS.out];unfold zib
   go_wp2_with fail
   go_ret2
   exact⟨by rw[HP.out];rfl,rfl⟩
  ·have hb:((v:Int)==0)=false:=by rw[beq_eq_false_iff_ne];omega
   have HF:Hid (zel s.data.toList=(0,v)):=za (by rw[HP.out,if_pos ⟨rfl,hv⟩]);clear hv
   go_enter Tryz.func127,Tryz.ntmps127
   go_wp2_with fail
   refine(zbw _ _ _ hs (by decide) (by decide)).mono ?_;rintro e w2 ⟨rfl,rfl⟩;rw[HS.out];unfold zib
   go_wp2_with fail
   go_ret2
   exact⟨by rw[HF.out];rfl,rfl⟩
 ·have hb:(er != 0)=true:=bne_iff_ne.2 he;have HF:Hid (zel s.data.toList=(51,0)):=za (by rw[HP.out,if_neg (fun h=>he h.1)]);clear he
  go_enter Tryz.func127,Tryz.ntmps127
  go_wp2_with fail
  refine(zbw _ _ _ hs (by decide) (by decide)).mono ?_;rintro e w2 ⟨rfl,rfl⟩;rw[HS.out];unfold zib
  go_wp2_with fail
  go_ret2
  exact⟨by rw[HF.out];rfl,rfl⟩
def hpE (l:List UInt8):Int×List UInt8×Nat :=
 if (zbH (zaB 58 l).1).1≠0 then ((zbH (zaB 58 l).1).1,[],0)
 else if (zaB 58 l).2.2=false then (0,(zbH (zaB 58 l).1).2,0)
 else if (zel (zaB 58 l).2.1).1≠0 then ((zel (zaB 58 l).2.1).1,[],0)
 else (0,(zbH (zaB 58 l).1).2,if (zel (zaB 58 l).2.1).2=443 then 0 else (zel (zaB 58 l).2.1).2)
def hpV (r:Int×List UInt8×Nat):Value:=.tuple #[.agg #[.string (S r.2.1),.int .i64 r.2.2],.int .i64 r.1]
theorem zpz (s:ByteArray) (w:World) (hs:s.size<=maxLen) :
  Calls Tryz.prog 66 #[.string s] w fun e w'=>e=.returned (hpV (hpE s.data.toList))/\Qb w w':=by
 obtain⟨p,q,b,hcut⟩:∃p q b,zaB 58 s.data.toList=(p,q,b):=⟨_,_,_,rfl⟩;obtain⟨he,h,hh⟩:∃he h,zbH p=(he,h):=⟨_,_,rfl⟩;obtain⟨pe,pn,hp⟩:∃pe pn,zel q=(pe,pn):=⟨_,_,rfl⟩;have HC:=za hcut;have HH:=za hh;have HP:=za hp;have hsp:(S p).size<=maxLen:=by
  have:=(zbo 58 s.data.toList).1;rw[hcut,zae] at this;rw[zap];simp at this;omega
 have hsq:(S q).size<=maxLen:=by
  have:=(zbo 58 s.data.toList).2;rw[hcut,zae] at this;rw[zap];simp at this;omega
 have HE:Hid (hpE s.data.toList=if he≠0 then (he,[],0) else if b=false then (0,h,0) else if pe≠0 then (pe,[],0) else (0,h,if pn=443 then 0 else pn)):=za (by
  unfold hpE;rw[hcut];simp only;rw[hh,hp])
 clear hcut hh hp
 by_cases hee:he=0
 ·subst hee;rcases b with _|_
  ·have HF:Hid (hpE s.data.toList=(0,h,0)):=za (by rw[HE.out,if_neg (by simp),if_pos rfl])
   go_enter Tryz.func66,Tryz.ntmps66
   go_wp2_with fail
   refine(zbr s 58 _ hs).mono ?_;rintro e w1 ⟨rfl,hq1⟩;rw[HC.out];unfold zhK
   go_wp2_with fail
   refine(zex _ _ hsp).mono ?_;rintro e w2 ⟨rfl,hq2⟩;rw[zak,HH.out];unfold zm4;have hk:=(Obk.new w _ _).qb (hq1.trans hq2);have hc0:=hk.cell 0;have hc1:=hk.cell 1;have hf0:=hk.frozen 0;have hf1:=hk.frozen 1;simp at hc0 hc1
   go_wp2_with fail
   exact bodyPost_ret (v:=hpV (0,h,0)) (by simp[results,Tryz.results66,go_sem,hc0,hc1,hf0,hf1,hpV]) rfl ⟨by rw[HF.out],((((Qb.refl w).alloc _).trans (hq1.trans hq2)).set (zd _) _).set (zd _) _⟩
  ·by_cases hpe:pe=0
   ·subst hpe
    by_cases h443:pn=443
    ·subst h443;have HF:Hid (hpE s.data.toList=(0,h,0)):=za (by rw[HE.out,if_neg (by simp),if_neg (by simp),if_neg (by simp),if_pos rfl])
     go_enter Tryz.func66,Tryz.ntmps66
     go_wp2_with fail
     refine(zbr s 58 _ hs).mono ?_;rintro e w1 ⟨rfl,hq1⟩;rw[HC.out];unfold zhK
     go_wp2_with fail
     refine(zex _ _ hsp).mono ?_;rintro e w2 ⟨rfl,hq2⟩;rw[zak,HH.out];unfold zm4
     go_wp2_with fail
     refine(zhI _ _ hsq).mono ?_;rintro e w3 ⟨rfl,rfl⟩;rw[zak,HP.out];unfold portV;have hk:=(Obk.new w _ _).qb (hq1.trans hq2);have hc0:=hk.cell 0;have hc1:=hk.cell 1;have hf0:=hk.frozen 0;have hf1:=hk.frozen 1;simp at hc0 hc1
     go_wp2_with fail
     exact bodyPost_ret (v:=hpV (0,h,0)) (by simp[results,Tryz.results66,go_sem,hc0,hc1,hf0,hf1,hpV]) rfl ⟨by rw[HF.out],((((Qb.refl w).alloc _).trans (hq1.trans hq2)).set (zd _) _).set (zd _) _⟩
    ·have HF:Hid (hpE s.data.toList=(0,h,pn)):=za (by rw[HE.out,if_neg (by simp),if_neg (by simp),if_neg (by simp),if_neg h443]);have hb4:((pn:Int)==443)=false:=by rw[beq_eq_false_iff_ne];omega
     go_enter Tryz.func66,Tryz.ntmps66
     go_wp2_with fail
     refine(zbr s 58 _ hs).mono ?_;rintro e w1 ⟨rfl,hq1⟩;rw[HC.out];unfold zhK
     go_wp2_with fail
     refine(zex _ _ hsp).mono ?_;rintro e w2 ⟨rfl,hq2⟩;rw[zak,HH.out];unfold zm4
     go_wp2_with fail
     refine(zhI _ _ hsq).mono ?_;rintro e w3 ⟨rfl,rfl⟩;rw[zak,HP.out];unfold portV;have hk:=(Obk.new w _ _).qb (hq1.trans hq2);have hc0:=hk.cell 0;have hc1:=hk.cell 1;have hf0:=hk.frozen 0;have hf1:=hk.frozen 1;simp at hc0 hc1
     go_wp2_with fail
     exact bodyPost_ret (v:=hpV (0,h,pn)) (by simp[results,Tryz.results66,go_sem,hc0,hc1,hf0,hf1,hpV]) rfl ⟨by rw[HF.out],((((Qb.refl w).alloc _).trans (hq1.trans hq2)).set (zd _) _).set (zd _) _⟩
   ·have HF:Hid (hpE s.data.toList=(pe,[],0)):=za (by rw[HE.out,if_neg (by simp),if_neg (by simp),if_pos hpe]);have hb:=bne_iff_ne.2 hpe
    go_enter Tryz.func66,Tryz.ntmps66
    go_wp2_with fail
    refine(zbr s 58 _ hs).mono ?_;rintro e w1 ⟨rfl,hq1⟩;rw[HC.out];unfold zhK
    go_wp2_with fail
    refine(zex _ _ hsp).mono ?_;rintro e w2 ⟨rfl,hq2⟩;rw[zak,HH.out];unfold zm4
    go_wp2_with fail
    refine(zhI _ _ hsq).mono ?_;rintro e w3 ⟨rfl,rfl⟩;rw[zak,HP.out];unfold portV;have hk:=(Obk.new w _ _).qb (hq1.trans hq2);have hc0:=hk.cell 0;have hc1:=hk.cell 1;have hf0:=hk.frozen 0;have hf1:=hk.frozen 1;simp at hc0 hc1
    go_wp2_with fail
    exact bodyPost_ret (v:=hpV (pe,[],0)) (by simp[results,Tryz.results66,go_sem,hc0,hc1,hf0,hf1,hpV]) rfl ⟨by rw[HF.out],((((Qb.refl w).alloc _).trans (hq1.trans hq2)).set (zd _) _).set (zd _) _⟩
 ·have HF:Hid (hpE s.data.toList=(he,[],0)):=za (by rw[HE.out,if_pos hee]);have hb:(he != 0)=true:=bne_iff_ne.2 hee
  go_enter Tryz.func66,Tryz.ntmps66
  go_wp2_with fail
  refine(zbr s 58 _ hs).mono ?_;rintro e w1 ⟨rfl,hq1⟩;rw[HC.out];unfold zhK
  go_wp2_with fail
  refine(zex _ _ hsp).mono ?_;rintro e w2 ⟨rfl,hq2⟩;rw[zak,HH.out];unfold zm4;have hk:=(Obk.new w _ _).qb (hq1.trans hq2);have hc0:=hk.cell 0;have hc1:=hk.cell 1;have hf0:=hk.frozen 0;have hf1:=hk.frozen 1;simp at hc0 hc1
  go_wp2_with fail
  exact bodyPost_ret (v:=hpV (he,[],0)) (by simp[results,Tryz.results66,go_sem,hc0,hc1,hf0,hf1,hpV]) rfl ⟨by rw[HF.out],((((Qb.refl w).alloc _).trans (hq1.trans hq2)).set (zd _) _).set (zd _) _⟩
end Go.Proofs.YtomkbafdmbfmfaaGreatDoor
namespace Go.Proofs.YtomkbafdmbfmfaaGreatDoor
open Lib renaming hid->za
open List renaming all_eq_true->qf, append_assoc->zi, append_nil->qw, eq_nil_of_length_eq_zero->jb, map_congr_left->xj, mem_cons_of_mem->qx
open Nat renaming le_refl->zd, zero_le->zq
theorem low256:∀n:Fin 256,zb1 (zb1 (UInt8.ofNat n.val))=zb1 (UInt8.ofNat n.val)/\lbB (zb1 (UInt8.ofNat n.val))=lbB (UInt8.ofNat n.val)/\hyB (zb1 (UInt8.ofNat n.val))=hyB (UInt8.ofNat n.val)/\zaf (zb1 (UInt8.ofNat n.val))=zaf (UInt8.ofNat n.val)/\(zb1 (UInt8.ofNat n.val)=46↔UInt8.ofNat n.val=46)/\(zaf (UInt8.ofNat n.val)=true->zb1 (UInt8.ofNat n.val)=UInt8.ofNat n.val)/\(UInt8.ofNat n.val=46->zb1 (UInt8.ofNat n.val)=UInt8.ofNat n.val):=by decide +kernel
theorem zbF (c:UInt8):zb1 (zb1 c)=zb1 c/\lbB (zb1 c)=lbB c/\hyB (zb1 c)=hyB c/\zaf (zb1 c)=zaf c/\(zb1 c=46↔c=46)/\(zaf c=true->zb1 c=c)/\(c=46->zb1 c=c):=by
 have:=low256 ⟨c.toNat,c.toNat_lt⟩;simp only[UInt8.ofNat_toNat] at this;exact this
theorem znI (l:List UInt8):zbm (zbm l)=zbm l:=by
 unfold zbm;rw[List.map_map];exact xj fun c _=>(zbF c).1
theorem zd2 (l:List UInt8):(zbm l).length=l.length:=by simp[zbm]
theorem zgp:∀l,zbj 46 (zbm l)=(zbj 46 l).map zbm
 | []=>rfl
 | x::t=>by
  have ih:=zgp t;obtain⟨p,ps,e⟩:=zcL 46 t;rw[e] at ih;show zbj 46 (zb1 x::zbm t)=_;rw[zcl,zcl,ih,e]
  by_cases h:x=46
  ·rw[if_pos ((zbF x).2.2.2.2.1.2 h),if_pos h];rfl
  ·rw[if_neg (fun h2=>h ((zbF x).2.2.2.2.1.1 h2)),if_neg h];rfl
theorem zpt (p:UInt8->Bool) (hp:∀c,p (zb1 c)=p c) (l:List UInt8):(zbm l).all p=l.all p:=by
 unfold zbm;rw[List.all_map]
 congr 1;funext c;exact hp c
theorem zlQ (l:List UInt8):zco (zbm l)=zco l:=by
 unfold zco;rw[zpt lbB (fun c=>(zbF c).2.1),zd2];have e1:(zbm l).isEmpty=l.isEmpty:=by cases l<;>rfl
 have e2:(zbm l).head?.map hyB=l.head?.map hyB:=by
  cases l with
  | nil=>rfl
  | cons c t=>simp[zbm,(zbF c).2.2.1]
 have e3:(zbm l).getLast?.map hyB=l.getLast?.map hyB:=by
  unfold zbm;rw[List.getLast?_map]
  cases l.getLast? with
  | none=>rfl
  | some c=>simp[(zbF c).2.2.1]
 rw[e1,e2,e3]
theorem zjv (l:List UInt8):zb2 (zbm l)=zb2 l:=by
 unfold zb2;rw[zpt zaf (fun c=>(zbF c).2.2.2.1)];have e1:(zbm l).isEmpty=l.isEmpty:=by cases l<;>rfl
 rw[e1]
theorem znF (l:List UInt8):zc0 (zbm l)=zc0 l:=by
 unfold zc0;rw[zgp,List.all_map];have e1:((zbj 46 l).map zbm).getLastD []=zbm ((zbj 46 l).getLastD []):=by
  rw[List.getLastD_eq_getLast?,List.getLastD_eq_getLast?,List.getLast?_map]
  cases (zbj 46 l).getLast?<;>rfl
 rw[e1,zjv]
 congr 1
 congr 1
 funext x
 exact zlQ x
theorem zma {l:List UInt8} (h:zdX l=true):zbm l=l:=by
 unfold zdX at h;have h1:=of_decide_eq_true h;unfold zaH at h1
 split at h1
 ·rename_i h2;have h3:=(zcf h2).2;unfold zbm;rw[qf] at h3;have:l.map zb1=l.map id:=xj fun c hc=>(zbF c).2.2.2.2.2.1 (h3 c hc);rw[this,List.map_id]
 ·rename_i h2;exact absurd h1 h2
theorem zdn:∀l:List UInt8,(∀p∈zbj 46 l,zbm p=p)->zbm l=l
 | [],_=>rfl
 | x::t,h=>by
  obtain⟨p,ps,e⟩:=zcL 46 t;rw[zcl,e] at h
  by_cases hx:x=46
  ·rw[if_pos hx] at h;have ih:=zdn t (by rw[e];intro q hq;exact h q (qx _ hq));show zb1 x::zbm t=_;rw[ih,(zbF x).2.2.2.2.2.2 hx]
  ·rw[if_neg hx] at h;have h1:=h (x::p) (List.mem_cons_self ..);have h2:zb1 x=x/\zbm p=p:=by
    have:zb1 x::zbm p=x::p:=h1;injection this with a b;exact⟨a,b⟩
   have ih:=zdn t (by
    rw[e];intro q hq;rcases List.mem_cons.1 hq with rfl|hq
    ·exact h2.2
    ·exact h q (qx _ hq))
   show zb1 x::zbm t=_;rw[ih,h2.1]
theorem ipv4_low {l:List UInt8} (h:zd4 l=true):zbm l=l:=by
 refine zdn l fun p hp=>?_;unfold zd4 ziL at h;simp only[Bool.and_eq_true,qf] at h;exact zma (h.2 p hp)
theorem zlV {q h:List UInt8} (hh:zbH q=(0,h)):zbH h=(0,h)/\h.length=q.length/\h.length<=253/\h=zbm q:=by
 unfold zbH at hh
 split at hh
 ·cases hh
 ·rename_i h0
  split at hh
  ·cases hh
  ·rename_i h1
   split at hh
   ·rename_i h2;injection hh with _ hh;subst hh
    have hl:=zd2 q;refine⟨?_,hl,by omega,rfl⟩;unfold zbH;rw[if_neg (by intro e;rw[e] at hl;exact h0 (jb (by simpa using hl.symm))),if_neg (by omega),znI];rw[if_pos];rw[znF];rw[Bool.or_eq_true] at h2 ⊢;rcases h2 with h2|h2
    ·exact .inl h2
    ·exact .inr (by rw[ipv4_low h2];exact h2)
   ·cases hh
open Go.RowKit
def hvN (c:UInt8):Nat:=if c.toNat<=57 then c.toNat - 48 else if c.toNat<=70 then c.toNat - 55 else c.toNat - 87
def hv (c:UInt8):UInt8:=UInt8.ofNat (hvN c)
theorem zip {c:UInt8} (h:zau c=true):48<=c.toNat/\c.toNat<=57\/97<=c.toNat/\c.toNat<=102\/65<=c.toNat/\c.toNat<=70:=of_decide_eq_true h
theorem ze0 {c:UInt8} (h:zau c=true):(hv c).toNat=hvN c/\hvN c<16:=by
 have:=zip h;have h2:hvN c<16:=by unfold hvN;(repeat' split)<;>omega
 exact⟨by unfold hv;rw[UInt8.toNat_ofNat'];omega,h2⟩
theorem and_223:∀n:Fin 256,bits .and .u8 ((n.val:Nat):Int) 223=((n.val &&& 223:Nat):Int):=by decide +kernel
theorem and_15:∀n:Fin 256,bits .and .u8 ((n.val:Nat):Int) 15=((n.val % 16:Nat):Int):=by decide +kernel
theorem hex_223:∀n:Fin 256,(97<=n.val/\n.val<=102\/65<=n.val/\n.val<=70)->(n.val &&& 223)=(if n.val<=70 then n.val else n.val - 32):=by decide +kernel
theorem zlI (c:UInt8) (h:zau c=true) (w:World) :
  Calls Tryz.prog 295 #[.int .u8 c.toNat] w fun e w'=>e=.returned (.int .u8 (hv c).toNat)/\w=w':=by
 have H:=za h;clear h
 go_enter Tryz.func295,Tryz.ntmps295
 go_wp2_with (go_at_call 242;refine(zaL _ _).mono ?_;rintro e w' ⟨rfl,rfl⟩)
 ·have hd:zaf c=true:=by assumption
  go_ret
  refine⟨zcm ?_,rfl⟩;have h1:=ze0 H.out;have h2:48<=c.toNat/\c.toNat<=57:=of_decide_eq_true hd;rw[h1.1];unfold hvN;rw[if_pos h2.2];omega
 ·have hd:zaf c=false:=by assumption
  go_ret
  refine⟨zcm ?_,rfl⟩;have h1:=ze0 H.out;have h2:¬(48<=c.toNat/\c.toNat<=57):=of_decide_eq_false hd;have h3:=zip H.out;rw[h1.1,and_223 ⟨c.toNat,c.toNat_lt⟩,hex_223 ⟨c.toNat,c.toNat_lt⟩ (by show _\/_;simp only;omega)];unfold hvN;simp only
  split<;>split<;>(try split)<;>omega
def zjj (n:Nat):UInt8:=[48,49,50,51,52,53,54,55,56,57,65,66,67,68,69,70].getD n 0
def ziM (c:UInt8):List UInt8:=[37,zjj (c.toNat / 16),zjj (c.toNat % 16)]
theorem zkG (i:Nat) (h:i<ByteArray.size { data:=#[48,49,50,51,52,53,54,55,56,57,65,66,67,68,69,70] }) :
  ({ data:=#[48,49,50,51,52,53,54,55,56,57,65,66,67,68,69,70] }:ByteArray)[i]=zjj i:=by
 have h':i<[(48:UInt8),49,50,51,52,53,54,55,56,57,65,66,67,68,69,70].length:=h;unfold zjj;rw[List.getD_eq_getElem?_getD,List.getElem?_eq_getElem h']
 rfl
theorem news3 (W:World) (a b c:Value):∀j u,[a,b,c][j]? = some u->(W.alloc (.cells #[a,b,c] 5)).cell? ((⟨W.heap.size,0,none⟩:Addr).add j)=some u:=by
 intro j u hj;rw[zay,World.cell?_alloc_at _ _ _ _ rfl];simpa using hj
theorem news1 (W:World) (a:Value):∀j u,[a][j]? = some u->(W.alloc (.cells #[a] 5)).cell? ((⟨W.heap.size,0,none⟩:Addr).add j)=some u:=by
 intro j u hj;rw[zay,World.cell?_alloc_at _ _ _ _ rfl];simpa using hj
theorem zl4 (c:UInt8) (i j:Nat) (hi:i=c.toNat / 16) (hj:j=c.toNat % 16) (h1:i<ByteArray.size { data:=#[48,49,50,51,52,53,54,55,56,57,65,66,67,68,69,70] }) (h2:j<ByteArray.size { data:=#[48,49,50,51,52,53,54,55,56,57,65,66,67,68,69,70] }) :
  bv (ziM c)=[.int .u8 37,.int .u8 (({ data:=#[48,49,50,51,52,53,54,55,56,57,65,66,67,68,69,70] }:ByteArray)[i]).toNat,.int .u8 (({ data:=#[48,49,50,51,52,53,54,55,56,57,65,66,67,68,69,70] }:ByteArray)[j]).toNat]:=by
 rw[zkG,zkG,hi,hj];rfl
theorem zfb (v:Value) (l:List UInt8) (c:UInt8) (B:Nat) (w:World) (h:zbY w B v l) (hl:l.length<=1000000000) (hB:B<=w.heap.size) :
  Calls Tryz.prog 268 #[v,.int .u8 c.toNat] w fun e w'=>∃v',e=.returned v'/\zbY w' B v' (l++ziM c)/\Below B w w':=by
 have hc:=c.toNat_lt;have a1:(0:Int)<=(c.toNat:Int) / 16:=by omega
 have a2:(c.toNat:Int) / 16<16:=by omega
 have b1:(0:Int)<=(c.toNat:Int) % 16:=by omega
 have b2:(c.toNat:Int) % 16<16:=by omega
 have hand:=and_15 ⟨c.toNat,c.toNat_lt⟩;simp only at hand;have hcells:=za (zl4 c ((c.toNat:Int) / 16).toNat ((c.toNat:Int) % 16).toNat (by omega) (by omega) (by show _<16;omega) (by show _<16;omega))
 go_enter Tryz.func268,Tryz.ntmps268
 go_wp2_with fail
 go_region_law (first|(refine zfy rfl (.tmp 5) (.tmp 12) rfl B v l (ziM c) rfl (zbY.drew (h.alloc _)) _ _ _ rfl rfl (by rw[hcells.out];exact news3 _ _ _ _) (by simp[ziM];omega) (by simp;omega) ?_;intro v1 w1 hr1 hb1)|fail)
 all_goals have hb2:Below B w w1:=(((Below.refl B w).alloc hB _).drew).trans hb1
 all_goals (try go_wp2_with fail)
 all_goals go_ret
 all_goals exact⟨_,rfl,hr1,hb2⟩
def zby (c:UInt8) (also:List UInt8):Bool:=za9 c||(c.toNat != 37&&zc4 c also)
theorem zc2 (c:UInt8) (s:ByteArray) (w:World) :
  Calls Tryz.prog 269 #[.int .u8 c.toNat,.string s] w fun e w'=>e=.returned (.bool (zby c s.data.toList))/\w=w':=by
 go_enter Tryz.func269,Tryz.ntmps269
 go_wp2_with (first|(go_at_call 267;refine(zdc _ _).mono ?_;rintro e w' ⟨rfl,rfl⟩)|(go_at_call 219;refine(Tryz.strings_IndexByte _ _ _).mono ?_;rintro e w' ⟨rfl,rfl⟩))
 ·have h1:za9 c=true:=by assumption
  go_ret
  exact⟨zaq (by unfold zby;rw[h1];rfl),rfl⟩
 ·have h1:¬za9 c=true:=by assumption
  have h2:(c.toNat:Int)=37:=by assumption
  go_ret
  refine⟨zaq ?_,rfl⟩;unfold zby;have h3:c.toNat=37:=by omega
  rw[Bool.eq_false_iff.2 h1,h3];rfl
 ·have h1:¬za9 c=true:=by assumption
  have h2:¬(c.toNat:Int)=37:=by assumption
  go_ret
  refine⟨zaq ?_,rfl⟩;unfold zby zc4;have h3:¬c.toNat=37:=by omega
  rw[Bool.eq_false_iff.2 h1,Lib.contains_iff_indexByte,bne_iff_ne.2 h3,bne_iff_ne.2 h2];rfl
def zdq:List UInt8->Bool
 | _::a::b::_=>zau a&&zau b
 | _=>false
def ze9:List UInt8->UInt8
 | _::a::b::_=>UInt8.ofNat (16*hvN a+hvN b)
 | _=>0
theorem drop3 (s:ByteArray) (k:Nat) (h:k+2<s.size):s.data.toList.drop k=s[k]::s[k+1]::s[k+2]::s.data.toList.drop (k+3):=by
 rw[zaQ s k (by omega),zaQ s (k+1) (by omega),zaQ s (k+2) (by omega)]
theorem zfX (s:ByteArray) (k:Nat) (h:¬k+2<s.size):zdq (s.data.toList.drop k)=false:=by
 have hl:(s.data.toList.drop k).length<=2:=by rw[List.length_drop,zae];omega
 revert hl
 generalize s.data.toList.drop k=l;intro hl
 match l,hl with
 | [],_=>rfl
 | [_],_=>rfl
 | [_,_],_=>rfl
theorem zdW (s:ByteArray) (k:Nat) (hk:k<=s.size) (hs:s.size<=maxLen) (w:World) :
  Calls Tryz.prog 294 #[.string s,.int .i64 k] w fun e w'=>e=.returned (.bool (zdq (s.data.toList.drop k)))/\w=w':=by
 unfold maxLen at hs
 by_cases hlt:k+2<s.size
 ·have HD:=za (drop3 s k hlt)
  go_enter Tryz.func294,Tryz.ntmps294
  go_wp2_with (go_at_call 252;refine(zew _ _).mono ?_;rintro e w' ⟨rfl,rfl⟩)
  ·have h1:zau s[k+1]=true:=by assumption
   go_ret
   exact⟨zaq (by rw[HD.out];simp only[zdq,h1,Bool.true_and]),rfl⟩
  ·have h1:¬zau s[k+1]=true:=by assumption
   go_ret
   exact⟨zaq (by rw[HD.out];simp only[zdq,Bool.eq_false_iff.2 h1,Bool.false_and]),rfl⟩
 ·have HD:=za (zfX s k hlt)
  go_enter Tryz.func294,Tryz.ntmps294
  go_wp2_with fail
  go_ret
  exact⟨zaq HD.out.symm,rfl⟩
theorem escV_nat {a b:UInt8} (ha:zau a=true) (hb:zau b=true):(UInt8.ofNat (16*hvN a+hvN b)).toNat=16*(hv a).toNat+(hv b).toNat:=by
 have h1:=ze0 ha;have h2:=ze0 hb;rw[UInt8.toNat_ofNat',h1.1,h2.1];omega
abbrev ziI:=List UInt8->UInt8->Bool->Int×List UInt8
def rwS (add:ziI):Nat->List UInt8->List UInt8->Int×List UInt8
 | _,[],out=>(0,out)
 | n+1,_::l,out=>rwS add n l out
 | 0,c::l,out=>
  if c=37 then
   if zdq (c::l)=true then
    if (add out (ze9 (c::l)) true).1=0 then rwS add 2 l (add out (ze9 (c::l)) true).2 else ((add out (ze9 (c::l)) true).1,[])
   else (2,[])
  else if (add out c false).1=0 then rwS add 0 l (add out c false).2 else ((add out c false).1,[])
section
variable (add:ziI) (s:ByteArray) (k:Nat) (out:List UInt8)
theorem rwS_end (n:Nat) (h:¬k<s.size):rwS add n (s.data.toList.drop k) out=(0,out):=by
 rw[List.drop_of_length_le (by rw[zae];omega),rwS]
theorem rwS_skip (m:Nat) (h:k<s.size) (hm:k<m):rwS add (m - k) (s.data.toList.drop k) out=rwS add (m - (k+1)) (s.data.toList.drop (k+1)) out:=by
 rw[zaQ s k h,show m - k=(m - (k+1))+1 from by omega,rwS]
theorem rwS_bad (h:k<s.size) (hc:s[k]=37) (he:zdq (s.data.toList.drop k)=false):rwS add 0 (s.data.toList.drop k) out=(2,[]):=by
 rw[zaQ s k h] at he ⊢;rw[rwS,if_pos hc,if_neg (by rw[he];exact Bool.false_ne_true)]
theorem rwS_esc (h:k<s.size) (hc:s[k]=37) (he:zdq (s.data.toList.drop k)=true) (ha:(add out (ze9 (s.data.toList.drop k)) true).1=0) :
  rwS add 0 (s.data.toList.drop k) out=rwS add (k+3 - (k+1)) (s.data.toList.drop (k+1)) (add out (ze9 (s.data.toList.drop k)) true).2:=by
 rw[zaQ s k h] at he ha;rw[show k+3 - (k+1)=2 from by omega]
 conv=>lhs;rw[zaQ s k h]
 rw[rwS,if_pos hc,if_pos he,if_pos ha,<-zaQ s k h]
theorem zi2 (h:k<s.size) (hc:s[k]=37) (he:zdq (s.data.toList.drop k)=true) (ha:(add out (ze9 (s.data.toList.drop k)) true).1≠0) :
  rwS add 0 (s.data.toList.drop k) out=((add out (ze9 (s.data.toList.drop k)) true).1,[]):=by
 rw[zaQ s k h] at he ha ⊢;rw[rwS,if_pos hc,if_pos he,if_neg ha]
theorem rwS_one (h:k<s.size) (hc:s[k]≠37) (ha:(add out s[k] false).1=0) :
  rwS add 0 (s.data.toList.drop k) out=rwS add (k+1 - (k+1)) (s.data.toList.drop (k+1)) (add out s[k] false).2:=by
 rw[Nat.sub_self]
 conv=>lhs;rw[zaQ s k h]
 rw[rwS,if_neg hc,if_pos ha]
theorem zi1 (h:k<s.size) (hc:s[k]≠37) (ha:(add out s[k] false).1≠0) :
  rwS add 0 (s.data.toList.drop k) out=((add out s[k] false).1,[]):=by
 conv=>lhs;rw[zaQ s k h]
 rw[rwS,if_neg hc,if_neg ha]
theorem zl3 (he:zdq (s.data.toList.drop k)=true):k+2<s.size:=by
 rcases Nat.lt_or_ge (k+2) s.size with h|h
 ·exact h
 ·rw[zfX s k (by omega)] at he;cases he
theorem zoL (he:zdq (s.data.toList.drop k)=true):∃h:k+2<s.size,zau s[k+1]=true/\zau s[k+2]=true/\(ze9 (s.data.toList.drop k)).toNat=16*(hv s[k+1]).toNat+(hv s[k+2]).toNat:=by
 have h:=zl3 s k he;rw[drop3 s k h] at he ⊢;simp only[zdq,Bool.and_eq_true] at he;exact⟨h,he.1,he.2,escV_nat he.1 he.2⟩
end
def zpv:ziI:=fun out x _=>(0,out++[x])
def zdf (also:List UInt8):ziI:=fun out x e=>if (e&&!za9 x)=true then (0,out++ziM x) else if zby x also=true then (0,out++[x]) else (1,[])
def zkl (r:Int×List UInt8) (n:Nat):Int×List UInt8:=if 16384<n then (5,[]) else r
def decL (l:List UInt8):Int×List UInt8:=zkl (rwS zpv 0 l []) l.length
def zaD (l also:List UInt8):Int×List UInt8:=zkl (rwS (zdf also) 0 l []) l.length
theorem or_shl:∀a b:Fin 16,bits .or .u8 (((a.val*16:Nat):Int)) ((b.val:Nat):Int)=((16*a.val+b.val:Nat):Int):=by decide +kernel
def AddPost (r:Int×List UInt8) (B:Nat) (w:World) (en:Ending) (w':World):Prop :=
 ∃v',en=.returned (.tuple #[v',.int .i64 r.1])/\(r.1=0->zbY w' B v' r.2)/\Below B w w'
theorem zdO {also l:List UInt8} {x:UInt8} (hu:za9 x=false):zdf also l x true=(0,l++ziM x):=by unfold zdf;rw[if_pos (by rw[hu];rfl)]
theorem zbf {also l:List UInt8} {x:UInt8} {e:Bool} (hu:(e&&!za9 x)=false) (hp:zby x also=true):zdf also l x e=(0,l++[x]):=by
 unfold zdf;rw[if_neg (by rw[hu];exact Bool.false_ne_true),if_pos hp]
theorem zfn {also l:List UInt8} {x:UInt8} {e:Bool} (hu:(e&&!za9 x)=false) (hp:zby x also=false):zdf also l x e=(1,[]):=by
 unfold zdf;rw[if_neg (by rw[hu];exact Bool.false_ne_true),if_neg (by rw[hp];exact Bool.false_ne_true)]
theorem zln {also l:List UInt8} {x:UInt8} {e:Bool}:(zdf also l x e).2.length<=l.length+3:=by
 unfold zdf
 repeat' split
 all_goals simp[ziM]
theorem zfM (v:Value) (l:List UInt8) (x:UInt8) (e:Bool) (B g:Nat) (also:ByteArray) (w:World) (h:zbY w B v l) (hl:l.length<=1000000000) (hB:B<=w.heap.size) (hc:w.cell? ⟨g,0,none⟩=some (.string also)) :
  Calls Tryz.prog 266 #[v,.int .u8 x.toNat,.bool e,.pointer (some ⟨g,0,none⟩)] w (AddPost (zdf also.data.toList l x e) B w):=by
 rcases hu:(e&&!za9 x) with _|_
 ·rcases hp:zby x also.data.toList with _|_
  ·rw[zfn hu hp]
   cases e
   ·clear hu
    go_enter Tryz.func266,Tryz.ntmps266
    go_wp2_with (go_at_call 269;refine(zc2 _ _ _).mono ?_;rintro e w' ⟨rfl,rfl⟩)
    go_ret2
    exact⟨_,rfl,fun h=>absurd h (by decide),Below.refl _ _⟩
   ·have hu':za9 x=true:=by simpa using hu
    clear hu
    go_enter Tryz.func266,Tryz.ntmps266
    go_wp2_with (first|(go_at_call 267;refine(zdc _ _).mono ?_;rintro e w' ⟨rfl,rfl⟩)|(go_at_call 269;refine(zc2 _ _ _).mono ?_;rintro e w' ⟨rfl,rfl⟩))
    go_ret2
    exact⟨_,rfl,fun h=>absurd h (by decide),Below.refl _ _⟩
  ·rw[zbf hu hp]
   cases e
   ·clear hu
    go_enter Tryz.func266,Tryz.ntmps266
    go_wp2_with (first|(go_at_call 269;refine(zc2 _ _ _).mono ?_;rintro e w' ⟨rfl,rfl⟩)|(at_builtin;refine zcI rfl (.tmp 23) (.tmp 25) rfl B v l [x] rfl (h.alloc _) _ _ _ rfl rfl (news1 _ _) (by simp;omega) (by simp;omega) ?_;intro v1 w1 hr1 hb1))
    go_ret2
    exact⟨v1,rfl,fun _=>hr1,((Below.refl B _).alloc hB _).trans hb1⟩
   ·have hu':za9 x=true:=by simpa using hu
    clear hu
    go_enter Tryz.func266,Tryz.ntmps266
    go_wp2_with (first|(go_at_call 267;refine(zdc _ _).mono ?_;rintro e w' ⟨rfl,rfl⟩)|(go_at_call 269;refine(zc2 _ _ _).mono ?_;rintro e w' ⟨rfl,rfl⟩)|(at_builtin;refine zcI rfl (.tmp 23) (.tmp 25) rfl B v l [x] rfl (h.alloc _) _ _ _ rfl rfl (news1 _ _) (by simp;omega) (by simp;omega) ?_;intro v1 w1 hr1 hb1))
    go_ret2
    exact⟨v1,rfl,fun _=>hr1,((Below.refl B _).alloc hB _).trans hb1⟩
 ·have he:e=true:=by cases e<;>simp_all
  subst he;have hu':za9 x=false:=by simpa using hu
  clear hu;rw[zdO hu']
  go_enter Tryz.func266,Tryz.ntmps266
  go_wp2_with (first|(go_at_call 267;refine(zdc _ _).mono ?_;rintro e w' ⟨rfl,rfl⟩)|(go_at_call 268;refine(zfb v l x B _ h hl hB).mono ?_;rintro e w1 ⟨v1,rfl,hr1,hb1⟩))
  go_ret2
  exact⟨v1,rfl,fun _=>hr1,hb1⟩
set_option maxHeartbeats 800000 in
theorem zh6 (s:ByteArray) (g:Nat) (also:ByteArray) (w:World) (hs:s.size<=16384) (hg:g<w.heap.size) (hc0:w.cell? ⟨g,0,none⟩=some (.string also)) :
  Calls Tryz.prog 265 #[.string s,.func (.func 266) #[] #[.pointer (some ⟨g,0,none⟩)]] w fun e w'=>e=.returned (zm4 (rwS (zdf also.data.toList) 0 s.data.toList []))/\Qb w w':=by
 have hmk:=fun W=>zie s.size (by omega) W
 go_enter Tryz.func265,Tryz.ntmps265
 go_wp2_with fail
 clear hmk
 go_loopw [6,7,8,9,10,11,20] (fun v m _ _ _ _ i wr=>∃k j:Nat,∃l,k<=s.size/\k<=j/\j<=s.size/\m=.int .i64 j/\i=.int .i64 k/\zbY wr w.heap.size v l/\l.length<=3*k/\Hid (rwS (zdf also.data.toList) 0 s.data.toList []=rwS (zdf also.data.toList) (j - k) (s.data.toList.drop k) l)/\Qb w wr) (fun _ _ _ _ _ _ i _=>s.size - (intOf i).toNat)
 case atStart=>exact⟨0,0,[],zq _,zd _,zq _,rfl,rfl,zf8 w _ 0 _ (zd _) (zq _) (by omega),zq _,za rfl,(Qb.refl w).alloc _⟩
 case round=>
  obtain⟨k,j,l,hk,hkj,hj,rfl,rfl,hrow,hlen,HR,hq⟩:=hrel
  by_cases hlt:k<s.size
  ·by_cases hskip:k<j
   ·have HS:=za (rwS_skip (zdf also.data.toList) s k l j hlt hskip)
    go_wp2_with fail
    go_roundw
    case rel=>exact⟨k+1,j,l,by omega,by omega,hj,rfl,by go_num,hrow,by omega,za (HR.out.trans HS.out),hq⟩
    case measure=>simp[intOf];omega
   ·obtain rfl:k=j:=by omega
    rw[Nat.sub_self] at HR;have hB:w.heap.size<=wr.heap.size:=hq.size;have hcw:wr.cell? ⟨g,0,none⟩=some (.string also):=(hq.below.cell (p:=⟨g,0,none⟩) hg).trans hc0
    by_cases hc:s[k]=37
    ·have h37:((s[k].toNat:Int)==37)=true:=by rw[hc];rfl
     have HC:=za hc;clear hc;rcases he:zdq (s.data.toList.drop k) with _|_
     ·have HE:=za (rwS_bad (zdf also.data.toList) s k l hlt HC.out he)
      go_wp2_with (go_at_call 294;refine(zdW s k (by omega) (by unfold maxLen;omega) _).mono ?_;rintro e w' ⟨rfl,rfl⟩)
      go_ret2
      exact⟨by rw[HR.out,HE.out];rfl,hq⟩
     ·obtain⟨h2,ha,hb,hv2⟩:=zoL s k he;have n1:=(ze0 ha).2;rw[<-(ze0 ha).1] at n1;have n2:=(ze0 hb).2;rw[<-(ze0 hb).1] at n2;have hor:bits .or .u8 (((hv s[k+1]).toNat:Int)*16) ((hv s[k+2]).toNat:Int)=((ze9 (s.data.toList.drop k)).toNat:Int):=by
       rw[hv2,<-or_shl ⟨_,n1⟩ ⟨_,n2⟩];rfl
      have HV:=za hor;have HE0:=za he;clear hv2 hor;have q1:IntKind.i64.wrap ((k:Int)+1)=(k:Int)+1:=IntWalk.i64_in _ (by omega);have q2:(0:Int)<=(k:Int)+1:=by omega
      have q3:((k:Int)+1).toNat=k+1:=by omega
      have q4:(k:Int)+1<s.size:=by omega
      have q5:IntKind.i64.wrap ((k:Int)+2)=(k:Int)+2:=IntWalk.i64_in _ (by omega);have q6:(0:Int)<=(k:Int)+2:=by omega
      have q7:((k:Int)+2).toNat=k+2:=by omega
      have q8:(k:Int)+2<s.size:=by omega
      go_wp2_with (go_at_call 294;refine(zdW s k (by omega) (by unfold maxLen;omega) _).mono ?_;rintro e w' ⟨rfl,rfl⟩)
      go_quiet ((go_at_call 295;exact zeG (zlI _ (by assumption) _)))
      clear he
      go_wp2_with fail
      rw[HV.out];refine(zfM _ l (ze9 (s.data.toList.drop k)) true w.heap.size g also _ (by exact hrow) (by omega) (by exact hB) (by exact hcw)).mono ?_;rintro en w2 ⟨v2,rfl,hr2,hb2⟩;have hq2:Qb w w2:=Below.trans (hq.drewN _) hb2;have hl2:=zln (also:=also.data.toList) (l:=l) (x:=ze9 (s.data.toList.drop k)) (e:=true)
      by_cases h0:((zdf also.data.toList) l (ze9 (s.data.toList.drop k)) true).1=0
      ·have hr3:=hr2 h0;have HE:=za (rwS_esc (zdf also.data.toList) s k l hlt HC.out HE0.out h0);clear hr2;generalize hout:((zdf also.data.toList) l (ze9 (s.data.toList.drop k)) true).2=l2 at *;have HO:=za hout;clear hout
       go_wp2_with fail
       go_roundw
       case rel=>exact⟨k+1,k+3,l2,by omega,by omega,by omega,by go_num,by go_num,hr3,by omega,za (HR.out.trans HE.out),hq2⟩
       case measure=>simp[intOf];omega
      ·have HE:=za (zi2 (zdf also.data.toList) s k l hlt HC.out HE0.out h0);have h1:((((zdf also.data.toList) l (ze9 (s.data.toList.drop k)) true).1) != 0)=true:=bne_iff_ne.2 h0;clear h0 hr2
       go_wp2_with fail
       go_ret2
       exact⟨by rw[HR.out,HE.out];rfl,hq2⟩
    ·have h37:((s[k].toNat:Int)==37)=false:=by
      rw[beq_eq_false_iff_ne];intro e;exact hc (UInt8.toNat_inj.1 (show s[k].toNat=37 from by omega))
     have HC:=za hc;clear hc
     all_goals
      go_wp2_with fail
      refine(zfM _ l (s[k]) false w.heap.size g also _ (by exact hrow) (by omega) (by exact hB) (by exact hcw)).mono ?_;rintro en w2 ⟨v2,rfl,hr2,hb2⟩;have hq2:Qb w w2:=Below.trans hq hb2;have hl2:=zln (also:=also.data.toList) (l:=l) (x:=s[k]) (e:=false)
      by_cases h0:((zdf also.data.toList) l (s[k]) false).1=0
      ·have hr3:=hr2 h0;have HE:=za (rwS_one (zdf also.data.toList) s k l hlt HC.out h0);clear hr2;generalize hout:((zdf also.data.toList) l (s[k]) false).2=l2 at *;have HO:=za hout;clear hout
       go_wp2_with fail
       go_roundw
       case rel=>exact⟨k+1,k+1,l2,by omega,by omega,by omega,by go_num,by go_num,hr3,by omega,za (HR.out.trans HE.out),hq2⟩
       case measure=>simp[intOf];omega
      ·have HE:=za (zi1 (zdf also.data.toList) s k l hlt HC.out h0);have h1:((((zdf also.data.toList) l (s[k]) false).1) != 0)=true:=bne_iff_ne.2 h0;clear h0 hr2
       go_wp2_with fail
       go_ret2
       exact⟨by rw[HR.out,HE.out];rfl,hq2⟩
  ·have HE:=za (rwS_end (zdf also.data.toList) s k l (j - k) hlt);have hst:=zi3 hrow
   go_wp2_with fail
   go_ret2
   exact⟨by rw[HR.out,HE.out];rfl,hq⟩
theorem zg9 (s:ByteArray) (f:Value) (w:World) (hs:¬s.size<=16384) :
  Calls Tryz.prog 265 #[.string s,f] w fun e w'=>e=.returned (zm4 (5,[]))/\w=w':=by
 go_enter Tryz.func265,Tryz.ntmps265
 go_wp2_with fail
 go_ret2
 exact⟨rfl,rfl⟩
theorem zno (s a:ByteArray) (w:World) :
  Calls Tryz.prog 226 #[.string s,.string a] w fun e w'=>e=.returned (zm4 (zaD s.data.toList a.data.toList))/\Qb w w':=by
 have hmf:∀(fn:Fn) (first cap:Array Value) (w:World),(Instr.makeFunc fn first cap).run Tryz.prog w=.ok (.func fn first cap) w:=fun _ _ _ _=>rfl
 by_cases hs:s.size<=16384
 ·have hd:zaD s.data.toList a.data.toList=rwS (zdf a.data.toList) 0 s.data.toList []:=by unfold zaD zkl;rw[if_neg (by rw[zae];omega)]
  rw[hd]
  go_enter Tryz.func226,Tryz.ntmps226
  go_wp2_with fail
  refine(zh6 s w.heap.size a _ hs (by simp) (by rw[World.cell?_alloc_at _ _ _ _ rfl];rfl)).mono ?_;rintro e w1 ⟨rfl,hq1⟩;unfold zm4
  go_wp2_with fail
  go_ret2
  exact⟨rfl,((Qb.refl w).alloc _).trans hq1⟩
 ·have hd:zaD s.data.toList a.data.toList=(5,[]):=by unfold zaD zkl;rw[if_pos (by rw[zae];omega)]
  rw[hd]
  go_enter Tryz.func226,Tryz.ntmps226
  go_wp2_with fail
  refine(zg9 s _ _ hs).mono ?_;rintro e w1 ⟨rfl,rfl⟩;unfold zm4
  go_wp2_with fail
  go_ret2
  exact⟨rfl,(Qb.refl w).alloc _⟩
theorem escB_len (c:UInt8):(ziM c).length=3:=rfl
theorem zb8 (add:ziI):∀(n:Nat) (l out:List UInt8),rwS add n l out=rwS add 0 (l.drop n) out
 | 0,l,out=>rfl
 | n+1,[],out=>by rw[List.drop_nil,rwS,rwS]
 | n+1,_::l,out=>by rw[rwS,List.drop_succ_cons];exact zb8 add n l out
theorem zbU {c:UInt8} {l:List UInt8} (h:za9 c=true):zby c l=true:=by unfold zby;rw[h];rfl
theorem znm {l:List UInt8}:zby 37 l=false:=by unfold zby;rfl
theorem u37:za9 37=false:=by decide
theorem zgH:∀n:Fin 16,zau (zjj n.val)=true/\hvN (zjj n.val)=n.val/\zjj n.val≠37:=by decide
theorem escB_ok (c:UInt8) (r:List UInt8):zdq (ziM c++r)=true/\ze9 (ziM c++r)=c:=by
 have hc:=c.toNat_lt;have h1:=zgH ⟨c.toNat / 16,by omega⟩;have h2:=zgH ⟨c.toNat % 16,by omega⟩;simp only at h1 h2
 constructor
 ·show (zau (zjj (c.toNat / 16))&&zau (zjj (c.toNat % 16)))=true;rw[h1.1,h2.1];rfl
 ·show UInt8.ofNat (16*hvN (zjj (c.toNat / 16))+hvN (zjj (c.toNat % 16)))=c;rw[h1.2.1,h2.2.1,show 16*(c.toNat / 16)+c.toNat % 16=c.toNat from by omega];exact UInt8.ofNat_toNat
theorem zg7 (add:ziI) (c:UInt8) (r out:List UInt8) (o2:List UInt8) (h:add out c true=(0,o2)):rwS add 0 (ziM c++r) out=rwS add 0 r o2:=by
 have h1:=escB_ok c r;show rwS add 0 (37::([zjj (c.toNat / 16),zjj (c.toNat % 16)]++r)) out=_;have e:(37::([zjj (c.toNat / 16),zjj (c.toNat % 16)]++r):List UInt8)=ziM c++r:=rfl;rw[rwS,if_pos rfl,e,if_pos h1.1,h1.2,h,if_pos rfl,zb8]
 rfl
theorem zdl (add:ziI) (c:UInt8) (r out:List UInt8) (o2:List UInt8) (hc:c≠37) (h:add out c false=(0,o2)):rwS add 0 ([c]++r) out=rwS add 0 r o2:=by
 show rwS add 0 (c::r) out=_;rw[rwS,if_neg hc,h,if_pos rfl]
theorem znl {c:UInt8} {k:List UInt8} (h:zby c k=true):c≠37:=by
 rintro rfl;rw[znm] at h;cases h
def Canon (also l y a:List UInt8):Prop :=
 (∀o r,rwS (zdf also) 0 (y++r) o=rwS (zdf also) 0 r (o++y))/\(∀o,rwS zpv 0 l o=(0,o++a))/\(∀o r,rwS zpv 0 (y++r) o=rwS zpv 0 r (o++a))/\y.length<=l.length
theorem zeL {c:UInt8} {t:List UInt8} (h:zdq (c::t)=true):∃a b r,t=a::b::r:=by
 match t,h with
 | a::b::r,_=>exact⟨a,b,r,rfl⟩
theorem zgD {x:UInt8} (h:za9 x=true):x≠37:=by
 rintro rfl;rw[u37] at h;cases h
theorem znD (also:List UInt8):∀(n:Nat) (l out x:List UInt8),l.length<=n->rwS (zdf also) 0 l out=(0,x)->∃y a,x=out++y/\Canon also l y a:=by
 intro n
 induction n with
 | zero=>
  intro l out x hl h;have:l=[]:=jb (by omega);subst this;rw[rwS] at h;obtain rfl:out=x:=by injection h
  exact⟨[],[],by simp,by simp,by intro o;rw[rwS,qw],by simp,zd _⟩
 | succ n ih=>
  intro l out x hl h
  cases l with
  | nil=>
   rw[rwS] at h;obtain rfl:out=x:=by injection h
   exact⟨[],[],by simp,by simp,by intro o;rw[rwS,qw],by simp,zd _⟩
  | cons c t=>
   by_cases hc:c=37
   ·rcases he:zdq (c::t) with _|_
    ·rw[rwS,if_pos hc,if_neg (by rw[he];exact Bool.false_ne_true)] at h;injection h with h1 _
     exact absurd h1 (by decide)
    ·obtain⟨a,b,r,rfl⟩:=zeL he;have hd:∀o,rwS zpv 0 (c::a::b::r) o=rwS zpv 0 r (o++[ze9 (c::a::b::r)]):=by
      intro o;rw[rwS,if_pos hc,if_pos he];show (if (0:Int)=0 then rwS zpv 2 (a::b::r) _ else _)=_;rw[if_pos rfl,zb8]
      rfl
     rcases hu:za9 (ze9 (c::a::b::r)) with _|_
     ·rw[rwS,if_pos hc,if_pos he,zdO hu,if_pos rfl,zb8] at h;obtain⟨y,m,rfl,h1,h2,h3,h4⟩:=ih r _ x (by simp at hl ⊢;omega) h;refine⟨ziM (ze9 (c::a::b::r))++y,ze9 (c::a::b::r)::m,by simp,?_,?_,?_,?_⟩
      ·intro o r';rw[zi,zg7 _ _ _ _ _ (zdO hu),h1,zi]
      ·intro o;rw[hd,h2,zi];rfl
      ·intro o r';rw[zi,zg7 zpv _ _ _ _ rfl,h3,zi];rfl
      ·rw[List.length_append,escB_len];simp;omega
     ·rw[rwS,if_pos hc,if_pos he,zbf (by rw[hu];rfl) (zbU hu),if_pos rfl,zb8] at h;obtain⟨y,m,rfl,h1,h2,h3,h4⟩:=ih r _ x (by simp at hl ⊢;omega) h;refine⟨[ze9 (c::a::b::r)]++y,ze9 (c::a::b::r)::m,by simp,?_,?_,?_,?_⟩
      ·intro o r';rw[zi,zdl _ _ _ _ _ (zgD hu) (zbf rfl (zbU hu)),h1,zi]
      ·intro o;rw[hd,h2,zi];rfl
      ·intro o r';rw[zi,zdl zpv _ _ _ _ (zgD hu) rfl,h3,zi];rfl
      ·simp;omega
   ·rcases hp:zby c also with _|_
    ·rw[rwS,if_neg hc,zfn rfl hp,if_neg (by decide)] at h;injection h with h1 _
     exact absurd h1 (by decide)
    ·rw[rwS,if_neg hc,zbf rfl hp,if_pos rfl] at h;obtain⟨y,m,rfl,h1,h2,h3,h4⟩:=ih t _ x (by simp at hl;omega) h;refine⟨[c]++y,c::m,by simp,?_,?_,?_,?_⟩
     ·intro o r';rw[zi,zdl _ _ _ _ _ hc (zbf rfl hp),h1,zi]
     ·intro o;rw[rwS,if_neg hc];show (if (0:Int)=0 then rwS zpv 0 t _ else _)=_;rw[if_pos rfl,h2];show (0,(o++[c])++m)=_;rw[zi];rfl
     ·intro o r';rw[zi,zdl zpv _ _ _ _ hc rfl,h3,zi];rfl
     ·simp;omega
theorem zen (l also x:List UInt8) (h:zaD l also=(0,x)):zaD x also=(0,x)/\(∃a,decL l=(0,a)/\decL x=(0,a))/\x.length<=l.length:=by
 unfold zaD zkl at h
 by_cases hlen:16384<l.length
 ·rw[if_pos hlen] at h;injection h with h1 _
  exact absurd h1 (by decide)
 ·rw[if_neg hlen] at h;obtain⟨y,a,rfl,h1,h2,h3,h4⟩:=znD also l.length l [] x (zd _) h;have e1:=h1 [] [];have e3:=h3 [] [];rw[qw,rwS,List.nil_append] at e1 e3;refine⟨?_,⟨a,?_,?_⟩,h4⟩
  ·unfold zaD zkl;rw[if_neg (by omega),e1]
  ·unfold decL zkl;rw[if_neg hlen,h2];rfl
  ·unfold decL zkl;rw[if_neg (by omega),e3]
theorem zcY (add:ziI):∀(l out:List UInt8) (n:Nat),(rwS add n l out).1≠0->(rwS add n l out).2=[]
 | [],out,n=>by intro h;cases n<;>(rw[rwS] at h;exact absurd rfl h)
 | c::l,out,n+1=>by intro h;rw[rwS] at h ⊢;exact zcY add l out n h
 | c::l,out,0=>by
  intro h;rw[rwS] at h ⊢
  split at h
  ·rename_i hc;rw[if_pos hc]
   split at h
   ·rename_i he;rw[if_pos he]
    split at h
    ·rename_i ha;rw[if_pos ha];exact zcY add l _ 2 h
    ·rename_i ha;rw[if_neg ha]
   ·rename_i he;rw[if_neg he]
  ·rename_i hc;rw[if_neg hc]
   split at h
   ·rename_i ha;rw[if_pos ha];exact zcY add l _ 0 h
   ·rename_i ha;rw[if_neg ha]
theorem zic (l also:List UInt8) (h:(zaD l also).1≠0):(zaD l also).2=[]:=by
 unfold zaD zkl at h ⊢
 split
 ·rfl
 ·rename_i hl;rw[if_neg hl] at h;exact zcY _ _ _ _ h
end Go.Proofs.YtomkbafdmbfmfaaGreatDoor
namespace Go.Proofs.YtomkbafdmbfmfaaGreatDoor
open List renaming mem_cons->qo
def okB (also:List UInt8) (c:UInt8):Bool:=c==37||zau c||zby c also
theorem zfL (also:List UInt8):∀(n:Nat) (l out x:List UInt8),l.length<=n->rwS (zdf also) 0 l out=(0,x)->l.all (okB also)=true:=by
 intro n
 induction n with
 | zero=>
  intro l out x hl h;have:l=[]:=List.eq_nil_of_length_eq_zero (by omega);subst this;rfl
 | succ n ih=>
  intro l out x hl h
  cases l with
  | nil=>rfl
  | cons c t=>
   by_cases hc:c=37
   ·rcases he:zdq (c::t) with _|_
    ·rw[rwS,if_pos hc,if_neg (by rw[he];exact Bool.false_ne_true)] at h;injection h with h1 _
     exact absurd h1 (by decide)
    ·obtain⟨a,b,r,rfl⟩:=zeL he;have hab:zau a=true/\zau b=true:=by
      have:(zau a&&zau b)=true:=he;simpa using this
     have hr:∃o2,rwS (zdf also) 0 r o2=(0,x):=by
      rcases hu:za9 (ze9 (c::a::b::r)) with _|_
      ·rw[rwS,if_pos hc,if_pos he,zdO hu,if_pos rfl,zb8] at h;exact⟨_,h⟩
      ·rw[rwS,if_pos hc,if_pos he,zbf (by rw[hu];rfl) (zbU hu),if_pos rfl,zb8] at h;exact⟨_,h⟩
     obtain⟨o2,hr⟩:=hr;have:=ih r o2 x (by simp at hl ⊢;omega) hr;simp[okB,hc,hab.1,hab.2,this]
   ·rcases hp:zby c also with _|_
    ·rw[rwS,if_neg hc,zfn rfl hp,if_neg (by decide)] at h;injection h with h1 _
     exact absurd h1 (by decide)
    ·rw[rwS,if_neg hc,zbf rfl hp,if_pos rfl] at h;have:=ih t _ x (by simp at hl;omega) h;simp[okB,hp,this]
theorem zlM {l also x:List UInt8} (h:zaD l also=(0,x)):l.all (okB also)=true:=by
 unfold zaD zkl at h
 split at h
 ·injection h with h1 _
  exact absurd h1 (by decide)
 ·exact zfL also l.length l [] x (Nat.le_refl _) h
theorem zkc {l also x:List UInt8} (h:zaD l also=(0,x)):l.length<=16384:=by
 unfold zaD zkl at h
 split at h
 ·injection h with h1 _
  exact absurd h1 (by decide)
 ·omega
theorem zdV {l also x:List UInt8} (h:zaD l also=(0,x)):x.all (okB also)=true:=zlM (zen l also x h).1
theorem zbM (c:UInt8):∀(a b:List UInt8),c∉a->zaB c (a++c::b)=(a,b,true)
 | [],b,_=>by simp[zaB]
 | x::a,b,h=>by
  simp only[qo,not_or] at h;rw[List.cons_append,zcr,if_neg (fun e=>h.1 e.symm),zbM c a b h.2]
theorem zcR (c:UInt8):∀(a:List UInt8),c∉a->zaB c a=(a,[],false)
 | [],_=>rfl
 | x::a,h=>by
  simp only[qo,not_or] at h;rw[zcr,if_neg (fun e=>h.1 e.symm),zcR c a h.2]
open Nat renaming reduceAdd -> z6, reduceSub -> z7, reduceLeDiff -> z8, reduceLT -> j4, reduceMul -> j5, reduceEqDiff -> j6
open Int renaming reduceToNat -> j7, reduceAdd -> j8, reduceSub -> j9, reduceMul -> x0, reduceNeg -> x4, reduceLT -> x5, reduceLE -> x6, reduceEq -> x7, reduceNe -> x8
open Go.RowKit Sx
def zge (h:List UInt8) (p:Int):AV:=.agg [.s h,.i .i64 p]
def zkP (h:List UInt8) (p:Int):List UInt8:=if p=0 then h else h++[58]++Lib.itoa p
theorem zhv (h:List UInt8) (p:Int) (h0:-9223372036854775808<=p) (h1:p<=9223372036854775807):(zkP h p).length<=h.length+22:=by
 have:=Lib.itoa_length_le p h0 h1;unfold zkP
 split
 ·omega
 ·simp only[List.length_append,List.length_cons,List.length_nil];omega
theorem zj7 (l:List UInt8):(zel l).2<=65535:=by
 unfold zel
 split
 ·exact zfw 65535 l
 ·exact Nat.zero_le _
theorem hpE_port (l:List UInt8):(hpE l).2.2<=65535:=by
 have:=zj7 (zaB 58 l).2.1;unfold hpE
 repeat' split
 all_goals simp only[Nat.zero_le]
 all_goals omega
section
variable [Tabs Tryz.prog] {objs:List OB} {K:List OB->AV->Prop}
theorem hParse_k (s:List UInt8) (hs:s.length<=maxLen) (hk:K objs (.tup [zge (hpE s).2.1 (hpE s).2.2,.i .i64 (hpE s).1])):zaa Tryz.prog 66 [.s s] objs K :=
 conv (vs:=[.string (S s)]) rfl rfl (fun w=>zpz (S s) w (by rw[zap];exact hs)) hk
theorem zjb (s also:List UInt8) (hk:K objs (.tup [.s (zaD s also).2,.i .i64 (zaD s also).1])):zaa Tryz.prog 226 [.s s,.s also] objs K :=
 conv (vs:=[.string (S s),.string (S also)]) rfl rfl (fun w=>zno (S s) (S also) w) hk
theorem zox [Pow Tryz.prog] (h:List UInt8) (p:Int) (hh:h.length<=200000000000000) (h0:-9223372036854775808<=p) (h1:p<=9223372036854775807) (hk:K objs (.s (zkP h p))):zaa Tryz.prog 67 [zge h p] objs K:=by
 refine zaR is_host_Format rfl fun C _=>?_;have hl:=Lib.itoa_length_le p h0 h1;unfold zkP at hk
 by_cases hp:p=0
 ·rw[if_pos hp] at hk;simp only[zge,hp,c_host_Format,sxZ,z6,z7,z8,j4,j5,j6,j7,j8,j9,x0,x4,x5,x6,x7,x8,reduceCtorEq,↓reduceIte];exact hk
 ·rw[if_neg hp] at hk;simp only[zge,hp,c_host_Format,sxZ,z6,z7,z8,j4,j5,j6,j7,j8,j9,x0,x4,x5,x6,x7,x8,reduceCtorEq,↓reduceIte];refine⟨by omega,?_⟩;refine zbs (itoa_k p h0 h1 ⟨rfl,rfl⟩) ?_;simp only[sxZ,z6,z7,z8,j4,j5,j6,j7,j8,j9,x0,x4,x5,x6,x7,x8,reduceCtorEq,↓reduceIte];exact⟨by omega,hk⟩
theorem zi5 (p:Int) (h0:-9223372036854775808<=p) (h1:p<=9223372036854775807) (hk:K objs (.s (Lib.itoa p))):zaa Tryz.prog 123 [.i .i64 p] objs K:=by
 refine zaR is_ref05_Decimal rfl fun C _=>?_;unfold Lib.itoa at hk
 by_cases hp:p<0
 ·rw[if_pos hp] at hk;have e1:IntKind.u64.wrap (IntKind.u64.wrap (0 - (p+1))+1)=((p.natAbs:Nat):Int):=by
   rw[zbN (0 - (p+1)) (by omega) (by omega),zbN _ (by omega) (by omega)];omega
  simp only[hp,c_ref05_Decimal,sxZ,z6,z7,z8,j4,j5,j6,j7,j8,j9,x0,x4,x5,x6,x7,x8,reduceCtorEq,↓reduceIte];refine⟨⟨by omega,by omega⟩,⟨by omega,by omega⟩,?_⟩;rw[e1];refine zal (zdF p.natAbs (by omega) ?_);have hd:=Lib.nDigits_le20 p.natAbs (by omega);have hl:=Lib.decDigits_length p.natAbs;simp only[sxZ,z6,z7,z8,j4,j5,j6,j7,j8,j9,x0,x4,x5,x6,x7,x8,reduceCtorEq,↓reduceIte];exact⟨by omega,hk⟩
 ·rw[if_neg hp] at hk;have e1:IntKind.u64.wrap p=((p.toNat:Nat):Int):=by
   rw[zbN p (by omega) (by omega)];omega
  simp only[hp,c_ref05_Decimal,sxZ,z6,z7,z8,j4,j5,j6,j7,j8,j9,x0,x4,x5,x6,x7,x8,reduceCtorEq,↓reduceIte];rw[e1];refine zal (zdF p.toNat (by omega) ?_);simp only[sxZ,z6,z7,z8,j4,j5,j6,j7,j8,j9,x0,x4,x5,x6,x7,x8,reduceCtorEq,↓reduceIte];exact hk
theorem zlE (h:List UInt8) (p:Int) (hh:h.length<=200000000000000) (h0:-9223372036854775808<=p) (h1:p<=9223372036854775807) (hk:K objs (.s (zkP h p))):zaa Tryz.prog 64 [zge h p] objs K:=by
 refine zaR is_ref05_Format rfl fun C _=>?_;have hl:=Lib.itoa_length_le p h0 h1;unfold zkP at hk
 by_cases hp:p=0
 ·rw[if_pos hp] at hk;simp only[zge,hp,c_ref05_Format,sxZ,z6,z7,z8,j4,j5,j6,j7,j8,j9,x0,x4,x5,x6,x7,x8,reduceCtorEq,↓reduceIte];exact hk
 ·rw[if_neg hp] at hk;simp only[zge,hp,c_ref05_Format,sxZ,z6,z7,z8,j4,j5,j6,j7,j8,j9,x0,x4,x5,x6,x7,x8,reduceCtorEq,↓reduceIte];refine⟨by omega,?_⟩;refine zbs (zi5 p h0 h1 ⟨rfl,rfl⟩) ?_;simp only[sxZ,z6,z7,z8,j4,j5,j6,j7,j8,j9,x0,x4,x5,x6,x7,x8,reduceCtorEq,↓reduceIte];exact⟨by omega,hk⟩
end
end Go.Proofs.YtomkbafdmbfmfaaGreatDoor
namespace Go.Proofs.YtomkbafdmbfmfaaGreatDoor
open Lib renaming decDigits->qq, lastIndexByte->xf
open List renaming all_eq_true->qf, getD_cons_zero->xo, length_take->qi, mem_cons->qo, mem_cons_of_mem->qx, mem_cons_self->jd
theorem zfO (c x:UInt8):∀l:List UInt8,x∈l->x=c\/∃p∈zbj c l,x∈p
 | [],h=>by cases h
 | y::t,h=>by
  obtain⟨p,ps,e⟩:=zcL c t;rw[zcl,e]
  by_cases hy:y=c
  ·rw[if_pos hy];rcases qo.1 h with rfl|h
   ·exact .inl hy
   ·rcases zfO c x t h with h|⟨q,hq,hx⟩
    ·exact .inl h
    ·exact .inr ⟨q,by rw[<-e];exact qx _ hq,hx⟩
  ·rw[if_neg hy];rcases qo.1 h with rfl|h
   ·exact .inr ⟨_,jd ..,jd ..⟩
   ·rcases zfO c x t h with h|⟨q,hq,hx⟩
    ·exact .inl h
    ·rw[e] at hq;rcases qo.1 hq with rfl|hq
     ·exact .inr ⟨_,jd ..,qx _ hx⟩
     ·exact .inr ⟨q,qx _ hq,hx⟩
theorem zhD {l:List UInt8} (h:zdX l=true):l.all zaf=true:=by
 unfold zdX at h;have h1:=of_decide_eq_true h;unfold zaH at h1
 split at h1
 ·rename_i h2;exact(zcf h2).2
 ·rename_i h2;exact absurd h1 h2
theorem zgG {h:List UInt8} (hh:(zbH h).1=0):∀x∈h,x=46\/lbB x=true:=by
 intro x hx;unfold zbH at hh
 split at hh
 ·cases hh
 ·split at hh
  ·cases hh
  ·split at hh
   ·rename_i h1 h2 h3;rcases zfO 46 x h hx with h4|⟨p,hp,hxp⟩
    ·exact .inl h4
    ·rw[Bool.or_eq_true] at h3;rcases h3 with h3|h3
     ·unfold zc0 at h3;simp only[Bool.and_eq_true,qf] at h3;have:=h3.1 p hp;unfold zco at this;simp only[Bool.and_eq_true,qf] at this;exact .inr (this.2 x hxp)
     ·unfold zd4 ziL at h3;simp only[Bool.and_eq_true,qf] at h3;have:=qf.1 (zhD (h3.2 p hp)) x hxp;exact .inr (by unfold lbB;rw[this];simp)
   ·cases hh
theorem hb256:∀n:Fin 256,(lbB (UInt8.ofNat n.val)=true\/UInt8.ofNat n.val=46)->zc4 (UInt8.ofNat n.val) [58,64,47,63,35]=false:=by decide +kernel
theorem zkJ (c:UInt8) (h:c=46\/lbB c=true):zc4 c [58,64,47,63,35]=false:=by
 have:=hb256 ⟨c.toNat,UInt8.toNat_lt c⟩;simp only[UInt8.ofNat_toNat] at this;exact this h.symm
theorem host_not {h:List UInt8} (hh:(zbH h).1=0) (c:UInt8) (hc:zc4 c [58,64,47,63,35]=true):c∉h:=by
 intro hm;have:=zkJ c (zgG hh c hm);rw[hc] at this;cases this
theorem zkD (n:Nat):Lib.itoa (n:Int)=qq n:=by
 unfold Lib.itoa;rw[if_neg (by omega)];rfl
theorem znk (n:Nat) (h0:n≠0) (h1:n<=65535):zel (qq n)=(0,n):=by
 unfold zel;rw[zlv n 65535 h1,if_pos ⟨rfl,h0⟩]
theorem hp_fmt {h:List UInt8} {n:Nat} (hh:zbH h=(0,h)) (h1:n<=65535) (h2:n≠443):hpE (zkP h n)=(0,h,n):=by
 have hh0:(zbH h).1=0:=by rw[hh]
 have h58:(58:UInt8)∉h:=host_not hh0 58 (by decide);unfold zkP
 by_cases h0:n=0
 ·subst h0;rw[if_pos (show ((0:Nat):Int)=0 from rfl)];unfold hpE;rw[zcR 58 h h58];simp only;rw[hh];simp
 ·rw[if_neg (by omega),zkD];unfold hpE;have:h++[58]++qq n=h++58::qq n:=by simp
  rw[this,zbM 58 h _ h58];simp only;rw[hh,znk n h0 h1,if_neg (by simp),if_neg (by simp),if_neg (by simp),if_neg h2]
theorem hp_again {l h:List UInt8} {n:Nat} (hl:hpE l=(0,h,n)):zbH h=(0,h)/\n<=65535/\n≠443/\h.length<=253/\h.length<=l.length:=by
 have hcl:=(zbo 58 l).1;unfold hpE at hl
 split at hl
 ·rename_i h1;injection hl with h2 _;exact absurd h2 h1
 ·rename_i h1;simp only[Decidable.not_not] at h1;have hho:zbH (zaB 58 l).1=(0,(zbH (zaB 58 l).1).2):=by rw[<-h1]
  obtain⟨k1,k2,k3,_⟩:=zlV hho
  split at hl
  ·injection hl with _ hl
   injection hl with e1 e2
   subst e1 e2;exact⟨k1,by omega,by omega,k3,by omega⟩
  ·split at hl
   ·rename_i h2;injection hl with h3 _;exact absurd h3 h2
   ·injection hl with _ hl
    injection hl with e1 e2
    subst e1;have hp:=zj7 (zaB 58 l).2.1;refine⟨k1,?_,?_,k3,by omega⟩
    ·rw[<-e2];split<;>omega
    ·rw[<-e2];split<;>omega
open Nat renaming reduceAdd -> z6, reduceSub -> z7, reduceLeDiff -> z8, reduceLT -> j4, reduceMul -> j5, reduceEqDiff -> j6
open Int renaming reduceToNat -> j7, reduceAdd -> j8, reduceSub -> j9, reduceMul -> x0, reduceNeg -> x4, reduceLT -> x5, reduceLE -> x6, reduceEq -> x7, reduceNe -> x8
open Go.RowKit Sx
def zcP (u:UriP):List UInt8:=(if u.hs=true then u.scheme++[58] else [])++(if u.ha=true then [47,47]++u.auth else [])++u.path++(if u.hq=true then [63]++u.query else [])++(if u.hf=true then [35]++u.frag else [])
section
variable [Tabs Tryz.prog] {objs:List OB} {K:List OB->AV->Prop}
theorem zle (xs:List (List UInt8)) (hN:xs.length<=140737488355328) (hl:xs.flatten.length<=140737488355328) (hk:K objs (.s xs.flatten)):zaa Tryz.prog 280 [.row xs.length (xs.map .s)] objs K:=by
 refine zdp is_uri_concat fun C _=>?_;simp only[c_uri_concat,sxZ,z6,z7,z8,j4,j5,j6,j7,j8,j9,x0,x4,x5,x6,x7,x8,reduceCtorEq,↓reduceIte];refine zal (zmH xs [] hN (by rw[zil];exact hl) ?_);rw[zil];simp only[sxZ,z6,z7,z8,j4,j5,j6,j7,j8,j9,x0,x4,x5,x6,x7,x8,reduceCtorEq,↓reduceIte];exact hk
theorem zhu (has:Bool) (xs:List (List UInt8)) (hN:xs.length<=140737488355328) (hl:has=true->xs.flatten.length<=140737488355328) (hk:K objs (.s (if has=true then xs.flatten else []))):zaa Tryz.prog 281 [.b has,.row xs.length (xs.map .s)] objs K:=by
 refine zdp is_uri_given fun C _=>?_
 cases has
 ·simp only[c_uri_given,sxZ,z6,z7,z8,j4,j5,j6,j7,j8,j9,x0,x4,x5,x6,x7,x8,reduceCtorEq,↓reduceIte];exact hk
 ·simp only[c_uri_given,sxZ,z6,z7,z8,j4,j5,j6,j7,j8,j9,x0,x4,x5,x6,x7,x8,reduceCtorEq,↓reduceIte];refine zal (zle xs hN (hl rfl) ?_);simp only[sxZ,z6,z7,z8,j4,j5,j6,j7,j8,j9,x0,x4,x5,x6,x7,x8,reduceCtorEq,↓reduceIte];exact hk
theorem uJoin_k (u:UriP) (hl:(zcP u).length<=140737488355328) (hk:K objs (.s (zcP u))):zaa Tryz.prog 247 [zbh u] objs K:=by
 obtain⟨s,a,p,q,f,hs,ha,hq,hf⟩:=u;simp only[zcP] at hl hk;refine zaR is_uri_Join rfl fun C _=>?_;simp only[zbh,c_uri_Join,sxZ,z6,z7,z8,j4,j5,j6,j7,j8,j9,x0,x4,x5,x6,x7,x8,reduceCtorEq,↓reduceIte];refine zbs (zhu hs [s,[58]] (by simp) (fun e=>by subst e;simp at hl ⊢;omega) ⟨rfl,rfl⟩) ?_;simp only[sxZ,z6,z7,z8,j4,j5,j6,j7,j8,j9,x0,x4,x5,x6,x7,x8,reduceCtorEq,↓reduceIte];refine zbs (zhu ha [[47,47],a] (by simp) (fun e=>by subst e;simp at hl ⊢;omega) ⟨rfl,rfl⟩) ?_;simp only[sxZ,z6,z7,z8,j4,j5,j6,j7,j8,j9,x0,x4,x5,x6,x7,x8,reduceCtorEq,↓reduceIte];refine zbs (zhu hq [[63],q] (by simp) (fun e=>by subst e;simp at hl ⊢;omega) ⟨rfl,rfl⟩) ?_;simp only[sxZ,z6,z7,z8,j4,j5,j6,j7,j8,j9,x0,x4,x5,x6,x7,x8,reduceCtorEq,↓reduceIte];refine zbs (zhu hf [[35],f] (by simp) (fun e=>by subst e;simp at hl ⊢;omega) ⟨rfl,rfl⟩) ?_;simp only[sxZ,z6,z7,z8,j4,j5,j6,j7,j8,j9,x0,x4,x5,x6,x7,x8,reduceCtorEq,↓reduceIte];have e:[if hs=true then [s,[58]].flatten else [],if ha=true then [[47,47],a].flatten else [],p,if hq=true then [[63],q].flatten else [],if hf=true then [[35],f].flatten else []].flatten=(if hs=true then s++[58] else [])++(if ha=true then [47,47]++a else [])++p++(if hq=true then [63]++q else [])++(if hf=true then [35]++f else []):=by simp
 refine zbs (zle [if hs=true then [s,[58]].flatten else [],if ha=true then [[47,47],a].flatten else [],p,if hq=true then [[63],q].flatten else [],if hf=true then [[35],f].flatten else []] (by simp) (by rw[e];exact hl) ⟨rfl,rfl⟩) ?_;rw[e];simp only[sxZ,z6,z7,z8,j4,j5,j6,j7,j8,j9,x0,x4,x5,x6,x7,x8,reduceCtorEq,↓reduceIte];exact hk
end
def keepL (p:List UInt8):List UInt8:=p.take (xf (S p) 47+1).toNat
def zfN (b:UriP) (r:List UInt8):List UInt8:=if b.ha=true/\b.path=[] then 47::r else keepL b.path++r
theorem znL (p:List UInt8):(xf (S p) 47=-1/\∀j (h:j<p.length),p[j]≠47)\/(∃i:Nat,∃h:i<p.length,xf (S p) 47=i/\p[i]=47/\∀j (h:j<p.length),i<j->p[j]≠47):=by
 have key:∀j (h:j<p.length),(((S p).data[j]!).toNat:Int)=47↔p[j]=47:=by
  intro j h;have:(S p).data[j]! = p[j]:=by
   show (p.toArray)[j]! = p[j];simp[h]
  rw[this]
  constructor
  ·intro e;have:p[j].toNat=47:=by omega
   exact UInt8.toNat_inj.1 this
  ·intro e;rw[e];rfl
 rcases Lib.lastIndexByte_spec (S p) 47 with ⟨h1,h2⟩|⟨i,h1,h2,h3,h4⟩
 ·refine .inl ⟨h1,fun j h e=>h2 j (by rw[zap];exact h) ((key j h).2 e)⟩
 ·rw[zap] at h1;exact .inr ⟨i,h1,h2,(key i h1).1 h3,fun j h hij e=>h4 j hij (by rw[zap];exact h) ((key j h).2 e)⟩
theorem last_le (p:List UInt8):-1<=xf (S p) 47/\xf (S p) 47<p.length\/p=[]/\xf (S p) 47=-1:=by
 rcases znL p with ⟨h1,h2⟩|⟨i,h1,h2,_⟩
 ·cases p with
  | nil=>exact .inr ⟨rfl,h1⟩
  | cons x p=>left;rw[h1];simp;omega
 ·left;omega
section
variable [Tabs Tryz.prog] {objs:List OB} {K:List OB->AV->Prop}
theorem merge_k (b:UriP) (r:List UInt8) (hb:b.path.length<=1000000) (hr:r.length<=1000000) (hk:K objs (.s (zfN b r))):zaa Tryz.prog 279 [zbh b,.s r] objs K:=by
 refine zaR is_uri_merge rfl fun C _=>?_;have hl:=last_le b.path
 by_cases h:b.ha=true/\b.path=[]
 ·rw[zfN,if_pos h] at hk;simp only[zbh,h.1,h.2,c_uri_merge,sxZ,z6,z7,z8,j4,j5,j6,j7,j8,j9,x0,x4,x5,x6,x7,x8,reduceCtorEq,↓reduceIte];exact⟨by omega,hk⟩
 ·rw[zfN,if_neg h] at hk;unfold keepL at hk;have hle:(b.path.take (xf (S b.path) 47+1).toNat).length<=b.path.length:=by rw[qi];omega
  by_cases h1:b.ha=true
  ·have h2:b.path≠[]:=fun e=>h ⟨h1,e⟩;simp only[zbh,h1,h2,c_uri_merge,sxZ,z6,z7,z8,j4,j5,j6,j7,j8,j9,x0,x4,x5,x6,x7,x8,reduceCtorEq,↓reduceIte];refine zbs (zii b.path 47 (by omega) ⟨rfl,rfl⟩) ?_;simp only[sxZ,z6,z7,z8,j4,j5,j6,j7,j8,j9,x0,x4,x5,x6,x7,x8,reduceCtorEq,↓reduceIte];exact⟨by omega,by omega,by omega,hk⟩
  ·simp only[zbh,h1,c_uri_merge,sxZ,z6,z7,z8,j4,j5,j6,j7,j8,j9,x0,x4,x5,x6,x7,x8,reduceCtorEq,↓reduceIte];refine zbs (zii b.path 47 (by omega) ⟨rfl,rfl⟩) ?_;simp only[sxZ,z6,z7,z8,j4,j5,j6,j7,j8,j9,x0,x4,x5,x6,x7,x8,reduceCtorEq,↓reduceIte];exact⟨by omega,by omega,by omega,hk⟩
end
def zaK (b r:UriP):UriP :=
 if r.hs=true then { r with path:=za8 r.path }
 else if r.ha=true then { r with scheme:=b.scheme,hs:=b.hs,path:=za8 r.path }
 else if r.path=[] then { scheme:=b.scheme,hs:=b.hs,auth:=b.auth,ha:=b.ha,path:=b.path,query:=if r.hq=true then r.query else b.query,hq:=if r.hq=true then r.hq else b.hq,frag:=r.frag,hf:=r.hf }
 else { scheme:=b.scheme,hs:=b.hs,auth:=b.auth,ha:=b.ha,path:=if r.path.head? = some 47 then za8 r.path else za8 (zfN b r.path),query:=r.query,hq:=r.hq,frag:=r.frag,hf:=r.hf }
theorem zgB (b:UriP) (r:List UInt8):(zfN b r).length<=b.path.length+r.length+1:=by
 unfold zfN keepL
 split
 ·simp
 ·simp only[List.length_append,qi];omega
section
variable [Tabs Tryz.prog] {objs:List OB} {K:List OB->AV->Prop}
theorem zls (b r:UriP) (hb:b.path.length<=400000) (hr:r.path.length<=400000) (hk:K objs (zbh (zaK b r))):zaa Tryz.prog 246 [zbh b,zbh r] objs K:=by
 refine zaR is_uri_Resolve rfl fun C _=>?_
 by_cases h1:r.hs=true
 ·simp only[zaK,h1,if_true,zbh] at hk;simp only[zbh,h1,c_uri_Resolve,sxZ,z6,z7,z8,j4,j5,j6,j7,j8,j9,x0,x4,x5,x6,x7,x8,reduceCtorEq,↓reduceIte];refine zal (zft _ (by omega) ?_);simp only[sxZ,z6,z7,z8,j4,j5,j6,j7,j8,j9,x0,x4,x5,x6,x7,x8,reduceCtorEq,↓reduceIte];exact hk
 ·by_cases h2:r.ha=true
  ·simp only[zaK,h1,h2,if_true,if_false,zbh,Bool.false_eq_true] at hk;simp only[zbh,h1,h2,c_uri_Resolve,sxZ,z6,z7,z8,j4,j5,j6,j7,j8,j9,x0,x4,x5,x6,x7,x8,reduceCtorEq,↓reduceIte];refine zal (zft _ (by omega) ?_);simp only[sxZ,z6,z7,z8,j4,j5,j6,j7,j8,j9,x0,x4,x5,x6,x7,x8,reduceCtorEq,↓reduceIte];exact hk
  ·by_cases h3:r.path=[]
   ·by_cases h4:r.hq=true
    ·simp only[zaK,h1,h2,h3,h4,if_true,if_false,zbh] at hk;simp only[zbh,h1,h2,h3,h4,c_uri_Resolve,sxZ,z6,z7,z8,j4,j5,j6,j7,j8,j9,x0,x4,x5,x6,x7,x8,reduceCtorEq,↓reduceIte];exact hk
    ·simp only[zaK,h1,h2,h3,h4,if_true,if_false,zbh] at hk;simp only[zbh,h1,h2,h3,h4,c_uri_Resolve,sxZ,z6,z7,z8,j4,j5,j6,j7,j8,j9,x0,x4,x5,x6,x7,x8,reduceCtorEq,↓reduceIte];exact hk
   ·obtain⟨x,xs,hx⟩:∃x xs,r.path=x::xs:=by
     cases hp:r.path with
     | nil=>exact absurd hp h3
     | cons x xs=>exact⟨x,xs,rfl⟩
    by_cases h5:x=47
    ·subst h5;simp only[zaK,h1,h2,h3,hx,List.head?_cons,if_true,if_false,zbh,reduceCtorEq] at hk;simp only[zbh,h1,h2,hx,c_uri_Resolve,sxZ,z6,z7,z8,j4,j5,j6,j7,j8,j9,x0,x4,x5,x6,x7,x8,reduceCtorEq,↓reduceIte,xo];refine⟨by omega,?_⟩;have e47:(((47:UInt8).toNat:Nat):Int)=47:=rfl;simp only[e47,sxZ,z6,z7,z8,j4,j5,j6,j7,j8,j9,x0,x4,x5,x6,x7,x8,reduceCtorEq,↓reduceIte];refine zal (zft _ (by rw[<-hx];omega) ?_);simp only[sxZ,z6,z7,z8,j4,j5,j6,j7,j8,j9,x0,x4,x5,x6,x7,x8,reduceCtorEq,↓reduceIte];exact hk
    ·have hhd:(r.path.head? = some 47)=False:=by rw[hx];simp[h5]
     simp only[zaK,h1,h2,h3,hhd,if_true,if_false,zbh,Bool.false_eq_true] at hk;simp only[zbh,h1,h2,hx,c_uri_Resolve,sxZ,z6,z7,z8,j4,j5,j6,j7,j8,j9,x0,x4,x5,x6,x7,x8,reduceCtorEq,↓reduceIte,xo];refine⟨by omega,?_⟩;have e47:¬((x.toNat:Nat):Int)=47:=fun e=>h5 (UInt8.toNat_inj.1 (by have:(47:UInt8).toNat=47:=rfl;omega));simp only[e47,sxZ,z6,z7,z8,j4,j5,j6,j7,j8,j9,x0,x4,x5,x6,x7,x8,reduceCtorEq,↓reduceIte];have hml:=zgB b r.path;rw[<-hx];refine zal (merge_k b r.path (by omega) (by omega) ?_);simp only[sxZ,z6,z7,z8,j4,j5,j6,j7,j8,j9,x0,x4,x5,x6,x7,x8,reduceCtorEq,↓reduceIte];refine zal (zft _ (by omega) ?_);simp only[sxZ,z6,z7,z8,j4,j5,j6,j7,j8,j9,x0,x4,x5,x6,x7,x8,reduceCtorEq,↓reduceIte];exact hk
end
end Go.Proofs.YtomkbafdmbfmfaaGreatDoor
namespace Go.Proofs.YtomkbafdmbfmfaaGreatDoor
open List renaming append_assoc->zi, append_nil->qw, length_append->zg, length_cons->ze, length_nil->zk, take_append_drop->x9
theorem zhC (c:UInt8):∀l:List UInt8,l=(zaB c l).1++(if (zaB c l).2.2=true then [c]++(zaB c l).2.1 else [])
 | []=>rfl
 | x::t=>by
  have ih:=zhC c t;rw[zcr]
  by_cases hx:x=c
  ·subst hx;simp
  ·rw[if_neg hx];show x::t=x::((zaB c t).1++_);rw[<-ih]
theorem sch_join (l:List UInt8) (h:(zaB 58 (zaF l)).2.2=true):l=(zaB 58 (zaF l)).1++[58]++l.drop ((zaB 58 (zaF l)).1.length+1):=by
 have sx:=zmF l
 by_cases hk:∃hk:zfh l [58,47]<l.length,l[zfh l [58,47]]=58
 ·obtain⟨h1,h2⟩:=hk;obtain⟨q1,q2,_⟩:=sx.1 h1 h2;rw[q2]
  conv=>lhs;rw[<-x9 (zfh l [58,47]) l,List.drop_eq_getElem_cons h1,h2]
  rw[<-q1];simp
 ·have:=sx.2 (fun h1 h2=>hk ⟨h1,h2⟩);rw[h] at this;cases this
theorem zos (r:List UInt8):r=(if zeb r=true then [47,47]++zcc r else [])++zcZ r:=by
 by_cases h:zeb r=true
 ·have ea:zcc r=zaF (r.drop 2):=by unfold zcc;rw[if_pos h]
  have eb:zcZ r=(r.drop 2).drop (zcc r).length:=by unfold zcZ;rw[if_pos h]
  rw[if_pos h,eb];have hp:[47,47]++r.drop 2=r:=by
   have:=List.isPrefixOf_iff_prefix.1 (show Lib.hasPrefix r [47,47]=true from h);obtain⟨t,rfl⟩:=this;simp
  have hf:=(zbL (r.drop 2)).1;have:zcc r++(r.drop 2).drop (zcc r).length=r.drop 2:=by
   rw[ea]
   conv=>lhs;lhs;rw[hf]
   exact x9 _ _
  rw[zi,this,hp]
 ·unfold zcZ;rw[if_neg h,if_neg h];simp
theorem zgo (s:List UInt8) (h:(zai s).1=0):zcP (zai s).2=s:=by
 unfold zai at h ⊢
 split
 ·rename_i h1;rw[if_pos h1] at h;cases h
 ·rename_i h1;rw[if_neg h1] at h
  split
  ·rename_i h2;rw[if_pos h2] at h;cases h
  ·rename_i h2;clear h h2 h1;unfold zcP;simp only;have e1:=zhC 35 s;have e2:=zhC 63 (zaB 35 s).1;have e3:=zos (zde s);have e4:zhE s=(if (za3 s).2.2=true then (za3 s).1++[58] else [])++zde s:=by
    unfold zde
    by_cases h:(za3 s).2.2=true
    ·rw[if_pos h,if_pos h];exact sch_join (zhE s) h
    ·rw[if_neg h,if_neg h];rfl
   have e5:(if (za3 s).2.2=true then (if (za3 s).2.2=true then (za3 s).1 else [])++[58] else [])=(if (za3 s).2.2=true then (za3 s).1++[58] else []):=by split<;>rfl
   rw[e5,zi (if (za3 s).2.2=true then (za3 s).1++[58] else []),<-e3,<-e4];show (zaB 63 (zaB 35 s).1).1++_++_=s;rw[<-e2,<-e1]
theorem zmz (s:List UInt8) (h:(zai s).1≠0):(zai s).2=zgb:=by
 unfold zai at h ⊢
 split
 ·rfl
 ·rename_i h1;rw[if_neg h1] at h
  split
  ·rfl
  ·rename_i h2;rw[if_neg h2] at h;exact absurd rfl h
open Nat renaming reduceAdd -> z6, reduceSub -> z7, reduceLeDiff -> z8, reduceLT -> j4, reduceMul -> j5, reduceEqDiff -> j6
open Int renaming reduceToNat -> j7, reduceAdd -> j8, reduceSub -> j9, reduceMul -> x0, reduceNeg -> x4, reduceLT -> x5, reduceLE -> x6, reduceEq -> x7, reduceNe -> x8
structure UrlP where
 host:List UInt8
 port:Int
 path:List UInt8
 query:List UInt8
 frag:List UInt8
 hq:Bool
 hf:Bool
def zbS:UrlP:=⟨[],0,[],[],[],false,false⟩
def zbG:List UInt8:=[104,116,116,112,115]
def zaz:List UInt8:=[33,36,38,39,40,41,42,43,44,59,61,58,64,47]
def zat:List UInt8:=[33,36,38,39,40,41,42,43,44,59,61,58,64,47,63]
def zbE (u:UrlP):List UInt8:=if u.hq=true then u.path++[63]++u.query else u.path
def zcz (u:UrlP):List UInt8:=[104,116,116,112,115,58,47,47]++zkP u.host u.port++zbE u++(if u.hf=true then [35]++u.frag else [])
def zaC (p:UriP):Int×List UInt8×Nat :=
 if p.hs=false then (60,[],0)
 else if eqL p.scheme zbG=false then (60,[],0)
 else if p.ha=false then (71,[],0)
 else if (zaB 64 p.auth).2.2=true then (70,[],0)
 else hpE p.auth
def zcE (l:List UInt8):List UInt8:=if za8 l=[] then [47] else za8 l
def zcn (p:UriP):Int×UrlP :=
 if (zaD p.path zaz).1≠0 then ((zaD p.path zaz).1,zbS)
 else if (zaD p.query zat).1≠0 then ((zaD p.query zat).1,zbS)
 else if (zaD p.frag zat).1≠0 then ((zaD p.frag zat).1,zbS)
 else (0,⟨[],0,zcE (zaD p.path zaz).2,(zaD p.query zat).2,(zaD p.frag zat).2,p.hq,p.hf⟩)
def zhP (h:List UInt8) (n:Nat) (u:UrlP):UrlP:=⟨h,n,u.path,u.query,u.frag,u.hq,u.hf⟩
def webF (u:UrlP):Int×UrlP:=if 4096<(zcz u).length then (5,zbS) else (0,u)
def webO (p:UriP):Int×UrlP :=
 if (zaC p).1≠0 then ((zaC p).1,zbS)
 else if (zcn p).1≠0 then ((zcn p).1,zbS)
 else webF (zhP (zaC p).2.1 (zaC p).2.2 (zcn p).2)
def ziJ (s:List UInt8):Int×UrlP :=
 if 4096<s.length then (5,zbS)
 else if (zai s).1≠0 then ((zai s).1,zbS)
 else webO (zai s).2
instance:DecidableEq UrlP:=fun a b=>
 decidable_of_iff (a.host=b.host/\a.port=b.port/\a.path=b.path/\a.query=b.query/\a.frag=b.frag/\a.hq=b.hq/\a.hf=b.hf) (by
  cases a;cases b;simp)
def zch (u:UrlP):Bool:=decide ((ziJ (zcz u)).1=0)&&decide ((ziJ (zcz u)).2=u)
def relW (b:UrlP) (r:List UInt8):Int×UrlP :=
 if zch b=false then (8,zbS)
 else if (zai r).1≠0 then ((zai r).1,zbS)
 else if eqL (zaK (zai (zcz b)).2 (zai r).2).scheme zbG=false then (253,zbS)
 else ziJ (zcP (zaK (zai (zcz b)).2 (zai r).2))
theorem zeC (s:List UInt8):(zai s).2.scheme.length<=s.length/\(zai s).2.auth.length<=s.length/\(zai s).2.path.length<=s.length/\(zai s).2.query.length<=s.length/\(zai s).2.frag.length<=s.length:=by
 by_cases h:(zai s).1=0
 ·have hj:=congrArg List.length (zgo s h);have hsch:(zai s).2.hs=false->(zai s).2.scheme=[]:=by
   unfold zai
   split
   ·intro _;rfl
   ·split
    ·intro _;rfl
    ·intro h1;simp only at h1 ⊢;rw[if_neg (by rw[h1];exact Bool.false_ne_true)]
  have hau:(zai s).2.ha=false->(zai s).2.auth=[]:=by
   unfold zai
   split
   ·intro _;rfl
   ·split
    ·intro _;rfl
    ·intro h1;simp only at h1 ⊢;unfold zcc;rw[if_neg (by rw[h1];exact Bool.false_ne_true)]
  have hqu:(zai s).2.hq=false->(zai s).2.query=[]:=by
   unfold zai
   split
   ·intro _;rfl
   ·split
    ·intro _;rfl
    ·intro h1;simp only at h1 ⊢;exact((zdK 63 _).2.2 h1).2
  have hfr:(zai s).2.hf=false->(zai s).2.frag=[]:=by
   unfold zai
   split
   ·intro _;rfl
   ·split
    ·intro _;rfl
    ·intro h1;simp only at h1 ⊢;exact((zdK 35 _).2.2 h1).2
  revert hj hsch hau hqu hfr
  generalize (zai s).2=u;obtain⟨a,b,c,d,e,b1,b2,b3,b4⟩:=u;intro hj hsch hau hqu hfr;simp only[zcP] at hj hsch hau hqu hfr ⊢;simp only[zg] at hj;have e1:a.length<=(if b1=true then a++[58] else []).length:=by
   cases b1
   ·rw[hsch rfl];simp
   ·simp
  have e2:b.length<=(if b2=true then [47,47]++b else []).length:=by
   cases b2
   ·rw[hau rfl];simp
   ·simp;omega
  have e3:d.length<=(if b3=true then [63]++d else []).length:=by
   cases b3
   ·rw[hqu rfl];simp
   ·simp
  have e4:e.length<=(if b4=true then [35]++e else []).length:=by
   cases b4
   ·rw[hfr rfl];simp
   ·simp
  omega
 ·rw[zmz s h];simp[zgb]
theorem zhk (l also:List UInt8):(zaD l also).2.length<=l.length/\(zaD l also).2.length<=16384:=by
 by_cases h:(zaD l also).1=0
 ·have e:zaD l also=(0,(zaD l also).2):=by rw[<-h]
  have h1:=(zen l also _ e).2.2;have h2:=zkc e;omega
 ·rw[zic l also h];simp
theorem zo9:∀(n:Nat) (i o:List UInt8),(zhz n i o).length<=o.length+i.length:=by
 intro n
 induction n with
 | zero=>intro i o;show o.length<=_;omega
 | succ n ih=>
  intro i o;unfold zhz
  split
  ·omega
  ·have:=ih (zaw i o).1 (zaw i o).2;have h2:=za0 (i:=i) (o:=o);omega
theorem zfG (l:List UInt8):(za8 l).length<=l.length:=by
 have h:=zo9 l.length l [];rw[zk,Nat.zero_add] at h;exact h
theorem zjc (p:UriP):(zaC p).2.2<=65535:=by
 have:=hpE_port p.auth;unfold zaC
 repeat' split
 all_goals first
  | exact this
  | exact Nat.zero_le _
theorem hpE_len (l:List UInt8):(hpE l).2.1.length<=253:=by
 have hh:∀q:List UInt8,(zbH q).2.length<=253:=by
  intro q;unfold zbH
  repeat' split
  all_goals first
   | exact Nat.zero_le _
   | (show (zbm q).length<=253;rw[zd2];omega)
 unfold hpE
 repeat' split
 all_goals first
  | exact hh _
  | simp
theorem zlK (p:UriP):(zaC p).2.1.length<=253:=by
 have:=hpE_len p.auth;unfold zaC
 repeat' split
 all_goals first
  | exact this
  | simp
theorem ziZ (l:List UInt8):(zcE l).length<=l.length+1:=by
 have:=zfG l;unfold zcE
 split
 ·simp
 ·omega
theorem zm3 (p:UriP):(zcn p).2.path.length<=16385/\(zcn p).2.query.length<=16384/\(zcn p).2.frag.length<=16384:=by
 have h1:=zhk p.path zaz;have h2:=zhk p.query zat;have h3:=zhk p.frag zat;have h4:=ziZ (zaD p.path zaz).2;unfold zcn
 repeat' split
 all_goals simp[zbS]
 omega
theorem zez (u:UrlP):(zbE u).length<=u.path.length+u.query.length+1:=by
 unfold zbE
 split
 ·simp only[zg,ze,zk];omega
 ·omega
theorem fmtW_len (u:UrlP) (h0:-9223372036854775808<=u.port) (h1:u.port<=9223372036854775807):(zcz u).length<=u.host.length+u.path.length+u.query.length+u.frag.length+40:=by
 have h2:=zhv u.host u.port h0 h1;have h3:=zez u;unfold zcz;simp only[zg,ze,zk]
 split
 ·simp only[zg,ze,zk];omega
 ·simp only[zk];omega
open Go.RowKit Sx
def zaM (u:UrlP):AV:=.agg [.s u.host,.i .i64 u.port,.s u.path,.s u.query,.s u.frag,.b u.hq,.b u.hf]
theorem urlAV_z:zaM zbS=.agg [.s [],.i .i64 0,.s [],.s [],.s [],.b false,.b false]:=rfl
theorem has_cut (l:List UInt8) (c:UInt8):decide (0<=Lib.indexByte l c)=(zaB c l).2.2:=by
 rcases zbR c l with ⟨h1,h2,_⟩|⟨k,h1,_,h2,_⟩
 ·rw[h1,h2];rfl
 ·rw[h1,h2];simp
section
variable [Tabs Tryz.prog] {objs:List OB} {K:List OB->AV->Prop}
theorem zhM (u:UrlP) (h1:u.path.length<=200000000000000) (h2:u.query.length<=200000000000000) (hk:K objs (.s (zbE u))):zaa Tryz.prog 44 [zaM u] objs K:=by
 refine zaR is_weburl_Target rfl fun C _=>?_;unfold zbE at hk
 by_cases h:u.hq=true
 all_goals simp only[h,if_true,if_false,Bool.false_eq_true] at hk
 all_goals simp only[zaM,h,c_weburl_Target,sxZ,z6,z7,z8,j4,j5,j6,j7,j8,j9,x0,x4,x5,x6,x7,x8,reduceCtorEq,↓reduceIte]
 all_goals first
  | exact hk
  | exact⟨by omega,by omega,hk⟩
theorem zlB (u:UrlP) (h1:u.path.length<=200000000000000) (h2:u.query.length<=200000000000000) (hk:K objs (.s (zbE u))):zaa Tryz.prog 65 [zaM u] objs K:=by
 refine zaR is_ref07_Target rfl fun C _=>?_;unfold zbE at hk
 by_cases h:u.hq=true
 all_goals simp only[h,if_true,if_false,Bool.false_eq_true] at hk
 all_goals simp only[zaM,h,c_ref07_Target,sxZ,z6,z7,z8,j4,j5,j6,j7,j8,j9,x0,x4,x5,x6,x7,x8,reduceCtorEq,↓reduceIte]
 all_goals first
  | exact hk
  | exact⟨by omega,by omega,hk⟩
theorem zhN (u:UrlP) (hk:K objs (zge u.host u.port)):zaa Tryz.prog 43 [zaM u] objs K:=by
 refine zaR is_weburl_Origin rfl fun C _=>?_;simp only[zaM,c_weburl_Origin,sxZ,z6,z7,z8,j4,j5,j6,j7,j8,j9,x0,x4,x5,x6,x7,x8,reduceCtorEq,↓reduceIte];exact hk
theorem zlC (u:UrlP) (hk:K objs (zge u.host u.port)):zaa Tryz.prog 60 [zaM u] objs K:=by
 refine zaR is_ref07_Origin rfl fun C _=>?_;simp only[zaM,c_ref07_Origin,sxZ,z6,z7,z8,j4,j5,j6,j7,j8,j9,x0,x4,x5,x6,x7,x8,reduceCtorEq,↓reduceIte];exact hk
def zbk (u:UrlP):Prop:=u.host.length<=1000000/\-9223372036854775808<=u.port/\u.port<=9223372036854775807/\u.path.length<=1000000/\u.query.length<=1000000/\u.frag.length<=1000000
theorem zfq [Pow Tryz.prog] (u:UrlP) (hu:zbk u) (hk:K objs (.s (zcz u))):zaa Tryz.prog 103 [zaM u] objs K:=by
 obtain⟨h1,h2,h3,h4,h5,h6⟩:=hu;have t1:=zhv u.host u.port h2 h3;have t2:=zez u;refine zaR is_weburl_Format rfl fun C _=>?_;unfold zcz at hk;simp only[zaM,c_weburl_Format,sxZ,z6,z7,z8,j4,j5,j6,j7,j8,j9,x0,x4,x5,x6,x7,x8,reduceCtorEq,↓reduceIte];refine zbs (zhN u ⟨rfl,rfl⟩) ?_;simp only[zge,sxZ,z6,z7,z8,j4,j5,j6,j7,j8,j9,x0,x4,x5,x6,x7,x8,reduceCtorEq,↓reduceIte];refine zbs (zox u.host u.port (by omega) h2 h3 ⟨rfl,rfl⟩) ?_;simp only[sxZ,z6,z7,z8,j4,j5,j6,j7,j8,j9,x0,x4,x5,x6,x7,x8,reduceCtorEq,↓reduceIte];refine⟨by omega,?_⟩;refine zbs (zhM u (by omega) (by omega) ⟨rfl,rfl⟩) ?_;simp only[sxZ,z6,z7,z8,j4,j5,j6,j7,j8,j9,x0,x4,x5,x6,x7,x8,reduceCtorEq,↓reduceIte]
 by_cases h:u.hf=true
 ·simp only[h,if_true,if_false,Bool.false_eq_true,qw] at hk;simp only[h,sxZ,z6,z7,z8,j4,j5,j6,j7,j8,j9,x0,x4,x5,x6,x7,x8,reduceCtorEq,↓reduceIte];exact⟨by omega,by omega,by omega,by simpa using hk⟩
 ·simp only[h,if_true,if_false,Bool.false_eq_true,qw] at hk;simp only[h,sxZ,z6,z7,z8,j4,j5,j6,j7,j8,j9,x0,x4,x5,x6,x7,x8,reduceCtorEq,↓reduceIte];exact⟨by omega,by simpa using hk⟩
theorem zlD (u:UrlP) (hu:zbk u) (hk:K objs (.s (zcz u))):zaa Tryz.prog 29 [zaM u] objs K:=by
 obtain⟨h1,h2,h3,h4,h5,h6⟩:=hu;have t1:=zhv u.host u.port h2 h3;have t2:=zez u;refine zaR is_ref07_Format rfl fun C _=>?_;unfold zcz at hk;simp only[zaM,c_ref07_Format,sxZ,z6,z7,z8,j4,j5,j6,j7,j8,j9,x0,x4,x5,x6,x7,x8,reduceCtorEq,↓reduceIte];refine zbs (zlC u ⟨rfl,rfl⟩) ?_;simp only[zge,sxZ,z6,z7,z8,j4,j5,j6,j7,j8,j9,x0,x4,x5,x6,x7,x8,reduceCtorEq,↓reduceIte];refine zbs (zlE u.host u.port (by omega) h2 h3 ⟨rfl,rfl⟩) ?_;simp only[sxZ,z6,z7,z8,j4,j5,j6,j7,j8,j9,x0,x4,x5,x6,x7,x8,reduceCtorEq,↓reduceIte];refine⟨by omega,?_⟩;refine zbs (zlB u (by omega) (by omega) ⟨rfl,rfl⟩) ?_;simp only[sxZ,z6,z7,z8,j4,j5,j6,j7,j8,j9,x0,x4,x5,x6,x7,x8,reduceCtorEq,↓reduceIte]
 by_cases h:u.hf=true
 ·simp only[h,if_true,if_false,Bool.false_eq_true,qw] at hk;simp only[h,sxZ,z6,z7,z8,j4,j5,j6,j7,j8,j9,x0,x4,x5,x6,x7,x8,reduceCtorEq,↓reduceIte];exact⟨by omega,by omega,by omega,by simpa using hk⟩
 ·simp only[h,if_true,if_false,Bool.false_eq_true,qw] at hk;simp only[h,sxZ,z6,z7,z8,j4,j5,j6,j7,j8,j9,x0,x4,x5,x6,x7,x8,reduceCtorEq,↓reduceIte];exact⟨by omega,by simpa using hk⟩
theorem zeX (s:List UInt8) (c:UInt8) (hk:K objs (.b (zaB c s).2.2)):zaa Tryz.prog 225 [.s s,.s [c]] objs K:=by
 rw[<-has_cut] at hk;exact conv (vs:=[.string (S s),.string (S [c])]) rfl rfl (fun w=>(Tryz.strings_Contains_one (S s) c w).mono fun e w' ⟨h1,h2⟩=>⟨h1,Qb.rev h2⟩) hk
theorem zlq (p:UriP) (h1:p.scheme.length<=1000000) (h2:p.auth.length<=1000000) (hk:K objs (.tup [zge (zaC p).2.1 (zaC p).2.2,.i .i64 (zaC p).1])):zaa Tryz.prog 168 [zbh p] objs K:=by
 have hm:maxLen=2 ^ 63 - 1:=rfl;refine zaR is_weburl_parseOrigin rfl fun C _=>?_;unfold zaC at hk
 by_cases c1:p.hs=true
 ·by_cases c2:eqL p.scheme zbG=true
  ·by_cases c3:p.ha=true
   ·by_cases c4:(zaB 64 p.auth).2.2=true
    ·simp only[c1,c2,c3,c4,if_true,if_false,Bool.true_eq_false,zge] at hk;simp only[zbh,c1,c3,c_weburl_parseOrigin,sxZ,z6,z7,z8,j4,j5,j6,j7,j8,j9,x0,x4,x5,x6,x7,x8,reduceCtorEq,↓reduceIte];refine zal (zdQ p.scheme zbG (by omega) (by decide) ?_);simp only[c2,sxZ,z6,z7,z8,j4,j5,j6,j7,j8,j9,x0,x4,x5,x6,x7,x8,reduceCtorEq,↓reduceIte];refine zal (zeX p.auth 64 ?_);simp only[c4,sxZ,z6,z7,z8,j4,j5,j6,j7,j8,j9,x0,x4,x5,x6,x7,x8,reduceCtorEq,↓reduceIte];exact hk
    ·simp only[c1,c2,c3,c4,if_true,if_false,Bool.true_eq_false,zge] at hk;simp only[zbh,c1,c3,c_weburl_parseOrigin,sxZ,z6,z7,z8,j4,j5,j6,j7,j8,j9,x0,x4,x5,x6,x7,x8,reduceCtorEq,↓reduceIte];refine zal (zdQ p.scheme zbG (by omega) (by decide) ?_);simp only[c2,sxZ,z6,z7,z8,j4,j5,j6,j7,j8,j9,x0,x4,x5,x6,x7,x8,reduceCtorEq,↓reduceIte];refine zal (zeX p.auth 64 ?_);simp only[c4,sxZ,z6,z7,z8,j4,j5,j6,j7,j8,j9,x0,x4,x5,x6,x7,x8,reduceCtorEq,↓reduceIte];refine zal (hParse_k p.auth (by omega) ?_);simp only[zge,sxZ,z6,z7,z8,j4,j5,j6,j7,j8,j9,x0,x4,x5,x6,x7,x8,reduceCtorEq,↓reduceIte];exact hk
   ·simp only[c1,c2,c3,if_true,if_false,Bool.true_eq_false,zge] at hk;simp only[zbh,c1,c3,c_weburl_parseOrigin,sxZ,z6,z7,z8,j4,j5,j6,j7,j8,j9,x0,x4,x5,x6,x7,x8,reduceCtorEq,↓reduceIte];refine zal (zdQ p.scheme zbG (by omega) (by decide) ?_);simp only[c2,sxZ,z6,z7,z8,j4,j5,j6,j7,j8,j9,x0,x4,x5,x6,x7,x8,reduceCtorEq,↓reduceIte];exact hk
  ·simp only[c1,c2,if_true,if_false,Bool.true_eq_false,zge] at hk;simp only[zbh,c1,c_weburl_parseOrigin,sxZ,z6,z7,z8,j4,j5,j6,j7,j8,j9,x0,x4,x5,x6,x7,x8,reduceCtorEq,↓reduceIte];refine zal (zdQ p.scheme zbG (by omega) (by decide) ?_);simp only[c2,sxZ,z6,z7,z8,j4,j5,j6,j7,j8,j9,x0,x4,x5,x6,x7,x8,reduceCtorEq,↓reduceIte];exact hk
 ·simp only[c1,if_true,if_false,zge] at hk;simp only[zbh,c1,c_weburl_parseOrigin,sxZ,z6,z7,z8,j4,j5,j6,j7,j8,j9,x0,x4,x5,x6,x7,x8,reduceCtorEq,↓reduceIte];exact hk
theorem wRest_k (p:UriP) (hk:K objs (.tup [zaM (zcn p).2,.i .i64 (zcn p).1])):zaa Tryz.prog 169 [zbh p] objs K:=by
 refine zaR is_weburl_parseRest rfl fun C _=>?_;have n1:=zhk p.path zaz;unfold zcn at hk;simp only[zbh,c_weburl_parseRest,sxZ,z6,z7,z8,j4,j5,j6,j7,j8,j9,x0,x4,x5,x6,x7,x8,reduceCtorEq,↓reduceIte];refine zal (zjb p.path zaz ?_);simp only[sxZ,z6,z7,z8,j4,j5,j6,j7,j8,j9,x0,x4,x5,x6,x7,x8,reduceCtorEq,↓reduceIte]
 by_cases c1:(zaD p.path zaz).1=0
 ·simp only[c1,sxZ,z6,z7,z8,j4,j5,j6,j7,j8,j9,x0,x4,x5,x6,x7,x8,reduceCtorEq,↓reduceIte] at hk ⊢;refine zal (zft _ (by omega) ?_);have hs:zcE (zaD p.path zaz).2=if za8 (zaD p.path zaz).2=[] then [47] else za8 (zaD p.path zaz).2:=rfl
  by_cases c0:za8 (zaD p.path zaz).2=[]
  all_goals simp only[c0,sxZ,z6,z7,z8,j4,j5,j6,j7,j8,j9,x0,x4,x5,x6,x7,x8,reduceCtorEq,↓reduceIte] at hs
  all_goals rw[hs] at hk
  all_goals simp only[c0,sxZ,z6,z7,z8,j4,j5,j6,j7,j8,j9,x0,x4,x5,x6,x7,x8,reduceCtorEq,↓reduceIte]
  all_goals refine zal (zjb p.query zat ?_)
  all_goals simp only[sxZ,z6,z7,z8,j4,j5,j6,j7,j8,j9,x0,x4,x5,x6,x7,x8,reduceCtorEq,↓reduceIte]
  all_goals by_cases c2:(zaD p.query zat).1=0
  all_goals simp only[c2,sxZ,z6,z7,z8,j4,j5,j6,j7,j8,j9,x0,x4,x5,x6,x7,x8,reduceCtorEq,↓reduceIte] at hk ⊢
  all_goals first
   | exact hk
   |refine zal (zjb p.frag zat ?_)
    simp only[sxZ,z6,z7,z8,j4,j5,j6,j7,j8,j9,x0,x4,x5,x6,x7,x8,reduceCtorEq,↓reduceIte]
    by_cases c3:(zaD p.frag zat).1=0
    all_goals simp only[c3,sxZ,z6,z7,z8,j4,j5,j6,j7,j8,j9,x0,x4,x5,x6,x7,x8,reduceCtorEq,↓reduceIte] at hk ⊢
    all_goals exact hk
 ·simp only[c1,sxZ,z6,z7,z8,j4,j5,j6,j7,j8,j9,x0,x4,x5,x6,x7,x8,reduceCtorEq,↓reduceIte] at hk ⊢;exact hk
theorem zjE [Pow Tryz.prog] (s:List UInt8) (hs:s.length<=maxLen) (hk:K objs (.tup [zaM (ziJ s).2,.i .i64 (ziJ s).1])):zaa Tryz.prog 102 [.s s] objs K:=by
 have hm:maxLen=2 ^ 63 - 1:=rfl;refine zaR is_weburl_Parse rfl fun C _=>?_;unfold ziJ webO at hk
 by_cases c0:(4096:Int)<↑s.length
 ·have c0':4096<s.length:=by omega
  simp only[c0',if_true,urlAV_z] at hk;simp only[c0,c_weburl_Parse,sxZ,z6,z7,z8,j4,j5,j6,j7,j8,j9,x0,x4,x5,x6,x7,x8,reduceCtorEq,↓reduceIte];exact hk
 ·have c0':¬4096<s.length:=by omega
  simp only[c0',if_false] at hk;simp only[c0,c_weburl_Parse,sxZ,z6,z7,z8,j4,j5,j6,j7,j8,j9,x0,x4,x5,x6,x7,x8,reduceCtorEq,↓reduceIte];refine zal (zgZ _ ?_);have sl:=zeC s;have op:=zjc (zai s).2;have ol:=zlK (zai s).2;have rl:=zm3 (zai s).2;generalize hp:(zai s).2=p at *
  by_cases c1:(zai s).1=0
  ·simp only[c1,zbh,sxZ,z6,z7,z8,j4,j5,j6,j7,j8,j9,x0,x4,x5,x6,x7,x8,reduceCtorEq,↓reduceIte] at hk ⊢;refine zal (zlq p (by omega) (by omega) ?_);simp only[sxZ,z6,z7,z8,j4,j5,j6,j7,j8,j9,x0,x4,x5,x6,x7,x8,reduceCtorEq,↓reduceIte]
   by_cases c2:(zaC p).1=0
   ·simp only[c2,zge,zbh,sxZ,z6,z7,z8,j4,j5,j6,j7,j8,j9,x0,x4,x5,x6,x7,x8,reduceCtorEq,↓reduceIte] at hk ⊢;refine zal (wRest_k p ?_)
    by_cases c3:(zcn p).1=0
    ·have hsh:zbk (zhP (zaC p).2.1 (zaC p).2.2 (zcn p).2):=⟨by show (zaC p).2.1.length<=_;omega,by show _<=(((zaC p).2.2:Nat):Int);omega,by show (((zaC p).2.2:Nat):Int)<=_;omega,by show (zcn p).2.path.length<=_;omega,by show (zcn p).2.query.length<=_;omega,by show (zcn p).2.frag.length<=_;omega⟩;simp only[c3,sxZ,z6,z7,z8,j4,j5,j6,j7,j8,j9,x0,x4,x5,x6,x7,x8,reduceCtorEq,↓reduceIte] at hk;simp only[c3,zaM,sxZ,z6,z7,z8,j4,j5,j6,j7,j8,j9,x0,x4,x5,x6,x7,x8,reduceCtorEq,↓reduceIte];refine zal (zfq (zhP (zaC p).2.1 (zaC p).2.2 (zcn p).2) hsh ?_)
     by_cases c4:4096<(zcz (zhP (zaC p).2.1 (zaC p).2.2 (zcn p).2)).length
     ·rw[webF,if_pos c4] at hk;have c4':(4096:Int)<((zcz (zhP (zaC p).2.1 (zaC p).2.2 (zcn p).2)).length:Nat):=by omega
      simp only[zaM,zbS,sxZ,z6,z7,z8,j4,j5,j6,j7,j8,j9,x0,x4,x5,x6,x7,x8,reduceCtorEq,↓reduceIte] at hk;simp only[c4',sxZ,z6,z7,z8,j4,j5,j6,j7,j8,j9,x0,x4,x5,x6,x7,x8,reduceCtorEq,↓reduceIte];exact hk
     ·rw[webF,if_neg c4] at hk;have c4':¬(4096:Int)<((zcz (zhP (zaC p).2.1 (zaC p).2.2 (zcn p).2)).length:Nat):=by omega
      simp only[zaM,zhP,sxZ,z6,z7,z8,j4,j5,j6,j7,j8,j9,x0,x4,x5,x6,x7,x8,reduceCtorEq,↓reduceIte] at hk;simp only[c4',sxZ,z6,z7,z8,j4,j5,j6,j7,j8,j9,x0,x4,x5,x6,x7,x8,reduceCtorEq,↓reduceIte];exact hk
    ·simp only[c3,zaM,zbS,sxZ,z6,z7,z8,j4,j5,j6,j7,j8,j9,x0,x4,x5,x6,x7,x8,reduceCtorEq,↓reduceIte] at hk ⊢;exact hk
   ·simp only[c2,zge,zaM,zbS,sxZ,z6,z7,z8,j4,j5,j6,j7,j8,j9,x0,x4,x5,x6,x7,x8,reduceCtorEq,↓reduceIte] at hk ⊢;exact hk
  ·simp only[c1,zbh,zaM,zbS,sxZ,z6,z7,z8,j4,j5,j6,j7,j8,j9,x0,x4,x5,x6,x7,x8,reduceCtorEq,↓reduceIte] at hk ⊢;exact hk
end
section
variable [Tabs Tryz.prog] {objs:List OB} {K:List OB->AV->Prop}
end
theorem zgI {u:UrlP} (h:zbk u):(zcz u).length<=5000000:=by
 obtain⟨h1,h2,h3,h4,h5,h6⟩:=h;have:=fmtW_len u h2 h3;omega
theorem ziT {b:UrlP} (h:zch b=true):(zai (zcz b)).1=0:=by
 unfold zch at h;simp only[Bool.and_eq_true,decide_eq_true_eq] at h;have h1:=h.1;unfold ziJ at h1
 split at h1
 ·cases h1
 ·split at h1
  ·rename_i h2;exact absurd h1 h2
  ·rename_i h2;simpa using h2
theorem zmp {b:UrlP} (h:zch b=true):(zcz b).length<=4096:=by
 unfold zch at h;simp only[Bool.and_eq_true,decide_eq_true_eq] at h;have h1:=h.1;unfold ziJ at h1
 split at h1
 ·cases h1
 ·omega
theorem zh7 (b r:UriP):(zaK b r).scheme.length<=b.scheme.length+r.scheme.length/\(zaK b r).auth.length<=b.auth.length+r.auth.length/\(zaK b r).path.length<=b.path.length+r.path.length+1/\(zaK b r).query.length<=b.query.length+r.query.length/\(zaK b r).frag.length<=r.frag.length:=by
 have h1:=zfG r.path;have h2:=zfG (zfN b r.path);have h3:=zgB b r.path;unfold zaK
 split
 ·simp only;omega
 ·split
  ·simp only;omega
  ·split
   ·rename_i h;rw[h];simp only[zk]
    split<;>omega
   ·simp only
    split<;>omega
theorem join_len (u:UriP):(zcP u).length<=u.scheme.length+u.auth.length+u.path.length+u.query.length+u.frag.length+5:=by
 unfold zcP;simp only[zg];have e1:(if u.hs=true then u.scheme++[58] else []).length<=u.scheme.length+1:=by split<;>simp
 have e2:(if u.ha=true then [47,47]++u.auth else []).length<=u.auth.length+2:=by split<;>simp
 have e3:(if u.hq=true then [63]++u.query else []).length<=u.query.length+1:=by split<;>simp
 have e4:(if u.hf=true then [35]++u.frag else []).length<=u.frag.length+1:=by split<;>simp
 omega
def eqW (a b:UrlP):Bool:=decide (a.host=b.host)&&(decide (a.port=b.port)&&(decide (a.path=b.path)&&(decide (a.query=b.query)&&(decide (a.frag=b.frag)&&(a.hq==b.hq&&a.hf==b.hf)))))
theorem eqW_is (a b:UrlP):eqW a b=decide (a=b):=by
 obtain⟨a1,a2,a3,a4,a5,a6,a7⟩:=a;obtain⟨b1,b2,b3,b4,b5,b6,b7⟩:=b;rw[Bool.eq_iff_iff];simp[eqW]
section
variable [Tabs Tryz.prog] {objs:List OB} {K:List OB->AV->Prop}
theorem zgY [Pow Tryz.prog] (u:UrlP) (hu:zbk u) (hk:K objs (.b (zch u))):zaa Tryz.prog 41 [zaM u] objs K:=by
 have hm:maxLen=2 ^ 63 - 1:=rfl;have hl:=zgI hu;refine zaR is_weburl_Valid rfl fun C _=>?_;simp only[c_weburl_Valid,zaM,sxZ,z6,z7,z8,j4,j5,j6,j7,j8,j9,x0,x4,x5,x6,x7,x8,reduceCtorEq,↓reduceIte];refine zal (zfq u hu ?_);simp only[sxZ,z6,z7,z8,j4,j5,j6,j7,j8,j9,x0,x4,x5,x6,x7,x8,reduceCtorEq,↓reduceIte];refine zal (zjE _ (by omega) ?_);unfold zch at hk;generalize (ziJ (zcz u)).2=v at hk ⊢
 by_cases h:(ziJ (zcz u)).1=0
 ·simp only[h,zaM,sxZ,z6,z7,z8,j4,j5,j6,j7,j8,j9,x0,x4,x5,x6,x7,x8,reduceCtorEq,↓reduceIte] at hk ⊢;rw[<-eqW_is] at hk;exact hk
 ·simp only[h,zaM,sxZ,z6,z7,z8,j4,j5,j6,j7,j8,j9,x0,x4,x5,x6,x7,x8,reduceCtorEq,↓reduceIte] at hk ⊢;exact hk
theorem wRel_k [Pow Tryz.prog] (b:UrlP) (r:List UInt8) (hb:zbk b) (hr:r.length<=100000) (hk:K objs (.tup [zaM (relW b r).2,.i .i64 (relW b r).1])):zaa Tryz.prog 186 [zaM b,.s r] objs K:=by
 have hm:maxLen=2 ^ 63 - 1:=rfl;have hl:=zgI hb;refine zaR is_weburl_Relative rfl fun C _=>?_;have hrel:relW b r=if zch b=false then (8,zbS) else if (zai r).1≠0 then ((zai r).1,zbS) else if eqL (zaK (zai (zcz b)).2 (zai r).2).scheme zbG=false then (253,zbS) else ziJ (zcP (zaK (zai (zcz b)).2 (zai r).2)):=rfl
 simp only[c_weburl_Relative,zaM,sxZ,z6,z7,z8,j4,j5,j6,j7,j8,j9,x0,x4,x5,x6,x7,x8,reduceCtorEq,↓reduceIte];refine zal (zgY b hb ?_)
 by_cases h1:zch b=true
 ·have hs0:(zai (zcz b)).1=0:=ziT h1;simp only[h1,sxZ,z6,z7,z8,j4,j5,j6,j7,j8,j9,x0,x4,x5,x6,x7,x8,reduceCtorEq,↓reduceIte] at hrel ⊢;refine zal (zfq b hb ?_);simp only[sxZ,z6,z7,z8,j4,j5,j6,j7,j8,j9,x0,x4,x5,x6,x7,x8,reduceCtorEq,↓reduceIte];refine zal (zgZ _ ?_);simp only[hs0,zbh,sxZ,z6,z7,z8,j4,j5,j6,j7,j8,j9,x0,x4,x5,x6,x7,x8,reduceCtorEq,↓reduceIte];refine zal (zgZ _ ?_)
  by_cases h2:(zai r).1=0
  ·have l1:=zeC (zcz b);have l2:=zeC r;have l3:=zh7 (zai (zcz b)).2 (zai r).2;have l4:=join_len (zaK (zai (zcz b)).2 (zai r).2);simp only[h2,zbh,sxZ,z6,z7,z8,j4,j5,j6,j7,j8,j9,x0,x4,x5,x6,x7,x8,reduceCtorEq,↓reduceIte] at hrel ⊢;refine zal (zls (zai (zcz b)).2 (zai r).2 (by have:=zmp h1;omega) (by omega) ?_);simp only[zbh,sxZ,z6,z7,z8,j4,j5,j6,j7,j8,j9,x0,x4,x5,x6,x7,x8,reduceCtorEq,↓reduceIte];refine zal (zdQ _ zbG (by omega) (by decide) ?_)
   by_cases h3:eqL (zaK (zai (zcz b)).2 (zai r).2).scheme zbG=true
   ·simp only[h3,sxZ,z6,z7,z8,j4,j5,j6,j7,j8,j9,x0,x4,x5,x6,x7,x8,reduceCtorEq,↓reduceIte] at hrel ⊢;refine zal (uJoin_k (zaK (zai (zcz b)).2 (zai r).2) (by omega) ?_);simp only[sxZ,z6,z7,z8,j4,j5,j6,j7,j8,j9,x0,x4,x5,x6,x7,x8,reduceCtorEq,↓reduceIte];refine zal (zjE _ (by omega) ?_);rw[hrel] at hk;simp only[zaM,sxZ,z6,z7,z8,j4,j5,j6,j7,j8,j9,x0,x4,x5,x6,x7,x8,reduceCtorEq,↓reduceIte] at hk ⊢;exact hk
   ·simp only[h3,sxZ,z6,z7,z8,j4,j5,j6,j7,j8,j9,x0,x4,x5,x6,x7,x8,reduceCtorEq,↓reduceIte] at hrel ⊢;rw[hrel] at hk;simp only[zaM,zbS,sxZ,z6,z7,z8,j4,j5,j6,j7,j8,j9,x0,x4,x5,x6,x7,x8,reduceCtorEq,↓reduceIte] at hk;exact hk
  ·simp only[h2,zbh,sxZ,z6,z7,z8,j4,j5,j6,j7,j8,j9,x0,x4,x5,x6,x7,x8,reduceCtorEq,↓reduceIte] at hrel ⊢;rw[hrel] at hk;simp only[zaM,zbS,sxZ,z6,z7,z8,j4,j5,j6,j7,j8,j9,x0,x4,x5,x6,x7,x8,reduceCtorEq,↓reduceIte] at hk;exact hk
 ·simp only[h1,sxZ,z6,z7,z8,j4,j5,j6,j7,j8,j9,x0,x4,x5,x6,x7,x8,reduceCtorEq,↓reduceIte] at hrel ⊢;rw[hrel] at hk;simp only[zaM,zbS,sxZ,z6,z7,z8,j4,j5,j6,j7,j8,j9,x0,x4,x5,x6,x7,x8,reduceCtorEq,↓reduceIte] at hk;exact hk
end
section
variable [Tabs Tryz.prog] {objs:List OB} {K:List OB->AV->Prop}
end
end Go.Proofs.YtomkbafdmbfmfaaGreatDoor
namespace Go.Proofs.YtomkbafdmbfmfaaGreatDoor.Sx
open Go.RowKit Go.WideShapes Go.ChangeShapes Go.ChangeAt
open List renaming append_nil->qw, getElem?_eq_getElem->qj, getElem?_eq_some_iff->qp, getElem?_map->jc, mem_append->qn, mem_append_left->jy, mem_append_right->xk, mem_cons->qo, mem_cons_of_mem->qx, mem_cons_self->jd
inductive TT where
 | s
 | b
 | i (k:IntKind)
 | st (ts:List TT)
 | sl (t:TT)
 | rv
inductive RV where
 | mk (k:Int) (t:List UInt8) (ks:List (List UInt8)) (its:List RV)
mutual
def zgu:RV->List AV
 | .mk k t ks its=>[.i .i64 k,.s t,.row ks.length (ks.map .s),.row its.length (zfH its)]
def zfH:List RV->List AV
 | []=>[]
 | v::l=>zgu v++zfH l
end
mutual
def RVok:RV->Prop
 | .mk k t ks its=>(Lit.int .i64 k).wf=true/\t.length<=140737488351232/\ks.length<=140737488351232/\(∀k∈ks,k.length<=140737488351232)/\its.length<=140737488351232/\zpy its
def zpy:List RV->Prop
 | []=>True
 | v::l=>RVok v/\zpy l
end
mutual
def ShT:TT->List AV->Prop
 | .s,xs=>∃l:List UInt8,xs=[.s l]/\l.length<=140737488351232
 | .b,xs=>∃b,xs=[.b b]
 | .i k,xs=>∃n,xs=[.i k n]/\(Lit.int k n).wf=true
 | .st ts,xs=>ShTs ts xs
 | .sl t,xs=>∃gs:List (List AV),xs=[.row gs.length gs.flatten]/\gs.length<=140737488351232/\∀g∈gs,ShT t g
 | .rv,xs=>∃r:RV,xs=zgu r/\RVok r
def ShTs:List TT->List AV->Prop
 | [],xs=>xs=[]
 | t::ts,xs=>∃a b,xs=a++b/\ShT t a/\ShTs ts b
end
def ShA:TT->AV->Prop
 | .st ts,x=>∃cs,x=.agg cs/\ShTs ts cs
 | .rv,x=>∃r:RV,x=.agg (zgu r)/\RVok r
 | t,x=>ShT t [x]
def ShAs:List TT->List AV->Prop
 | [],xs=>xs=[]
 | t::ts,xs=>∃x ys,xs=x::ys/\ShA t x/\ShAs ts ys
def trTs (P:Program) (rc:TypeId->Option TT):Nat->List Field->Option (List TT)
 | o,[]=>some []
 | o,f::fs=>match rc f.type,trTs P rc (o+P.cellsOf f.type) fs with
  | some t,some ts=>if f.offset=o then some (t::ts) else none
  | _,_=>none
def zf2 (P:Program):List Field->Nat
 | []=>0
 | f::fs=>P.cellsOf f.type+zf2 P fs
def isRV (P:Program) (t:TypeId):List Field->Bool
 | [a,b,c,d]=>(a.offset==0&&b.offset==1&&c.offset==2&&d.offset==3)&&(P.cellsOf t==4&&P.cellsOf a.type==1&&P.cellsOf b.type==1&&P.cellsOf c.type==1&&P.cellsOf d.type==1)&&decide (0<P.bytesOf t)&&(match P.underlying a.type,P.underlying b.type,P.underlying c.type,P.underlying d.type with
  | some (.int .i64),some .string,some (.slice e),some (.slice f)=>f==t&&P.cellsOf e==1&&decide (0<P.bytesOf e)&&(match P.underlying e with|some .string=>true|_=>false)
  | _,_,_,_=>false)
 | _=>false
def trT (P:Program):Nat->TypeId->Option TT
 | 0,_=>none
 | d+1,t=>match P.underlying t with
  | some .string=>some .s
  | some .bool=>some .b
  | some (.int k)=>some (.i k)
  | some (.struct fs)=>if isRV P t fs.toList=true then some .rv else if P.cellsOf t=zf2 P fs.toList then (trTs P (trT P d) 0 fs.toList).map .st else none
  | some (.slice e)=>if 0<P.cellsOf e/\0<P.bytesOf e then (trT P d e).map .sl else none
  | _=>none
theorem zdj {H:Type} {P:Program} {e:TypeId}:∀{ds:List (DataW H)} {d:DataW H},d∈ds->∀n∈d.weights P e,n∈DataW.weightsAll P e ds
 | [],d,hd,n,hn=>by cases hd
 | d0::ds,d,hd,n,hn=>by
  simp only[DataW.weightsAll,qn];rcases qo.1 hd with rfl|hd
  ·exact .inl hn
  ·exact .inr (zdj hd n hn)
theorem zjN {w:World} {G:Gh} {I:Imm} {t:TT} (a:Addr) (c:Nat) (hI:∀g o v,w.cell? ⟨g,o,none⟩=some v->I g o v):∀k:Nat,
  (∀i,i<k->∃(g:List AV) (ys:List Value),ys.length=c/\(∀j,j<c->w.cell? ((a.add (i*c)).add j)=ys[j]?)/\zac G I g ys/\ShT t g/\∀u∈ys,u.oneCell'=true) ->
  ∃(gs:List (List AV)) (ys:List Value),gs.length=k/\ys.length=k*c/\zac G I gs.flatten ys/\(∀g∈gs,ShT t g)/\(∀u∈ys,u.oneCell'=true)/\∀j,j<k*c->w.cell? (a.add j)=ys[j]?
 | 0,_=>⟨[],[],rfl,by simp,zac.nil,by simp,by simp,fun j hj=>by simp at hj⟩
 | k+1,h=>by
  obtain⟨gs,ys,h1,h2,h3,h4,h5,h6⟩:=zjN a c hI k (fun i hi=>h i (by omega));obtain⟨g,zs,k1,k2,k3,k4,k5⟩:=h k (by omega);have hm:(k+1)*c=k*c+c:=Nat.succ_mul k c;refine⟨gs++[g],ys++zs,by simp[h1],by rw[List.length_append,h2,k1,hm],?_,?_,?_,?_⟩
  ·rw[List.flatten_append,List.flatten_cons,List.flatten_nil,qw];exact zac.append h3 k3
  ·intro x hx;rcases qn.1 hx with hx|hx
   ·exact h4 x hx
   ·rw[List.mem_singleton] at hx;subst hx;exact k4
  ·intro u hu;rcases qn.1 hu with hu|hu
   ·exact h5 u hu
   ·exact k5 u hu
  ·intro j hj
   by_cases hjk:j<k*c
   ·rw[h6 j hjk,List.getElem?_append_left (by omega)]
   ·have:=k2 (j - k*c) (by omega);rw[Addr.add_add,show k*c+(j - k*c)=j by omega] at this;rw[this,List.getElem?_append_right (by omega),h2]
theorem add_flat {a:Addr} {j:Nat} (ha:a.spot=none):a.add j=⟨a.block,a.off+j,none⟩:=by
 cases a
 simp only at ha;subst ha;unfold Addr.add
 split
 ·rename_i h;subst h;rfl
 ·rfl
section
variable {H:Type} {enc:TypeId×Value->H} {P:Program} {w:World} {base:Nat} {spare:Nat->Bool} {held:Bool} {G:Gh} {I:Imm}
theorem zgv (d:Nat) (ih:∀(t:TypeId) (tt:TT) (fuel:Nat) (cs:List Value) (x:DataW H×List MemPlace),trT P d t=some tt->DataW.trod enc P w base spare held fuel t cs=some x->(∀n∈x.1.weights P t,n<=reachBytes)->∃xs,zac G I xs cs/\ShT tt xs/\∀u∈cs,u.oneCell'=true) (n:Nat) :
  ∀(fs:List Field) (ts:List TT) (o:Nat) (cs:List Value),trTs P (trT P d) o fs=some ts->cs.length=o+zf2 P fs->(∀f∈fs,∃x,DataW.trod enc P w base spare held n f.type ((cs.drop f.offset).take (P.cellsOf f.type))=some x/\∀m∈x.1.weights P f.type,m<=reachBytes) ->
   ∃xs,zac G I xs (cs.drop o)/\ShTs ts xs/\∀u∈cs.drop o,u.oneCell'=true
 | [],ts,o,cs,ht,hl,hf=>by
  simp only[trTs,Option.some.injEq] at ht;subst ht;have:cs.drop o=[]:=List.drop_eq_nil_of_le (by simp[zf2] at hl;omega);rw[this];exact⟨[],zac.nil,rfl,by simp⟩
 | f::fs,ts,o,cs,ht,hl,hf=>by
  simp only[trTs] at ht
  split at ht
  ·rename_i t ts' h1 h2
   split at ht
   ·rename_i ho;injection ht with ht;subst ht
    obtain⟨x,hx,hxw⟩:=hf f (jd ..);rw[ho] at hx;obtain⟨xs,k1,k2,k3⟩:=ih _ _ _ _ _ h1 hx hxw;simp only[zf2] at hl;obtain⟨ys,m1,m2,m3⟩:=zgv d ih n fs ts' (o+P.cellsOf f.type) cs h2 (by omega) (fun f' hf'=>hf f' (qx _ hf'));have e:cs.drop o=(cs.drop o).take (P.cellsOf f.type)++cs.drop (o+P.cellsOf f.type):=by
     rw[<-List.drop_drop,List.take_append_drop]
    refine⟨xs++ys,?_,?_,?_⟩
    ·rw[e];exact zac.append k1 m1
    ·exact⟨xs,ys,rfl,k2,m2⟩
    ·rw[e];intro u hu;rcases qn.1 hu with hu|hu
     ·exact k3 u hu
     ·exact m3 u hu
   ·cases ht
  ·cases ht
theorem zeH (hI:∀g o v,w.cell? ⟨g,o,none⟩=some v->I g o v) (hspa:∀b,spare b=true) {t e:TypeId} {te:TT} {fuel:Nat} {cs:List Value} {x:DataW H×List MemPlace} (hu:P.underlying t=some (.slice e)) (hc:0<P.cellsOf e/\0<P.bytesOf e)
  (ih:∀(n:Nat) (ys:List Value) (x:DataW H×List MemPlace),n<fuel->DataW.trod enc P w base spare held n e ys=some x->(∀n∈x.1.weights P e,n<=reachBytes)->∃g,zac G I g ys/\ShT te g/\∀u∈ys,u.oneCell'=true)
  (h:DataW.trod enc P w base spare held fuel t cs=some x) (hwt:∀n∈x.1.weights P t,n<=reachBytes):∃xs,zac G I xs cs/\ShT (.sl te) xs/\∀u∈cs,u.oneCell'=true:=by
 rcases DataW.trod_slice hu h with ⟨rfl,rfl⟩|⟨a,len,cap,elems,rest,n,hfu,rfl,rfl,hb,hl,hm,hlen,hel,hsr,_⟩
 ·exact⟨[.row 0 []],zac.cons (by simp only[Den];exact⟨none,0,[],rfl,⟨Nat.le_refl _,fun ad h=>by cases h⟩,zac.nil,by simp,by simp⟩) zac.nil,⟨[],rfl,by simp,by simp⟩,by simp;rfl⟩
 ·have hw2:(elems.length+rest.length)*P.bytesOf e<=reachBytes:=by
   have:=hwt ((elems.map (·.1)).length+(rest.map (·.1)).length |> (·*P.bytesOf e)) (by simp[DataW.weights,hu]);simpa using this
  have hel2:elems.length<=140737488351232:=by
   have h1:elems.length*1<=(elems.length+rest.length)*P.bytesOf e:=Nat.mul_le_mul (by omega) hc.2;have:reachBytes=140737488351232:=rfl;omega
  have hel3:∀i,i<len->∃(g:List AV) (ys:List Value),ys.length=P.cellsOf e/\(∀j,j<P.cellsOf e->w.cell? ((a.add (i*P.cellsOf e)).add j)=ys[j]?)/\zac G I g ys/\ShT te g/\∀u∈ys,u.oneCell'=true:=by
   intro i hi;have h1:=hel i hi;have hil:i<elems.length:=by omega
   rw[qj hil,Option.bind_eq_some_iff] at h1;obtain⟨ys,y1,y2⟩:=h1;obtain⟨_,z1,z2⟩:=World.cells?_some y1;obtain⟨g,g1,g2,g3⟩:=ih n ys _ (by omega) y2 (fun m hm=>hwt m (by
    simp only[DataW.weights,hu,qo,qn];exact .inr (.inl (zdj (List.mem_map.2 ⟨_,List.getElem_mem hil,rfl⟩) m hm))))
   exact⟨g,ys,z1,z2,g1,g2,g3⟩
  obtain⟨gs,ys,k1,k2,k3,k4,k5,k6⟩:=zjN (G:=G) a (P.cellsOf e) hI len hel3;have hsp0:cap≠0->a.spot=none:=by
   intro hcap
   by_cases hl0:0<len
   ·have hp:0<len*P.cellsOf e:=Nat.mul_pos hl0 hc.1;have h2:=k6 0 hp;rw[qj (by omega)] at h2;have:=World.cell?_spot h2;simpa[Addr.add] using this
   ·have hr:=(hsr (hspa _)).2 0 (by omega);have hrl:=(hsr (hspa _)).1;rw[qj (by omega),Option.bind_eq_some_iff] at hr;obtain⟨zs,y1,_⟩:=hr;obtain⟨_,z1,z2⟩:=World.cells?_some y1;have h2:=z2 0 hc.1;rw[qj (by omega)] at h2;have:=World.cell?_spot h2;have hl1:len=0:=by omega
    subst hl1;simpa[Addr.add] using this
  refine⟨[.row gs.length gs.flatten],zac.cons ?_ zac.nil,⟨gs,rfl,by omega,k4⟩,by simp;rfl⟩;simp only[Den];refine⟨some a,cap,ys,by rw[k1],⟨by omega,fun ad h hc0=>by injection h with h;subst h;exact hsp0 hc0⟩,k3,k5,fun j u hj=>?_⟩;have hjl:=(qp.1 hj).1;have hlp:len≠0:=by rintro rfl;rw[k2,Nat.zero_mul] at hjl;omega
  have hs:=hsp0 (by omega);refine⟨a.block,a.off,by cases a;simp only at hs;subst hs;rfl,hI _ _ _ ?_⟩;have h2:=k6 j (k2▸hjl);rw[add_flat hs] at h2;rw[h2,hj]
theorem isRV_of {t:TypeId} {fs:List Field} (h:isRV P t fs=true):∃a b c d e,fs=[a,b,c,d]/\(a.offset=0/\b.offset=1/\c.offset=2/\d.offset=3)/\(P.cellsOf t=4/\P.cellsOf a.type=1/\P.cellsOf b.type=1/\P.cellsOf c.type=1/\P.cellsOf d.type=1)/\0<P.bytesOf t /\
  P.underlying a.type=some (.int .i64)/\P.underlying b.type=some .string/\P.underlying c.type=some (.slice e)/\P.underlying d.type=some (.slice t)/\P.cellsOf e=1/\0<P.bytesOf e/\P.underlying e=some .string:=by
 unfold isRV at h
 split at h
 ·rename_i a b c d;simp only[Bool.and_eq_true,beq_iff_eq,decide_eq_true_eq] at h;obtain⟨⟨⟨h1,h2⟩,h3⟩,h4⟩:=h
  split at h4
  ·rename_i e f u1 u2 u3 u4;simp only[Bool.and_eq_true,beq_iff_eq,decide_eq_true_eq] at h4;obtain⟨⟨⟨k1,k2⟩,k3⟩,k4⟩:=h4;subst k1
   split at k4
   ·rename_i u5;exact⟨a,b,c,d,e,rfl,⟨h1.1.1.1,h1.1.1.2,h1.1.2,h1.2⟩,⟨h2.1.1.1.1,h2.1.1.1.2,h2.1.1.2,h2.1.2,h2.2⟩,h3,u1,u2,u3,u4,k2,k3,u5⟩
   ·cases k4
  ·cases h4
 ·cases h
theorem zmJ:∀gs:List (List AV),(∀g∈gs,ShT .s g)->∃ks:List (List UInt8),gs.flatten=ks.map .s/\ks.length=gs.length/\∀k∈ks,k.length<=140737488351232
 | [],_=>⟨[],rfl,rfl,by simp⟩
 | g::gs,h=>by
  obtain⟨ks,h1,h2,h3⟩:=zmJ gs (fun g hg=>h g (qx _ hg));obtain⟨l,hl,hl2⟩:=h g (jd ..);refine⟨l::ks,by rw[List.flatten_cons,hl,h1];rfl,by simp[h2],fun k hk=>?_⟩;rcases qo.1 hk with rfl|hk
  ·exact hl2
  ·exact h3 k hk
theorem zjM:∀gs:List (List AV),(∀g∈gs,ShT .rv g)->∃rs:List RV,gs.flatten=zfH rs/\rs.length=gs.length/\zpy rs
 | [],_=>⟨[],by rw[zfH];rfl,rfl,by rw[zpy];trivial⟩
 | g::gs,h=>by
  obtain⟨rs,h1,h2,h3⟩:=zjM gs (fun g hg=>h g (qx _ hg));obtain⟨r,hr,hr2⟩:=h g (jd ..);exact⟨r::rs,by rw[List.flatten_cons,hr,h1,zfH],by simp[h2],by rw[zpy];exact⟨hr2,h3⟩⟩
theorem open_rv (hI:∀g o v,w.cell? ⟨g,o,none⟩=some v->I g o v) (hspa:∀b,spare b=true) {t:TypeId} {fs:Array Field} (hu:P.underlying t=some (.struct fs)) (hrv:isRV P t fs.toList=true):∀(m fuel:Nat) (cs:List Value) (x:DataW H×List MemPlace),fuel<m->DataW.trod enc P w base spare held fuel t cs=some x->(∀n∈x.1.weights P t,n<=reachBytes)->∃xs,zac G I xs cs/\ShT .rv xs/\∀u∈cs,u.oneCell'=true:=by
 intro m
 induction m with
 | zero=>intro fuel cs x hm;omega
 | succ m ih=>
  intro fuel cs x hm h hwt;obtain⟨a,b,c,d,e,hfs,⟨o1,o2,o3,o4⟩,⟨c0,c1,c2,c3,c4⟩,hb,u1,u2,u3,u4,e1,e2,e3⟩:=isRV_of hrv;obtain⟨xs,n,hfu,rfl,hlen,hxl,hf⟩:=DataW.trod_struct hu h;have hsz:fs.size=4:=by rw[<-Array.length_toList,hfs];rfl
  have gf:∀j,fs[j]? = [a,b,c,d][j]?:=fun j=>by rw[<-hfs,Array.getElem?_toList]
  have hall:∀(j:Nat) (f:Field),[a,b,c,d][j]? = some f->∃x,DataW.trod enc P w base spare held n f.type ((cs.drop f.offset).take (P.cellsOf f.type))=some x/\∀m∈x.1.weights P f.type,m<=reachBytes:=by
   intro j f hj;have h1:=hf j f (by rw[gf];exact hj);have hjl:j<xs.length:=by
    rw[hxl,hsz];exact(qp.1 hj).1
   rw[qj hjl] at h1;refine⟨_,h1,fun m hm=>hwt m ?_⟩;have hj2:(fs.toList.map (·.type))[j]? = some f.type:=by rw[jc,hfs,hj];rfl
   have:=DataW.weights_mem_each hj2 (show (xs.map (·.1))[j]? = some xs[j].1 by rw[jc,qj hjl];rfl) m hm;simpa[DataW.weights,hu] using this
  obtain⟨xa,ha,wa⟩:=hall 0 a rfl;obtain⟨xb,hb',wb⟩:=hall 1 b rfl;obtain⟨xc,hc',wc⟩:=hall 2 c rfl;obtain⟨xd,hd',wd⟩:=hall 3 d rfl;rw[o1,c1] at ha;rw[o2,c2] at hb';rw[o3,c3] at hc';rw[o4,c4] at hd';rw[c0] at hlen;obtain⟨v0,v1,v2,v3,rfl⟩:∃v0 v1 v2 v3,cs=[v0,v1,v2,v3]:=by
   match cs,hlen with
   | [v0,v1,v2,v3],_=>exact⟨v0,v1,v2,v3,rfl⟩
  simp only[List.drop_zero,List.drop_succ_cons,List.take_succ_cons,List.take_zero] at ha hb' hc' hd';obtain⟨i0,r0,_,w0⟩:=DataW.trod_int u1 ha;injection r0 with r0 _
  obtain⟨s0,r1,rx1,_⟩:=DataW.trod_string u2 hb';injection r1 with r1 _
  subst r0 r1;obtain⟨ys2,d2,⟨g2,q2,l2,m2⟩,oc2⟩:=zeH (te:=.s) (G:=G) (I:=I) hI hspa u3 ⟨by omega,e2⟩ (fun n' ys y hn' hy hyw=>by
   obtain⟨s,rfl,rfl,hs⟩:=DataW.trod_string e3 hy;exact⟨[.s s.data.toList],zac.cons (by simp[Den]) zac.nil,⟨_,rfl,hyw _ (by simp[DataW.weights])⟩,by simp;rfl⟩) hc' wc
  obtain⟨ys3,d3,⟨g3,q3,l3,m3⟩,oc3⟩:=zeH (te:=.rv) (G:=G) (I:=I) hI hspa u4 ⟨by omega,hb⟩ (fun n' ys y hn' hy hyw=>ih n' ys y (by omega) hy hyw) hd' wd;subst q2 q3;obtain⟨ks,k1,k2,k3⟩:=zmJ g2 m2;obtain⟨rs,j1,j2,j3⟩:=zjM g3 m3;refine⟨zgu (.mk i0 s0.data.toList ks rs),?_,⟨_,rfl,?_⟩,?_⟩
  ·rw[zgu,k2,j2,<-k1,<-j1];exact zac.cons (by simp[Den]) (zac.cons (by simp[Den]) (zac.append d2 d3))
  ·rw[RVok];refine⟨w0,?_,by omega,k3,by omega,j3⟩;subst rx1;exact wb _ (by simp[DataW.weights])
  ·intro u hu';simp only[qo,List.not_mem_nil,or_false] at hu';rcases hu' with rfl|rfl|rfl|rfl
   ·rfl
   ·rfl
   ·exact oc2 _ (by simp)
   ·exact oc3 _ (by simp)
theorem zns (hI:∀g o v,w.cell? ⟨g,o,none⟩=some v->I g o v) (hspa:∀b,spare b=true):∀(d:Nat) (t:TypeId) (tt:TT) (fuel:Nat) (cs:List Value) (x:DataW H×List MemPlace),trT P d t=some tt->DataW.trod enc P w base spare held fuel t cs=some x->(∀n∈x.1.weights P t,n<=reachBytes)->∃xs,zac G I xs cs/\ShT tt xs/\∀u∈cs,u.oneCell'=true:=by
 intro d
 induction d with
 | zero=>intro t tt fuel cs x ht;simp[trT] at ht
 | succ d ih=>
  intro t tt fuel cs x ht h hwt;simp only[trT] at ht
  split at ht
  ·rename_i hu;injection ht with ht;subst ht
   obtain⟨s,rfl,rfl,hs⟩:=DataW.trod_string hu h;refine⟨[.s s.data.toList],zac.cons (by simp[Den]) zac.nil,⟨_,rfl,?_⟩,by simp;rfl⟩;exact hwt _ (by simp[DataW.weights])
  ·rename_i hu;injection ht with ht;subst ht
   obtain⟨b,rfl,_⟩:=DataW.trod_bool hu h;exact⟨[.b b],zac.cons (by simp[Den]) zac.nil,⟨_,rfl⟩,by simp;rfl⟩
  ·rename_i k hu;injection ht with ht;subst ht
   obtain⟨n,rfl,_,hw⟩:=DataW.trod_int hu h;exact⟨[.i k n],zac.cons (by simp[Den]) zac.nil,⟨_,rfl,hw⟩,by simp;rfl⟩
  ·rename_i fs hu
   split at ht
   ·rename_i hrv;injection ht with ht;subst ht
    exact open_rv hI hspa hu hrv (fuel+1) fuel cs x (by omega) h hwt
   split at ht
   ·rename_i hc
    cases hts:trTs P (trT P d) 0 fs.toList with
    | none=>rw[hts] at ht;cases ht
    | some ts=>
     rw[hts] at ht;injection ht with ht;subst ht
     obtain⟨xs,n,_,rfl,hlen,hxl,hf⟩:=DataW.trod_struct hu h;have hall:∀f∈fs.toList,∃x,DataW.trod enc P w base spare held n f.type ((cs.drop f.offset).take (P.cellsOf f.type))=some x/\∀m∈x.1.weights P f.type,m<=reachBytes:=by
      intro f hfm;obtain⟨j,hj⟩:=List.mem_iff_getElem?.1 hfm;have h1:=hf j f (by simpa using hj);have hjl:j<xs.length:=by
       rw[hxl];have:=(qp.1 hj).1;simpa using this
      rw[qj hjl] at h1;refine⟨_,h1,fun m hm=>hwt m ?_⟩;have hj2:(fs.toList.map (·.type))[j]? = some f.type:=by rw[jc,hj];rfl
      have:=DataW.weights_mem_each hj2 (show (xs.map (·.1))[j]? = some xs[j].1 by rw[jc,qj hjl];rfl) m hm;simpa[DataW.weights,hu] using this
     obtain⟨ys,k1,k2,k3⟩:=zgv d ih n fs.toList ts 0 cs hts (by rw[hlen,hc];omega) hall;exact⟨ys,by simpa using k1,k2,by simpa using k3⟩
   ·cases ht
  ·rename_i e hu
   split at ht
   ·rename_i hc
    cases hte:trT P d e with
    | none=>rw[hte] at ht;cases ht
    | some te=>
     rw[hte] at ht;injection ht with ht;subst ht
     exact zeH hI hspa hu hc (fun n ys y _ hy hyw=>ih e te n ys y hte hy hyw) h hwt
   ·cases ht
  ·cases ht
theorem open_arg (hI:∀g o v,w.cell? ⟨g,o,none⟩=some v->I g o v) (hspa:∀b,spare b=true) {r:Reach} {b0:Nat} {t:TypeId} {tt:TT} {v:Value} {dd:DataW H} {ps:List MemPlace} (ht:trT P 20 t=some tt) (hv:Value.okWide P w r b0 t v) (h:DataW.Trod enc P w base spare held t v dd ps) (hwt:∀n∈dd.weights P t,n<=reachBytes):∃x,Den G I x v/\ShA tt x:=by
 obtain⟨fuel,hf⟩:=h;obtain⟨xs,h1,h2,h3⟩:=zns hI hspa 20 t tt fuel _ _ ht hf hwt;have ht':=ht;unfold trT at ht
 cases tt with
 | st ts=>
  split at ht<;>first|(injection ht with ht;cases ht;done)|skip
  ·rename_i fs hu;obtain⟨cs,rfl,_⟩:=okWide_struct hu hv;refine⟨.agg xs,?_,⟨xs,rfl,h2⟩⟩;simp only[Den];exact⟨cs.toList,by simp,h1,h3⟩
  ·split at ht
   ·cases hq:trT P 19 _ with
    | none=>rw[hq] at ht;cases ht
    | some q=>rw[hq] at ht;injection ht with ht;cases ht
   ·cases ht
  ·cases ht
 | rv=>
  split at ht<;>first|(injection ht with ht;cases ht;done)|skip
  ·rename_i fs hu;obtain⟨cs,rfl,_⟩:=okWide_struct hu hv;obtain⟨r,rfl,hr⟩:=h2;refine⟨.agg (zgu r),?_,⟨r,rfl,hr⟩⟩;simp only[Den];exact⟨cs.toList,by simp,h1,h3⟩
  ·split at ht
   ·cases hq:trT P 19 _ with
    | none=>rw[hq] at ht;cases ht
    | some q=>rw[hq] at ht;injection ht with ht;cases ht
   ·cases ht
  ·cases ht
 | sl t=>
  split at ht<;>first|(injection ht with ht;cases ht;done)|skip
  ·split at ht
   ·injection ht with ht;cases ht
   split at ht
   ·cases hq:trTs P (trT P 19) 0 _ with
    | none=>rw[hq] at ht;cases ht
    | some q=>rw[hq] at ht;injection ht with ht;cases ht
   ·cases ht
  ·rename_i e hu;obtain⟨a,len,cap,rfl⟩:=okWide_slice hu hv;obtain⟨gs,rfl,hl,hg⟩:=h2;simp only[zac] at h1;obtain⟨y,ys,e1,k1,k2⟩:=h1;subst k2;have e2:[Value.slice a len cap]=[y]:=e1;injection e2 with e2 _
   subst e2;exact⟨.row gs.length gs.flatten,k1,⟨gs,rfl,hl,hg⟩⟩
  ·cases ht
 | s=>
  split at ht<;>first|(injection ht with ht;cases ht;done)|skip
  ·rename_i hu;obtain⟨s,rfl⟩:=okWide_string hu hv;obtain⟨l,rfl,hl⟩:=h2;simp only[zac] at h1;obtain⟨y,ys,e,k1,k2⟩:=h1;subst k2;have e2:[Value.string s]=[y]:=e;injection e2 with e2 _
   subst e2;exact⟨.s l,k1,⟨l,rfl,hl⟩⟩
  ·split at ht
   ·injection ht with ht;cases ht
   split at ht
   ·cases hq:trTs P (trT P 19) 0 _ with
    | none=>rw[hq] at ht;cases ht
    | some q=>rw[hq] at ht;injection ht with ht;cases ht
   ·cases ht
  ·split at ht
   ·cases hq:trT P 19 _ with
    | none=>rw[hq] at ht;cases ht
    | some q=>rw[hq] at ht;injection ht with ht;cases ht
   ·cases ht
  ·cases ht
 | b=>
  split at ht<;>first|(injection ht with ht;cases ht;done)|skip
  ·rename_i hu;obtain⟨s,rfl⟩:=okWide_bool hu hv;obtain⟨l,rfl⟩:=h2;simp only[zac] at h1;obtain⟨y,ys,e,k1,k2⟩:=h1;subst k2;have e2:[Value.bool s]=[y]:=e;injection e2 with e2 _
   subst e2;exact⟨.b l,k1,⟨l,rfl⟩⟩
  ·split at ht
   ·injection ht with ht;cases ht
   split at ht
   ·cases hq:trTs P (trT P 19) 0 _ with
    | none=>rw[hq] at ht;cases ht
    | some q=>rw[hq] at ht;injection ht with ht;cases ht
   ·cases ht
  ·split at ht
   ·cases hq:trT P 19 _ with
    | none=>rw[hq] at ht;cases ht
    | some q=>rw[hq] at ht;injection ht with ht;cases ht
   ·cases ht
  ·cases ht
 | i k=>
  split at ht<;>first|(injection ht with ht;cases ht;done)|skip
  ·rename_i k' hu;injection ht with ht;injection ht with ht;subst ht
   obtain⟨s,rfl⟩:=okWide_int hu hv;obtain⟨l,rfl,hl⟩:=h2;simp only[zac] at h1;obtain⟨y,ys,e,k1,k2⟩:=h1;subst k2;have e2:[Value.int _ s]=[y]:=e;injection e2 with e2 _
   subst e2;exact⟨.i _ l,k1,⟨l,rfl,hl⟩⟩
  ·split at ht
   ·injection ht with ht;cases ht
   split at ht
   ·cases hq:trTs P (trT P 19) 0 _ with
    | none=>rw[hq] at ht;cases ht
    | some q=>rw[hq] at ht;injection ht with ht;cases ht
   ·cases ht
  ·split at ht
   ·cases hq:trT P 19 _ with
    | none=>rw[hq] at ht;cases ht
    | some q=>rw[hq] at ht;injection ht with ht;cases ht
   ·cases ht
  ·cases ht
theorem open_args (hI:∀g o v,w.cell? ⟨g,o,none⟩=some v->I g o v) (hspa:∀b,spare b=true) {r:Reach} {b0:Nat}:∀(ts:List TypeId) (tts:List TT) (vs:List Value) (ds:List (DataW H)) (ps:List MemPlace),ts.mapM (trT P 20)=some tts->(∀(j:Nat) t v,ts[j]? = some t->vs[j]? = some v->Value.okWide P w r b0 t v)->DataW.TrodAll enc P w base spare held ts vs ds ps->(∀n∈DataW.weightsEach P ts ds,n<=reachBytes)->∃xs,zac G I xs vs/\ShAs tts xs
 | [],tts,vs,ds,ps,ht,hv,h,hwt=>by
  simp at ht;subst ht;obtain⟨rfl,_,_⟩:=trodAll_nil h;exact⟨[],zac.nil,rfl⟩
 | t::ts,tts,vs,ds,ps,ht,hv,h,hwt=>by
  simp only[List.mapM_cons,Option.bind_eq_bind,Option.pure_def] at ht
  cases h1:trT P 20 t with
  | none=>simp[h1] at ht
  | some tt=>
   cases h2:ts.mapM (trT P 20) with
   | none=>simp[h1,h2] at ht
   | some tts'=>
    simp[h1,h2] at ht;subst ht;obtain⟨v,vs',d,ds',p,q,rfl,rfl,rfl,k1,k2⟩:=trodAll_cons h;obtain⟨x,x1,x2⟩:=open_arg (G:=G) (I:=I) hI hspa h1 (hv 0 t v rfl rfl) k1 (fun n hn=>hwt n (by simp only[DataW.weightsEach,qn];exact .inl hn));obtain⟨xs,y1,y2⟩:=open_args hI hspa ts tts' vs' ds' q h2 (fun j t v hj hv'=>hv (j+1) t v (by simpa using hj) (by simpa using hv')) k2 (fun n hn=>hwt n (by simp only[DataW.weightsEach,qn];exact .inr hn));exact⟨x::xs,zac.cons x1 y1,⟨x,xs,rfl,x2,y2⟩⟩
theorem zec (hl:laidOutB P=true) {W W':World} {sp':Nat->Bool}:∀(ts:List TypeId) (vs:List Value) (ds:List (DataW H)) (ps:List MemPlace),(∀t∈ts,P.readableRec t=true/\t<P.types.size)->DataW.TrodAll enc P W 0 (fun _=>true) true ts vs ds ps->Below W.heap.size W W'->(∀p∈ps,p.block<W.heap.size)->(∀p∈ps,sp' p.block=true)->DataW.TrodAll enc P W' 0 sp' true ts vs ds ps
 | [],vs,ds,ps,hr,h,hb,hlt,hs=>by
  obtain⟨rfl,rfl,rfl⟩:=trodAll_nil h;exact trodAll_mk0
 | t::ts,vs,ds,ps,hr,h,hb,hlt,hs=>by
  obtain⟨v,vs',d,ds',p,q,rfl,rfl,rfl,k1,k2⟩:=trodAll_cons h;have h1:=hr t (jd ..);exact trodAll_cons_mk (WideElems.Trod_stays hl h1.1 h1.2 k1 (fun x hx=>hb.same (hlt x (jy _ hx))) (fun x hx=>hs x (jy _ hx)))
   (zec hl ts vs' ds' q (fun t ht=>hr t (qx _ ht)) k2 hb (fun x hx=>hlt x (xk _ hx)) (fun x hx=>hs x (xk _ hx)))
end
theorem post_true {H:Type} {enc:TypeId×Value->H} {P:Program} {f:Func} {s:ChangeSpec} {apart fresh handsOn again:Bool} {W W':World} {args:Array Value} {ds gs:List (DataW H)} {before:List MemPlace}
  (hl:laidOutB P=true) (hts:∀t∈f.params.toList,P.readableRec t=true/\t<P.types.size) {tb:TypeId} (hrt:f.resultTypes=#[tb]) (hub:P.underlying tb=some .bool) (hsv:s.vars=[])
  (hW:DataW.Whole enc P f.params.toList s.vars apart W args.toList ds gs before) (hfn:s.fn H (ds++gs)={ results:=[.lit (.bool true)],args:=ds }) (hb:Below W.heap.size W W'):s.post enc P f apart fresh handsOn again W args (.bool true) W':=by
 have hlt:∀p∈before,p.block<W.heap.size:=fun p hp=>hW.lt p hp;have hold:∀p∈before,(fun b=>decide (b<W.heap.size)) p.block=true:=fun p hp=>by simpa using hlt p hp
 have hW':=hW;obtain⟨p,q,hA,hV,rfl,hz,hn⟩:=hW';rw[hsv] at hV;have hvars:gs=[]/\q=[]:=by
  cases gs with
  | nil=>exact⟨rfl,hV⟩
  | cons g gs=>exact hV.elim
 obtain⟨rfl,rfl⟩:=hvars;simp only[qw] at *;have hres:∀(b:Nat) (sp:Nat->Bool) (hd:Bool),DataW.TrodAll enc P W' b sp hd f.resultTypes.toList ((Value.bool true).resultList f.resultTypes.size) (s.fn H ds).results []:=by
  intro b sp hd;rw[hfn,hrt];exact trodAll_cons_mk (shut_bool hub _) trodAll_mk0
 have hargs:∀sp:Nat->Bool,(∀x∈p,sp x.block=true)->DataW.TrodAll enc P W' 0 sp true f.params.toList args.toList (s.fn H ds).args p:=by
  intro sp hsp;rw[hfn];exact zec hl _ _ _ _ hts hA hb hlt hsp
 have hvs:∀sp:Nat->Bool,DataW.TrodVars enc P W' sp s.vars (s.fn H ds).vars []:=by
  intro sp;rw[hsv,hfn];rfl
 refine⟨ds,[],p,[],p,[],hW,by simpa using hres _ _ _,by simpa using hargs _ hold,by simpa using hvs _,World.keptBut_mono (fun x hx=>⟨hx,?_⟩) (hb.frame (·∈p)),fun _=>?_⟩
 ·exact Or.inr (Or.inl hx)
 ·refine⟨?_,_,_,([]++p)++[],⟨[]++p,[],trodAll_append (by simpa using hargs _ (fun _ _=>rfl)) (by simpa using hres _ _ _),by simpa using hvs _,rfl,?_,?_⟩,?_⟩
  ·intro j t r hj hr;rw[hrt] at hj hr
   cases j with
   | zero=>
    simp at hj;subst hj;have:r=.bool true:=by simpa[Value.resultList] using hr.symm
    subst this;exact okWide_bool_mk hub _
   | succ j=>simp at hj
  ·intro b off hp;have hin:MemPlace.cell b off∈p:=by simpa using hp
   rw[hb.frozen (hlt _ hin)];exact hz b off hin
  ·intro ha;simpa using hn ha
  ·intro x hx _;simpa using hx
section
variable {H:Type} {enc:TypeId×Value->H}
end
end Go.Proofs.YtomkbafdmbfmfaaGreatDoor.Sx
namespace Go.Proofs.YtomkbafdmbfmfaaGreatDoor
open Sx
open List renaming length_cons->ze
theorem zmA {c:Int} (h:(Lit.int .u8 c).wf=true):∃u:UInt8,c=(u.toNat:Int):=by
 have h':0<=c/\c<=255:=by simpa[Lit.wf,IntKind.min,IntKind.max,IntKind.signed,IntKind.bits] using h
 exact⟨UInt8.ofNat c.toNat,by rw[UInt8.toNat_ofNat'];omega⟩
theorem sl_u8:∀{gs:List (List AV)},(∀g∈gs,ShT (.i .u8) g)->∃l:List UInt8,gs.flatten=byA l/\gs.length=l.length
 | [],_=>⟨[],rfl,rfl⟩
 | g::gs,h=>by
  obtain⟨l,h1,h2⟩:=sl_u8 (fun x hx=>h x (List.mem_cons_of_mem _ hx));obtain⟨n,rfl,hw⟩:=h g (List.mem_cons_self ..);obtain⟨c,rfl⟩:=zmA hw;exact⟨c::l,by rw[List.flatten_cons,h1];rfl,by rw[ze,ze,h2]⟩
end Go.Proofs.YtomkbafdmbfmfaaGreatDoor
namespace Go.Proofs.YtomkbafdmbfmfaaGreatDoor.Sx
open Go.RowKit
theorem zhF {k:IntKind} {r:Int} {K K':Int->Prop} (hk:∀v,K v->K' v) (h:arK k r K):arK k r K':=by
 cases k
 all_goals first|exact hk _ h|exact⟨h.1,hk _ h.2⟩
theorem zpn {op:BinOp} {x y:AV} {K K':AV->Prop} (hk:∀v,K v->K' v) (h:binK op x y K):binK op x y K':=by
 unfold binK at h ⊢
 split at h
 ·refine⟨h.1,?_⟩
  replace h:=h.2
  cases op
  all_goals first
   | exact h.elim
   | exact zhF (fun _ g=>hk _ g) h
   | exact⟨h.1,zhF (fun _ g=>hk _ g) h.2⟩
   | exact⟨h.1,hk _ h.2⟩
   | exact hk _ h
 all_goals
  revert h
  cases op
  all_goals first
   | exact fun h=>h.elim
   | exact fun h=>⟨h.1,hk _ h.2⟩
   | exact fun h=>hk _ h
section
variable {P:Program} [Tabs P] {C:Cx}
theorem zfd {so:SOp} {objs:List OB} {tm:List AV} {K K':List OB->AV->Prop} (hk:∀o v,K o v->K' o v) (h:wpS P so objs tm K):wpS P so objs tm K':=by
 cases so
 all_goals simp only[wpS] at h ⊢
 all_goals try exact hk _ _ h
 all_goals try exact⟨h.1,hk _ _ h.2⟩
 all_goals try exact zpn (fun _ g=>hk _ _ g) h
 all_goals try exact h.mono hk
 all_goals try exact⟨h.1,h.2.mono fun _ _ g=>⟨g.1,hk _ _ g.2⟩⟩
 all_goals
  revert h
  repeat' split
  all_goals first
   | exact fun h=>h.elim
   | exact fun h=>hk _ _ h
   | exact fun h=>⟨h.1,hk _ _ h.2⟩
   | exact fun h=>zhF (fun _ g=>hk _ _ g) h
   | exact fun h=>⟨fun e=>hk _ _ (h.1 e),fun e=>hk _ _ (h.2 e)⟩
   | exact fun ⟨v,h1,h2⟩=>⟨v,h1,hk _ _ h2⟩
   | exact fun ⟨h0,l,h1,h2⟩=>⟨h0,l,h1,hk _ _ h2⟩
   | exact fun h=>⟨h.1,h.2.mono hk⟩
theorem zaX:∀{l:List SO} {objs:List OB} {tm:List AV} {K K':List OB->List AV->Prop},(∀o t,K o t->K' o t)->wpR P l objs tm K->wpR P l objs tm K'
 | [],_,_,_,_,hk,h=>hk _ _ h
 | ⟨dst,op,none⟩::r,_,_,_,_,hk,h=>zfd (fun _ _ g=>zaX hk g) h
 | ⟨dst,op,some (t,want)⟩::r,objs,tm,K,K',hk,h=>by
  simp only[wpR] at h ⊢
  revert h
  split
  ·exact fun h=>⟨fun e=>zfd (fun _ _ g=>zaX hk g) (h.1 e),fun e=>zaX hk (h.2 e)⟩
  ·exact fun h=>zaX hk h
  ·exact fun h=>h.elim
theorem zcT:∀{l:List SO} {objs:List OB} {tm:List AV} {K K':List OB->List AV->Prop},(∀o t,K o t->K' o t)->wpD P l objs tm K->wpD P l objs tm K'
 | [],_,_,_,_,hk,h=>hk _ _ h
 | ⟨dst,op,none⟩::r,_,_,_,_,hk,h=>by
  simp only[wpD] at h ⊢
  revert h
  split
  ·exact fun ⟨v,h1,h2⟩=>⟨v,h1,zcT hk h2⟩
  ·exact fun h=>zfd (fun _ _ g=>zcT hk g) h
 | ⟨dst,op,some (t,want)⟩::r,objs,tm,K,K',hk,h=>by
  simp only[wpD] at h ⊢
  revert h
  split
  ·refine fun h=>⟨fun e=>?_,fun e=>zcT hk (h.2 e)⟩;have h1:=h.1 e
   revert h1
   split
   ·exact fun ⟨v,h1,h2⟩=>⟨v,h1,zcT hk h2⟩
   ·exact fun h=>zfd (fun _ _ g=>zcT hk g) h
  ·exact fun h=>zcT hk h
  ·exact fun h=>h.elim
theorem zlu {N N':List OB->List AV->Prop} {K K':zaP} (hn:∀o t,N o t->N' o t) (hk:∀e o t,K e o t->K' e o t):∀e o t,zed N K e o t->zed N' K' e o t:=by
 intro e o t h
 cases e<;>first|exact hn _ _ h|exact hk _ _ _ h
theorem zpm {id:Nat} {K K':zaP} (hk:∀e o t,K e o t->K' e o t):∀e o t,blkK id K e o t->blkK id K' e o t:=by
 intro e o t h
 cases e
 all_goals try exact hk _ _ _ h
 rename_i i;unfold blkK at h ⊢;simp only at h ⊢
 split at h
 ·rename_i g;rw[if_pos g];exact hk _ _ _ h
 ·rename_i g;rw[if_neg g];exact hk _ _ _ h
theorem zgV:∀(st:List (List SO×SO)) (h:List (List SO×List AV×List AV)) (last:List SO) (o:List OB) (t:List AV) {K K':List OB->List AV->Prop},(∀o t,K o t->K' o t)->wpT P st h last o t K->wpT P st h last o t K'
 | [],h,last,o,t,K,K',hk,g=>zaX hk g
 | (L,c)::st,h,last,o,t,K,K',hk,g=>zaX (fun _ _ g=>zaX (fun _ _ g=>⟨g.1,zgV st _ last _ _ hk g.2⟩) g) g
theorem zjC (d:Nat) (T:TypeId) (z:List AV):∀(st:List (List SO×SO)) (h:List (List SO×List AV×List AV)) (last:List SO) (o:List OB) (t:List AV) {K K':List OB->List AV->Prop},(∀o t,K o t->K' o t)->wpB P d T z st h last o t K->wpB P d T z st h last o t K'
 | [],h,last,o,t,K,K',hk,g=>zaX (fun _ _ g=>⟨g.1,hk _ _ g.2⟩) g
 | (L,c)::st,h,last,o,t,K,K',hk,g=>zaX (fun _ _ g=>⟨⟨g.1.1,zaX (fun _ _ g=>⟨g.1,zgV st _ last _ _ hk g.2⟩) g.1.2⟩,zaX (fun _ _ g=>⟨g.1,zjC d T z st _ last _ _ hk g.2⟩) g.2⟩) g
theorem zdB:∀(c:SCode) {K K':zaP} {objs:List OB} {tm:List AV},(∀e o t,K e o t->K' e o t)->wpC P C c K objs tm->wpC P C c K' objs tm
 | .skip,_,_,_,_,hk,h=>hk _ _ _ h
 | .reg l,_,_,_,_,hk,h=>zaX (fun _ _ g=>hk _ _ _ g) h
 | .drw l k ap,_,_,_,_,hk,h=>zcT (fun _ _ g=>⟨g.1,zaX (fun _ _ g=>hk _ _ _ g) g.2⟩) h
 | .crg pre cl post,_,_,_,_,hk,h=>zaX (fun _ _ g=>zaX (fun _ _ g=>⟨g.1,zaX (fun _ _ g=>hk _ _ _ g) g.2⟩) g) h
 | .crs st last,_,_,_,_,hk,h=>zgV st [] last _ _ (fun _ _ g=>hk _ _ _ g) h
 | .cra d T z st last sr,_,_,_,_,hk,h=>⟨h.1,zjC d T z st [] last _ _ (fun _ _ g=>zaX (fun _ _ g=>hk _ _ _ g) g) h.2⟩
 | .seq x y,_,_,_,_,hk,h=>zdB x (zlu (fun _ _ g=>zdB y hk g) hk) h
 | .cond c x y,_,_,_,_,hk,h=>by
  simp only[wpC] at h ⊢
  revert h
  split
  ·exact fun h=>⟨fun e=>zdB x hk (h.1 e),fun e=>zdB y hk (h.2 e)⟩
  ·exact fun h=>h.elim
 | .blk id c,_,_,_,_,hk,h=>zdB c (zpm hk) h
 | .loop c,_,_,_,_,hk,h=>fun c hc=>WP.mono (fun e o t g=>by cases e<;>first|exact hk _ _ _ g|exact g) (h c hc)
 | .exit id,_,_,_,_,hk,h=>hk _ _ _ h
 | .ret,_,_,_,_,hk,h=>hk _ _ _ h
 | .dead,_,_,_,_,hk,h=>h.elim
def cutF (P:Program) [Tabs P] (C:Cx) (J:List OB->List AV->Prop) (k:List IT) (F:zaP):zaP:=zed J (zld P C F k)
variable {F:zaP} {k:List IT} {objs:List OB} {tm:List AV}
theorem zaA (J:List OB->List AV->Prop):cutF P C J k F .normal objs tm=J objs tm:=Eq.trans rfl rfl
theorem zc9 (J:List OB->List AV->Prop):cutF P C J k F .ret objs tm=F .ret objs tm:=zcD k
theorem zei {x:SCode} (J:List OB->List AV->Prop) (h:run P C [.code x] objs tm (cutF P C J k F)) (hJ:∀o t,J o t->run P C k o t F):run P C (.code x::k) objs tm F :=
 zdB x (fun e o t g=>by
  cases e
  ·exact hJ _ _ g
  all_goals exact g) h
theorem kC_cut {x y:SCode} {t:Bool} (J:List OB->List AV->Prop) (h1:t=true->run P C [.code x] objs tm (cutF P C J k F)) (h2:t=false->run P C [.code y] objs tm (cutF P C J k F)) (hJ:∀o t,J o t->run P C k o t F):kC P C (.b t) x y k objs tm F :=
 ⟨fun e=>zei J (h1 e) hJ,fun e=>zei J (h2 e) hJ⟩
end
section
variable {P:Program} [Tabs P] {C:Cx} {F:zaP} {k:List IT} {objs:List OB} {tm:List AV}
theorem zaj {x y:SCode} (h:∀Y,Y=y->run P C (.code x::.code Y::k) objs tm F):run P C (.code (.seq x y)::k) objs tm F:=h y rfl
end
end Go.Proofs.YtomkbafdmbfmfaaGreatDoor.Sx
namespace Go.Proofs.YtomkbafdmbfmfaaGreatDoor
open Nat renaming reduceAdd -> z6, reduceSub -> z7, reduceLeDiff -> z8, reduceLT -> j4, reduceMul -> j5, reduceEqDiff -> j6
open Int renaming reduceToNat -> j7, reduceAdd -> j8, reduceSub -> j9, reduceMul -> x0, reduceNeg -> x4, reduceLT -> x5, reduceLE -> x6, reduceEq -> x7, reduceNe -> x8
open Go.RowKit Sx
open List renaming getElem?_set->zb, length_cons->ze
def zim (c:UInt8):Bool:=decide ((32<=c.toNat/\c.toNat≠127)\/c.toNat=9)
def zfu (l:List UInt8):Bool:=l.all zim
def zjI:List UInt8->Nat
 | []=>0
 | c::t=>if zcu c=true then zjI t+1 else 0
def zeU (l:List UInt8):Bool:=!l.isEmpty&&l.all zcu
theorem zmu:∀l:List UInt8,zjI l<=l.length
 | []=>Nat.le_refl _
 | c::t=>by
  have:=zmu t;unfold zjI
  split<;>simp only[ze]<;>omega
theorem zjH:∀l:List UInt8,(zjI l=l.length)↔l.all zcu=true
 | []=>by simp[zjI]
 | c::t=>by
  have h:=zjH t;have h2:=zmu t;unfold zjI
  by_cases hc:zcu c=true
  ·rw[if_pos hc,ze,List.all_cons,hc,Bool.true_and,<-h];omega
  ·rw[if_neg hc,ze,List.all_cons];simp only[hc,Bool.false_and]
   constructor
   ·intro h3;omega
   ·intro h3;cases h3
theorem tok_at (s:List UInt8) (i:Nat) (h:i<s.length):zjI (s.drop i)=if zcu s[i]=true then zjI (s.drop (i+1))+1 else 0:=by
 rw[List.drop_eq_getElem_cons h,zjI]
section
variable [Tabs Tryz.prog] {objs:List OB} {K:List OB->AV->Prop}
theorem fByte_k (c:UInt8) (hk:K objs (.b (zim c))):zaa Tryz.prog 244 [.i .u8 c.toNat] objs K:=by
 refine zaR is_fieldtext_IsByte rfl fun C _=>?_;unfold zim at hk
 by_cases c1:(32:Int)<=c.toNat
 ·by_cases c2:((c.toNat:Nat):Int)=127
  ·have c3:¬((c.toNat:Nat):Int)=9:=by omega
   rw[decide_eq_false (by omega)] at hk;simp only[c2,c_fieldtext_IsByte,sxZ,z6,z7,z8,j4,j5,j6,j7,j8,j9,x0,x4,x5,x6,x7,x8,reduceCtorEq,↓reduceIte];exact hk
  ·rw[decide_eq_true (by omega)] at hk;simp only[c1,c2,c_fieldtext_IsByte,sxZ,z6,z7,z8,j4,j5,j6,j7,j8,j9,x0,x4,x5,x6,x7,x8,reduceCtorEq,↓reduceIte];exact hk
 ·have e:decide ((32<=c.toNat/\c.toNat≠127)\/c.toNat=9)=decide (((c.toNat:Nat):Int)=9):=by
   by_cases c3:((c.toNat:Nat):Int)=9
   ·rw[decide_eq_true c3,decide_eq_true (by omega)]
   ·rw[decide_eq_false c3,decide_eq_false (by omega)]
  rw[e] at hk;simp only[c1,c_fieldtext_IsByte,sxZ,z6,z7,z8,j4,j5,j6,j7,j8,j9,x0,x4,x5,x6,x7,x8,reduceCtorEq,↓reduceIte];exact hk
theorem zoH (s:List UInt8) (hs:s.length<=9000000000000000000) (hk:K objs (.b (zfu s))):zaa Tryz.prog 182 [.s s] objs K:=by
 refine zaR is_fieldtext_IsText rfl fun C _=>?_;simp only[c_fieldtext_IsText,sxZ,z6,z7,z8,j4,j5,j6,j7,j8,j9,x0,x4,x5,x6,x7,x8,reduceCtorEq,↓reduceIte];refine zbi (fun n objs tm=>∃i:Nat,i<=s.length/\n=s.length - i/\objs=[]/\(∀j (h:j<s.length),j<i->zim s[j]=true)/\tm.length=15/\tm[0]? = some (.s s)/\tm[5]? = some (.i .i64 s.length)/\tm[6]? = some (.i .i64 i)) s.length ⟨0,Nat.zero_le _,rfl,rfl,fun j h h0=>absurd h0 (by omega),rfl,rfl,rfl,rfl⟩ ?_;rintro n _ tm ⟨i,hi,rfl,rfl,hall,hlen,t0,t5,t6⟩
 by_cases hlt:(i:Int)<s.length
 ·have hlt':i<s.length:=by omega
  have hg:=zc5 hlt';simp only[sxZ,z6,z7,z8,j4,j5,j6,j7,j8,j9,x0,x4,x5,x6,x7,x8,reduceCtorEq,↓reduceIte,zb,hlen,t0,t5,t6,hlt];refine⟨by omega,?_⟩;rw[hg];refine zal (fByte_k s[i] ?_)
  by_cases hd:zim s[i]=true
  ·simp only[hd,sxZ,z6,z7,z8,j4,j5,j6,j7,j8,j9,x0,x4,x5,x6,x7,x8,reduceCtorEq,↓reduceIte,zb,hlen,t0,t5,t6];refine⟨by omega,s.length - (i+1),by omega,i+1,by omega,rfl,?_,rfl⟩;intro j hj hji;rcases Nat.lt_or_ge j i with h1|h1
   ·exact hall j hj h1
   ·obtain rfl:j=i:=by omega
    exact hd
  ·simp only[Bool.not_eq_true] at hd;unfold zfu at hk;rw[all_not hlt' hd] at hk;simp only[hd,sxZ,z6,z7,z8,j4,j5,j6,j7,j8,j9,x0,x4,x5,x6,x7,x8,reduceCtorEq,↓reduceIte,zb,hlen,t0,t5,t6];exact hk
 ·obtain rfl:i=s.length:=by omega
  unfold zfu at hk;rw[all_of fun j h=>hall j h h] at hk;simp only[sxZ,z6,z7,z8,j4,j5,j6,j7,j8,j9,x0,x4,x5,x6,x7,x8,reduceCtorEq,↓reduceIte,zb,hlen,t0,t5,t6,hlt];exact hk
theorem zjr (s:List UInt8) (a:Nat) (ha:a<=s.length) (hs:s.length<=9000000000000000000) (hk:K objs (.i .i64 ((a+zjI (s.drop a):Nat):Int))):zaa Tryz.prog 245 [.s s,.i .i64 (a:Nat)] objs K:=by
 refine zaR is_fieldtext_TokenEnd rfl fun C _=>?_;simp only[c_fieldtext_TokenEnd,sxZ,z6,z7,z8,j4,j5,j6,j7,j8,j9,x0,x4,x5,x6,x7,x8,reduceCtorEq,↓reduceIte];refine zbi (fun n objs tm=>∃i:Nat,i<=s.length/\n=s.length - i/\objs=[]/\a+zjI (s.drop a)=i+zjI (s.drop i)/\tm.length=18/\tm[0]? = some (.s s)/\tm[1]? = some (.i .i64 i)) (s.length - a) ⟨a,ha,rfl,rfl,rfl,rfl,rfl,rfl⟩ ?_;rintro n _ tm ⟨i,hi,rfl,rfl,hr,hlen,t0,t1⟩
 by_cases hlt:(i:Int)<s.length
 ·have hlt':i<s.length:=by omega
  have hg:=zc5 hlt';have hrn:=tok_at s i hlt';simp only[sxZ,z6,z7,z8,j4,j5,j6,j7,j8,j9,x0,x4,x5,x6,x7,x8,reduceCtorEq,↓reduceIte,zb,hlen,t0,t1,hlt];refine⟨by omega,?_⟩;rw[hg];refine zal (aTok_k s[i] ?_)
  by_cases hd:zcu s[i]=true
  ·rw[if_pos hd] at hrn;simp only[hd,sxZ,z6,z7,z8,j4,j5,j6,j7,j8,j9,x0,x4,x5,x6,x7,x8,reduceCtorEq,↓reduceIte,zb,hlen,t0,t1];exact⟨⟨by omega,by omega⟩,s.length - (i+1),by omega,i+1,by omega,rfl,by omega,rfl⟩
  ·rw[if_neg hd] at hrn;simp only[Bool.not_eq_true] at hd;simp only[hd,sxZ,z6,z7,z8,j4,j5,j6,j7,j8,j9,x0,x4,x5,x6,x7,x8,reduceCtorEq,↓reduceIte,zb,hlen,t0,t1];rw[hr,hrn] at hk;exact hk
 ·obtain rfl:i=s.length:=by omega
  have he:zjI (s.drop s.length)=0:=by rw[List.drop_length];rfl
  simp only[sxZ,z6,z7,z8,j4,j5,j6,j7,j8,j9,x0,x4,x5,x6,x7,x8,reduceCtorEq,↓reduceIte,zb,hlen,t0,t1,hlt];rw[hr,he] at hk;exact hk
theorem fToken_k (s:List UInt8) (hs:s.length<=9000000000000000000) (hk:K objs (.b (zeU s))):zaa Tryz.prog 183 [.s s] objs K:=by
 refine zaR is_fieldtext_IsToken rfl fun C _=>?_;unfold zeU at hk
 by_cases c0:s=[]
 ·subst c0;simp only[c_fieldtext_IsToken,sxZ,z6,z7,z8,j4,j5,j6,j7,j8,j9,x0,x4,x5,x6,x7,x8,reduceCtorEq,↓reduceIte];exact hk
 ·have he:s.isEmpty=false:=by cases s<;>simp_all
  rw[he] at hk;simp only[c0,c_fieldtext_IsToken,sxZ,z6,z7,z8,j4,j5,j6,j7,j8,j9,x0,x4,x5,x6,x7,x8,reduceCtorEq,↓reduceIte];refine zal (zjr s 0 (Nat.zero_le _) hs ?_);rw[List.drop_zero,Nat.zero_add];have h2:=zjH s;have e:decide (((zjI s:Nat):Int)=s.length)=(!false&&s.all zcu):=by
   cases ha:s.all zcu with
   | true=>rw[decide_eq_true (by rw[h2.2 ha])];rfl
   | false=>
    rw[decide_eq_false (fun h=>by
     have h3:=h2.1 (by omega);rw[ha] at h3;cases h3)];rfl
  simp only[sxZ,z6,z7,z8,j4,j5,j6,j7,j8,j9,x0,x4,x5,x6,x7,x8,reduceCtorEq,↓reduceIte];rw[e];exact hk
end
end Go.Proofs.YtomkbafdmbfmfaaGreatDoor
