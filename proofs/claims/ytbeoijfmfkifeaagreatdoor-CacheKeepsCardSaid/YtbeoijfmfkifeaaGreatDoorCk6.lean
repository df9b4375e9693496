/- The texts that the proofs of these statements reach, in their order, as few files. -/
import Derived.Test.YtbeoijfmfkifeaaGreatDoorProg
import Derived.Shelf.Spec.SlicesInsert
import Derived.Lib.AppendZerosOnto
import Derived.Laws.NewBlocks
import Derived.Maps.AppendAt
import Derived.WalkKit
import Derived.Deep.RegionLaw
import Derived.ProofKit
import Derived.OpenShut
import Derived.ShutString
import Derived.Carry
import Derived.WideKeyArgs
import Derived.SizedLaws
import Derived.Test.YtbeoijfmfkifeaaGreatDoorCk5
set_option linter.unusedVariables false
set_option linter.unusedSimpArgs false
set_option maxRecDepth 100000
namespace Go.Proofs.YtbeoijfmfkifeaaGreatDoor.Sx
open Go.RowKit
set_option maxRecDepth 100000
def c_host_Host:SCode :=
 .seq (.reg [⟨some 2,.mv (.c (.s [])),none⟩,
 ⟨some 3,.mv (.c (.i .i64 0)),none⟩])
 (.seq (.blk 0
 (.seq (.reg [⟨some 5,.mv (.t 0),none⟩,
 ⟨some 6,.bin .eql (.t 5) (.c (.s [])),none⟩,
 ⟨some 4,.mv (.t 6),none⟩])
 (.cond (.t 4)
 (.seq (.reg [⟨some 2,.mv (.c (.s [])),none⟩,
 ⟨some 3,.mv (.c (.i .i64 3)),none⟩])
 (.ret))
 (.seq (.reg [⟨some 8,.mv (.t 0),none⟩,
 ⟨some 9,.lens (.t 8),none⟩,
 ⟨some 10,.bin .gtr (.t 9) (.c (.i .i64 253)),none⟩,
 ⟨some 7,.mv (.t 10),none⟩])
 (.cond (.t 7)
 (.seq (.reg [⟨some 2,.mv (.c (.s [])),none⟩,
 ⟨some 3,.mv (.c (.i .i64 5)),none⟩])
 (.ret))
 (.seq (.reg [⟨some 12,.mv (.t 0),none⟩,
 ⟨some 13,.call 163 [.t 12],none⟩,
 ⟨some 14,.not (.t 13),none⟩,
 ⟨some 15,.mv (.t 14),none⟩,
 ⟨some 16,.mv (.t 0),some (15,true)⟩,
 ⟨some 17,.call 140 [.t 16],some (15,true)⟩,
 ⟨some 18,.not (.t 17),some (15,true)⟩,
 ⟨some 19,.pick (.t 15) (.t 18) (.c (.b false)),none⟩,
 ⟨some 11,.mv (.t 19),none⟩])
 (.cond (.t 11)
 (.seq (.reg [⟨some 2,.mv (.c (.s [])),none⟩,
 ⟨some 3,.mv (.c (.i .i64 50)),none⟩])
 (.ret))
 (.skip))))))))
 (.seq (.reg [⟨some 20,.mv (.t 0),none⟩,
 ⟨some 21,.call 89 [.t 20],none⟩,
 ⟨some 2,.mv (.t 21),none⟩,
 ⟨some 3,.mv (.c (.i .i64 0)),none⟩])
 (.ret)))
theorem is_host_Host:FnIs Tryz.prog 137 22 [.tmp 2,.tmp 3] c_host_Host:=⟨⟨_,_,Tryz.func137,rfl,rfl,by kernel_rfl,by kernel_rfl⟩⟩
def c_mail_parseLocal:SCode :=
 .seq (.reg [⟨some 2,.mv (.c (.s [])),none⟩,
 ⟨some 3,.mv (.c (.i .i64 0)),none⟩])
 (.seq (.seq (.reg [⟨some 7,.mv (.t 0),none⟩,
 ⟨some 8,.lens (.t 7),none⟩,
 ⟨some 9,.mv (.c (.i .i64 0)),none⟩])
 (.blk 0
 (.loop
 (.seq (.reg [⟨some 10,.bin .lss (.t 9) (.t 8),none⟩])
 (.seq (.cond (.t 10)
 (.skip)
 (.exit 0))
 (.seq (.blk 1
 (.seq (.reg [⟨some 11,.mv (.t 9),none⟩,
 ⟨some 4,.mv (.t 11),none⟩])
 (.seq (.reg [⟨some 12,.mv (.t 0),none⟩,
 ⟨some 13,.mv (.t 4),none⟩,
 ⟨some 14,.idx (.t 12) (.t 13),none⟩,
 ⟨some 15,.call 160 [.t 14],none⟩,
 ⟨some 16,.not (.t 15),none⟩,
 ⟨some 17,.mv (.t 16),none⟩,
 ⟨some 18,.mv (.t 0),some (17,true)⟩,
 ⟨some 19,.mv (.t 4),some (17,true)⟩,
 ⟨some 20,.idx (.t 18) (.t 19),some (17,true)⟩,
 ⟨some 21,.call 165 [.t 20,.c (.s [37,33,36,39,42,43])],some (17,true)⟩,
 ⟨some 22,.not (.t 21),some (17,true)⟩,
 ⟨some 23,.pick (.t 17) (.t 22) (.c (.b false)),none⟩])
 (.cond (.t 23)
 (.seq (.reg [⟨some 2,.mv (.c (.s [])),none⟩,
 ⟨some 3,.mv (.c (.i .i64 1)),none⟩])
 (.ret))
 (.skip)))))
 (.reg [⟨some 24,.bin .add (.t 9) (.c (.i .i64 1)),none⟩,
 ⟨some 9,.mv (.t 24),none⟩])))))))
 (.seq (.reg [⟨some 26,.mv (.t 0),none⟩,
 ⟨some 27,.call 153 [.t 26],none⟩,
 ⟨some 25,.mv (.t 27),none⟩,
 ⟨some 28,.ext (.t 25) 0,none⟩,
 ⟨some 29,.ext (.t 25) 1,none⟩,
 ⟨some 5,.mv (.t 28),none⟩,
 ⟨some 6,.mv (.t 29),none⟩])
 (.seq (.seq (.reg [⟨some 30,.mv (.t 6),none⟩,
 ⟨some 31,.bin .neq (.t 30) (.c (.i .i64 0)),none⟩])
 (.cond (.t 31)
 (.seq (.reg [⟨some 32,.mv (.t 6),none⟩,
 ⟨some 2,.mv (.c (.s [])),none⟩,
 ⟨some 3,.mv (.t 32),none⟩])
 (.ret))
 (.skip)))
 (.seq (.seq (.reg [⟨some 33,.mv (.t 5),none⟩,
 ⟨some 34,.call 166 [.t 33],none⟩,
 ⟨some 35,.not (.t 34),none⟩])
 (.cond (.t 35)
 (.seq (.reg [⟨some 2,.mv (.c (.s [])),none⟩,
 ⟨some 3,.mv (.c (.i .i64 80)),none⟩])
 (.ret))
 (.skip)))
 (.seq (.reg [⟨some 36,.mv (.t 5),none⟩,
 ⟨some 2,.mv (.t 36),none⟩,
 ⟨some 3,.mv (.c (.i .i64 0)),none⟩])
 (.ret))))))
theorem is_mail_parseLocal:FnIs Tryz.prog 139 37 [.tmp 2,.tmp 3] c_mail_parseLocal:=⟨⟨_,_,Tryz.func139,rfl,rfl,by kernel_rfl,by kernel_rfl⟩⟩
def c_host_IsIPv4:SCode :=
 .seq (.reg [⟨some 2,.mv (.c (.b false)),none⟩])
 (.seq (.reg [⟨some 11,.mv (.t 0),none⟩,
 ⟨some 3,.mv (.t 11),none⟩])
 (.seq (.seq (.reg [⟨some 12,.mv (.c (.i .i64 0)),none⟩])
 (.blk 0
 (.loop
 (.seq (.reg [⟨some 13,.bin .lss (.t 12) (.c (.i .i64 4)),none⟩])
 (.seq (.cond (.t 13)
 (.skip)
 (.exit 0))
 (.seq (.blk 1
 (.seq (.reg [⟨some 14,.mv (.t 12),none⟩,
 ⟨some 4,.mv (.t 14),none⟩])
 (.seq (.reg [⟨some 16,.mv (.t 3),none⟩,
 ⟨some 17,.call 88 [.t 16,.c (.s [46])],none⟩,
 ⟨some 15,.mv (.t 17),none⟩,
 ⟨some 18,.ext (.t 15) 0,none⟩,
 ⟨some 19,.ext (.t 15) 1,none⟩,
 ⟨some 20,.ext (.t 15) 2,none⟩,
 ⟨some 5,.mv (.t 18),none⟩,
 ⟨some 6,.mv (.t 19),none⟩,
 ⟨some 7,.mv (.t 20),none⟩])
 (.seq (.seq (.reg [⟨some 21,.mv (.t 4),none⟩,
 ⟨some 22,.bin .eql (.t 21) (.c (.i .i64 3)),none⟩,
 ⟨some 8,.mv (.t 22),none⟩])
 (.seq (.reg [⟨some 23,.mv (.t 7),none⟩,
 ⟨some 24,.mv (.t 8),none⟩,
 ⟨some 25,.beq false (.t 23) (.t 24),none⟩])
 (.cond (.t 25)
 (.seq (.reg [⟨some 2,.mv (.c (.b false)),none⟩])
 (.ret))
 (.skip))))
 (.seq (.seq (.reg [⟨some 27,.mv (.t 5),none⟩,
 ⟨some 28,.call 167 [.t 27,.c (.i .u64 255)],none⟩,
 ⟨some 26,.mv (.t 28),none⟩,
 ⟨some 29,.ext (.t 26) 0,none⟩,
 ⟨some 30,.ext (.t 26) 1,none⟩,
 ⟨some 9,.mv (.t 29),none⟩,
 ⟨some 10,.mv (.t 30),none⟩])
 (.seq (.reg [⟨some 31,.mv (.t 10),none⟩,
 ⟨some 32,.bin .neq (.t 31) (.c (.i .i64 0)),none⟩])
 (.cond (.t 32)
 (.seq (.reg [⟨some 2,.mv (.c (.b false)),none⟩])
 (.ret))
 (.skip))))
 (.reg [⟨some 33,.mv (.t 6),none⟩,
 ⟨some 3,.mv (.t 33),none⟩]))))))
 (.reg [⟨some 34,.bin .add (.t 12) (.c (.i .i64 1)),none⟩,
 ⟨some 12,.mv (.t 34),none⟩])))))))
 (.seq (.reg [⟨some 2,.mv (.c (.b true)),none⟩])
 (.ret))))
theorem is_host_IsIPv4:FnIs Tryz.prog 140 35 [.tmp 2] c_host_IsIPv4:=⟨⟨_,_,Tryz.func140,rfl,rfl,by kernel_rfl,by kernel_rfl⟩⟩
def c_percent_Encode:SCode :=
 .seq (.reg [⟨some 4,.mv (.c (.s [])),none⟩])
 (.seq (.reg [⟨some 7,.mv (.t 0),none⟩,
 ⟨some 8,.lens (.t 7),none⟩,
 ⟨some 9,.mks 5 1 1 (.c (.i .i64 0)) (.t 8),none⟩,
 ⟨some 5,.mv (.t 9),none⟩])
 (.seq (.seq (.reg [⟨some 10,.mv (.t 0),none⟩,
 ⟨some 11,.lens (.t 10),none⟩,
 ⟨some 12,.mv (.c (.i .i64 0)),none⟩])
 (.blk 0
 (.loop
 (.seq (.reg [⟨some 13,.bin .lss (.t 12) (.t 11),none⟩])
 (.seq (.cond (.t 13)
 (.skip)
 (.exit 0))
 (.seq (.blk 1
 (.seq (.reg [⟨some 14,.mv (.t 12),none⟩,
 ⟨some 6,.mv (.t 14),none⟩])
 (.seq (.reg [⟨some 15,.mv (.t 0),none⟩,
 ⟨some 16,.mv (.t 6),none⟩,
 ⟨some 17,.idx (.t 15) (.t 16),none⟩,
 ⟨some 18,.mv (.t 1),none⟩,
 ⟨some 19,.call 162 [.t 17,.t 18],none⟩])
 (.cond (.t 19)
 (.reg [⟨some 20,.mv (.t 5),none⟩,
 ⟨some 21,.mv (.t 0),none⟩,
 ⟨some 22,.mv (.t 6),none⟩,
 ⟨some 23,.idx (.t 21) (.t 22),none⟩,
 ⟨some 24,.bslice 1 [.i .u8 0] [(0,(1,.t 23))],none⟩,
 ⟨some 25,.app 5 1 1 (.t 20) (.t 24),none⟩,
 ⟨some 5,.mv (.t 25),none⟩])
 (.reg [⟨some 26,.mv (.t 5),none⟩,
 ⟨some 27,.mv (.t 0),none⟩,
 ⟨some 28,.mv (.t 6),none⟩,
 ⟨some 29,.idx (.t 27) (.t 28),none⟩,
 ⟨some 30,.call 161 [.t 26,.t 29],none⟩,
 ⟨some 5,.mv (.t 30),none⟩])))))
 (.reg [⟨some 31,.bin .add (.t 12) (.c (.i .i64 1)),none⟩,
 ⟨some 12,.mv (.t 31),none⟩])))))))
 (.seq (.reg [⟨some 32,.mv (.t 5),none⟩,
 ⟨some 33,.cvbs (.t 32),none⟩,
 ⟨some 4,.mv (.t 33),none⟩])
 (.ret))))
theorem is_percent_Encode:FnIs Tryz.prog 141 34 [.tmp 4] c_percent_Encode:=⟨⟨_,_,Tryz.func141,rfl,rfl,by kernel_rfl,by kernel_rfl⟩⟩
def c_uri_Split:SCode :=
 .seq (.reg [⟨some 2,.alloc 150 [.s [],.s [],.s [],.s [],.s [],.b false,.b false,.b false,.b false],none⟩,
 ⟨some 3,.mv (.c (.i .i64 0)),none⟩])
 (.seq (.seq (.reg [⟨some 10,.mv (.t 0),none⟩,
 ⟨some 11,.lens (.t 10),none⟩,
 ⟨some 12,.bin .gtr (.t 11) (.c (.i .i64 16384)),none⟩])
 (.cond (.t 12)
 (.seq (.reg [⟨some 13,.build [.s [],.s [],.s [],.s [],.s [],.b false,.b false,.b false,.b false] [],none⟩,
 ⟨none,.store 9 (.t 2) (.t 13),none⟩,
 ⟨some 3,.mv (.c (.i .i64 5)),none⟩])
 (.ret))
 (.skip)))
 (.seq (.reg [⟨some 14,.mv (.t 0),none⟩,
 ⟨some 4,.alloc 9 [.s []],none⟩,
 ⟨none,.store 1 (.t 4) (.t 14),none⟩])
 (.seq (.reg [⟨some 15,.mkf 168 [] [.t 4],none⟩,
 ⟨some 5,.mv (.t 15),none⟩])
 (.seq (.reg [⟨some 6,.alloc 150 [.s [],.s [],.s [],.s [],.s [],.b false,.b false,.b false,.b false],none⟩])
 (.seq (.reg [⟨some 17,.mv (.t 5),none⟩,
 ⟨some 18,.callv (.t 17) [.c (.i .u8 35)],none⟩,
 ⟨some 16,.mv (.t 18),none⟩,
 ⟨some 19,.ext (.t 16) 0,none⟩,
 ⟨some 20,.ext (.t 16) 1,none⟩,
 ⟨some 21,.fad 4 (.t 6),none⟩,
 ⟨none,.store 1 (.t 21) (.t 19),none⟩,
 ⟨some 22,.fad 8 (.t 6),none⟩,
 ⟨none,.store 1 (.t 22) (.t 20),none⟩])
 (.seq (.reg [⟨some 24,.mv (.t 5),none⟩,
 ⟨some 25,.callv (.t 24) [.c (.i .u8 63)],none⟩,
 ⟨some 23,.mv (.t 25),none⟩,
 ⟨some 26,.ext (.t 23) 0,none⟩,
 ⟨some 27,.ext (.t 23) 1,none⟩,
 ⟨some 28,.fad 3 (.t 6),none⟩,
 ⟨none,.store 1 (.t 28) (.t 26),none⟩,
 ⟨some 29,.fad 7 (.t 6),none⟩,
 ⟨none,.store 1 (.t 29) (.t 27),none⟩])
 (.seq (.seq (.reg [⟨some 30,.load1 (.t 4),none⟩,
 ⟨some 31,.call 170 [.t 30],none⟩,
 ⟨some 7,.mv (.t 31),none⟩])
 (.seq (.reg [⟨some 32,.mv (.t 7),none⟩,
 ⟨some 33,.bin .geq (.t 32) (.c (.i .i64 0)),none⟩])
 (.cond (.t 33)
 (.seq (.seq (.reg [⟨some 34,.load1 (.t 4),none⟩,
 ⟨some 35,.mv (.t 7),none⟩,
 ⟨some 36,.slcs (.t 34) none (some (.t 35)),none⟩,
 ⟨some 37,.call 171 [.t 36],none⟩,
 ⟨some 38,.not (.t 37),none⟩])
 (.cond (.t 38)
 (.seq (.reg [⟨some 39,.build [.s [],.s [],.s [],.s [],.s [],.b false,.b false,.b false,.b false] [],none⟩,
 ⟨none,.store 9 (.t 2) (.t 39),none⟩,
 ⟨some 3,.mv (.c (.i .i64 6)),none⟩])
 (.ret))
 (.skip)))
 (.drw [⟨some 40,.load1 (.t 4),none⟩,
 ⟨some 41,.mv (.t 7),none⟩,
 ⟨some 42,.slcs (.t 40) none (some (.t 41)),none⟩,
 ⟨some 43,.load1 (.t 4),none⟩,
 ⟨some 44,.mv (.t 7),none⟩,
 ⟨some 45,.bin .add (.t 44) (.c (.i .i64 1)),none⟩,
 ⟨some 46,.slcs (.t 43) (some (.t 45)) none,none⟩,
 ⟨some 47,.fad 0 (.t 6),none⟩,
 ⟨none,.store 1 (.t 47) (.t 42),none⟩,
 ⟨some 48,.fad 5 (.t 6),none⟩,
 ⟨none,.store 1 (.t 48) (.c (.b true)),none⟩,
 ⟨none,.store 1 (.t 4) (.t 46),none⟩] 12 [(4,(47,none)),(4,(48,none))]))
 (.skip))))
 (.seq (.seq (.reg [⟨some 50,.load1 (.t 4),none⟩,
 ⟨some 51,.call 148 [.t 50,.c (.s [47,47])],none⟩,
 ⟨some 49,.mv (.t 51),none⟩,
 ⟨some 52,.ext (.t 49) 0,none⟩,
 ⟨some 53,.ext (.t 49) 1,none⟩,
 ⟨some 8,.mv (.t 52),none⟩,
 ⟨some 9,.mv (.t 53),none⟩])
 (.seq (.reg [⟨some 54,.mv (.t 9),none⟩])
 (.cond (.t 54)
 (.seq (.reg [⟨some 55,.mv (.t 8),none⟩,
 ⟨some 56,.call 172 [.t 55],none⟩,
 ⟨some 57,.fad 1 (.t 6),none⟩,
 ⟨none,.store 1 (.t 57) (.t 56),none⟩,
 ⟨some 58,.fad 6 (.t 6),none⟩,
 ⟨none,.store 1 (.t 58) (.c (.b true)),none⟩])
 (.reg [⟨some 59,.mv (.t 8),none⟩,
 ⟨some 60,.fad 1 (.t 6),none⟩,
 ⟨some 61,.load1 (.t 60),none⟩,
 ⟨some 62,.lens (.t 61),none⟩,
 ⟨some 63,.slcs (.t 59) (some (.t 62)) none,none⟩,
 ⟨none,.store 1 (.t 4) (.t 63),none⟩]))
 (.skip))))
 (.seq (.reg [⟨some 64,.load1 (.t 4),none⟩,
 ⟨some 65,.fad 2 (.t 6),none⟩,
 ⟨none,.store 1 (.t 65) (.t 64),none⟩])
 (.seq (.reg [⟨some 66,.loadn 9 (.t 6),none⟩,
 ⟨none,.store 9 (.t 2) (.t 66),none⟩,
 ⟨some 3,.mv (.c (.i .i64 0)),none⟩])
 (.ret)))))))))))
theorem is_uri_Split:FnIs Tryz.prog 142 67 [.celln 2 9,.tmp 3] c_uri_Split:=⟨⟨_,_,Tryz.func142,rfl,rfl,by kernel_rfl,by kernel_rfl⟩⟩
def c_weburl_parseOrigin:SCode :=
 .seq (.reg [⟨some 1,.box 150 (.t 0),none⟩,
 ⟨some 2,.alloc 124 [.s [],.i .i64 0],none⟩,
 ⟨some 3,.mv (.c (.i .i64 0)),none⟩])
 (.seq (.blk 0
 (.seq (.reg [⟨some 5,.fad 5 (.t 1),none⟩,
 ⟨some 6,.load1 (.t 5),none⟩,
 ⟨some 7,.not (.t 6),none⟩,
 ⟨some 8,.mv (.t 7),none⟩,
 ⟨some 9,.fad 0 (.t 1),some (8,false)⟩,
 ⟨some 10,.load1 (.t 9),some (8,false)⟩,
 ⟨some 11,.call 134 [.t 10,.c (.s [104,116,116,112,115])],some (8,false)⟩,
 ⟨some 12,.not (.t 11),some (8,false)⟩,
 ⟨some 13,.pick (.t 8) (.c (.b true)) (.t 12),none⟩,
 ⟨some 4,.mv (.t 13),none⟩])
 (.cond (.t 4)
 (.seq (.reg [⟨some 14,.build [.s [],.i .i64 0] [],none⟩,
 ⟨none,.store 2 (.t 2) (.t 14),none⟩,
 ⟨some 3,.mv (.c (.i .i64 60)),none⟩])
 (.ret))
 (.seq (.reg [⟨some 16,.fad 6 (.t 1),none⟩,
 ⟨some 17,.load1 (.t 16),none⟩,
 ⟨some 18,.not (.t 17),none⟩,
 ⟨some 15,.mv (.t 18),none⟩])
 (.cond (.t 15)
 (.seq (.reg [⟨some 19,.build [.s [],.i .i64 0] [],none⟩,
 ⟨none,.store 2 (.t 2) (.t 19),none⟩,
 ⟨some 3,.mv (.c (.i .i64 71)),none⟩])
 (.ret))
 (.seq (.reg [⟨some 21,.fad 1 (.t 1),none⟩,
 ⟨some 22,.load1 (.t 21),none⟩,
 ⟨some 23,.call 173 [.t 22,.c (.s [64])],none⟩,
 ⟨some 20,.mv (.t 23),none⟩])
 (.cond (.t 20)
 (.seq (.reg [⟨some 24,.build [.s [],.i .i64 0] [],none⟩,
 ⟨none,.store 2 (.t 2) (.t 24),none⟩,
 ⟨some 3,.mv (.c (.i .i64 70)),none⟩])
 (.ret))
 (.skip))))))))
 (.seq (.reg [⟨some 25,.fad 1 (.t 1),none⟩,
 ⟨some 26,.load1 (.t 25),none⟩,
 ⟨some 27,.call 154 [.t 26],none⟩,
 ⟨some 28,.ext (.t 27) 0,none⟩,
 ⟨some 29,.ext (.t 27) 1,none⟩,
 ⟨none,.store 2 (.t 2) (.t 28),none⟩,
 ⟨some 3,.mv (.t 29),none⟩])
 (.ret)))
theorem is_weburl_parseOrigin:FnIs Tryz.prog 143 30 [.celln 2 2,.tmp 3] c_weburl_parseOrigin:=⟨⟨_,_,Tryz.func143,rfl,rfl,by kernel_rfl,by kernel_rfl⟩⟩
def c_weburl_parseRest:SCode :=
 .seq (.reg [⟨some 1,.box 150 (.t 0),none⟩,
 ⟨some 2,.alloc 79 [.s [],.i .i64 0,.s [],.s [],.s [],.b false,.b false],none⟩,
 ⟨some 3,.mv (.c (.i .i64 0)),none⟩])
 (.seq (.reg [⟨some 9,.fad 2 (.t 1),none⟩,
 ⟨some 10,.load1 (.t 9),none⟩,
 ⟨some 11,.call 136 [.t 10,.c (.s [33,36,38,39,40,41,42,43,44,59,61,58,64,47])],none⟩,
 ⟨some 8,.mv (.t 11),none⟩,
 ⟨some 12,.ext (.t 8) 0,none⟩,
 ⟨some 13,.ext (.t 8) 1,none⟩,
 ⟨some 4,.mv (.t 12),none⟩,
 ⟨some 5,.mv (.t 13),none⟩])
 (.seq (.seq (.reg [⟨some 14,.mv (.t 5),none⟩,
 ⟨some 15,.bin .neq (.t 14) (.c (.i .i64 0)),none⟩])
 (.cond (.t 15)
 (.seq (.reg [⟨some 16,.build [.s [],.i .i64 0,.s [],.s [],.s [],.b false,.b false] [],none⟩,
 ⟨some 17,.mv (.t 5),none⟩,
 ⟨none,.store 7 (.t 2) (.t 16),none⟩,
 ⟨some 3,.mv (.t 17),none⟩])
 (.ret))
 (.skip)))
 (.seq (.seq (.reg [⟨some 18,.mv (.t 4),none⟩,
 ⟨some 19,.call 174 [.t 18],none⟩,
 ⟨some 4,.mv (.t 19),none⟩])
 (.seq (.reg [⟨some 20,.mv (.t 4),none⟩,
 ⟨some 21,.bin .eql (.t 20) (.c (.s [])),none⟩])
 (.cond (.t 21)
 (.reg [⟨some 4,.mv (.c (.s [47])),none⟩])
 (.skip))))
 (.seq (.reg [⟨some 23,.fad 3 (.t 1),none⟩,
 ⟨some 24,.load1 (.t 23),none⟩,
 ⟨some 25,.call 136 [.t 24,.c (.s [33,36,38,39,40,41,42,43,44,59,61,58,64,47,63])],none⟩,
 ⟨some 22,.mv (.t 25),none⟩,
 ⟨some 26,.ext (.t 22) 0,none⟩,
 ⟨some 27,.ext (.t 22) 1,none⟩,
 ⟨some 6,.mv (.t 26),none⟩,
 ⟨some 5,.mv (.t 27),none⟩])
 (.seq (.seq (.reg [⟨some 28,.mv (.t 5),none⟩,
 ⟨some 29,.bin .neq (.t 28) (.c (.i .i64 0)),none⟩])
 (.cond (.t 29)
 (.seq (.reg [⟨some 30,.build [.s [],.i .i64 0,.s [],.s [],.s [],.b false,.b false] [],none⟩,
 ⟨some 31,.mv (.t 5),none⟩,
 ⟨none,.store 7 (.t 2) (.t 30),none⟩,
 ⟨some 3,.mv (.t 31),none⟩])
 (.ret))
 (.skip)))
 (.seq (.reg [⟨some 33,.fad 4 (.t 1),none⟩,
 ⟨some 34,.load1 (.t 33),none⟩,
 ⟨some 35,.call 136 [.t 34,.c (.s [33,36,38,39,40,41,42,43,44,59,61,58,64,47,63])],none⟩,
 ⟨some 32,.mv (.t 35),none⟩,
 ⟨some 36,.ext (.t 32) 0,none⟩,
 ⟨some 37,.ext (.t 32) 1,none⟩,
 ⟨some 7,.mv (.t 36),none⟩,
 ⟨some 5,.mv (.t 37),none⟩])
 (.seq (.seq (.reg [⟨some 38,.mv (.t 5),none⟩,
 ⟨some 39,.bin .neq (.t 38) (.c (.i .i64 0)),none⟩])
 (.cond (.t 39)
 (.seq (.reg [⟨some 40,.build [.s [],.i .i64 0,.s [],.s [],.s [],.b false,.b false] [],none⟩,
 ⟨some 41,.mv (.t 5),none⟩,
 ⟨none,.store 7 (.t 2) (.t 40),none⟩,
 ⟨some 3,.mv (.t 41),none⟩])
 (.ret))
 (.skip)))
 (.seq (.reg [⟨some 42,.mv (.t 4),none⟩,
 ⟨some 43,.mv (.t 6),none⟩,
 ⟨some 44,.fad 7 (.t 1),none⟩,
 ⟨some 45,.load1 (.t 44),none⟩,
 ⟨some 46,.mv (.t 7),none⟩,
 ⟨some 47,.fad 8 (.t 1),none⟩,
 ⟨some 48,.load1 (.t 47),none⟩,
 ⟨some 49,.build [.s [],.i .i64 0,.s [],.s [],.s [],.b false,.b false] [(2,(1,.t 42)),(3,(1,.t 43)),(5,(1,.t 45)),(4,(1,.t 46)),(6,(1,.t 48))],none⟩,
 ⟨none,.store 7 (.t 2) (.t 49),none⟩,
 ⟨some 3,.mv (.c (.i .i64 0)),none⟩])
 (.ret)))))))))
theorem is_weburl_parseRest:FnIs Tryz.prog 144 50 [.celln 2 7,.tmp 3] c_weburl_parseRest:=⟨⟨_,_,Tryz.func144,rfl,rfl,by kernel_rfl,by kernel_rfl⟩⟩
def c_host_Format:SCode :=
 .seq (.reg [⟨some 1,.box 124 (.t 0),none⟩,
 ⟨some 2,.mv (.c (.s [])),none⟩])
 (.seq (.seq (.reg [⟨some 3,.fad 1 (.t 1),none⟩,
 ⟨some 4,.load1 (.t 3),none⟩,
 ⟨some 5,.bin .eql (.t 4) (.c (.i .i64 0)),none⟩])
 (.cond (.t 5)
 (.seq (.reg [⟨some 6,.fad 0 (.t 1),none⟩,
 ⟨some 7,.load1 (.t 6),none⟩,
 ⟨some 2,.mv (.t 7),none⟩])
 (.ret))
 (.skip)))
 (.seq (.drw [⟨some 8,.fad 0 (.t 1),none⟩,
 ⟨some 9,.load1 (.t 8),none⟩,
 ⟨some 10,.bin .add (.t 9) (.c (.s [58])),none⟩,
 ⟨some 11,.fad 1 (.t 1),none⟩,
 ⟨some 12,.load1 (.t 11),none⟩,
 ⟨some 13,.call 175 [.t 12],none⟩,
 ⟨some 14,.bin .add (.t 10) (.t 13),none⟩,
 ⟨some 2,.mv (.t 14),none⟩] 8 [])
 (.ret)))
theorem is_host_Format:FnIs Tryz.prog 145 15 [.tmp 2] c_host_Format:=⟨⟨_,_,Tryz.func145,rfl,rfl,by kernel_rfl,by kernel_rfl⟩⟩
def c_weburl_Origin:SCode :=
 .seq (.reg [⟨some 1,.box 79 (.t 0),none⟩,
 ⟨some 2,.alloc 124 [.s [],.i .i64 0],none⟩])
 (.seq (.reg [⟨some 3,.fad 0 (.t 1),none⟩,
 ⟨some 4,.load1 (.t 3),none⟩,
 ⟨some 5,.fad 1 (.t 1),none⟩,
 ⟨some 6,.load1 (.t 5),none⟩,
 ⟨some 7,.build [.s [],.i .i64 0] [(0,(1,.t 4)),(1,(1,.t 6))],none⟩,
 ⟨none,.store 2 (.t 2) (.t 7),none⟩])
 (.ret))
theorem is_weburl_Origin:FnIs Tryz.prog 146 8 [.celln 2 2] c_weburl_Origin:=⟨⟨_,_,Tryz.func146,rfl,rfl,by kernel_rfl,by kernel_rfl⟩⟩
def c_weburl_Target:SCode :=
 .seq (.reg [⟨some 1,.box 79 (.t 0),none⟩,
 ⟨some 2,.mv (.c (.s [])),none⟩])
 (.seq (.seq (.reg [⟨some 3,.fad 5 (.t 1),none⟩,
 ⟨some 4,.load1 (.t 3),none⟩,
 ⟨some 5,.not (.t 4),none⟩])
 (.cond (.t 5)
 (.seq (.reg [⟨some 6,.fad 2 (.t 1),none⟩,
 ⟨some 7,.load1 (.t 6),none⟩,
 ⟨some 2,.mv (.t 7),none⟩])
 (.ret))
 (.skip)))
 (.seq (.reg [⟨some 8,.fad 2 (.t 1),none⟩,
 ⟨some 9,.load1 (.t 8),none⟩,
 ⟨some 10,.bin .add (.t 9) (.c (.s [63])),none⟩,
 ⟨some 11,.fad 3 (.t 1),none⟩,
 ⟨some 12,.load1 (.t 11),none⟩,
 ⟨some 13,.bin .add (.t 10) (.t 12),none⟩,
 ⟨some 2,.mv (.t 13),none⟩])
 (.ret)))
theorem is_weburl_Target:FnIs Tryz.prog 147 14 [.tmp 2] c_weburl_Target:=⟨⟨_,_,Tryz.func147,rfl,rfl,by kernel_rfl,by kernel_rfl⟩⟩
def c_did_isMethod:SCode :=
 .seq (.reg [⟨some 2,.mv (.c (.b false)),none⟩])
 (.seq (.seq (.reg [⟨some 4,.mv (.t 0),none⟩,
 ⟨some 5,.lens (.t 4),none⟩,
 ⟨some 6,.mv (.c (.i .i64 0)),none⟩])
 (.blk 0
 (.loop
 (.seq (.reg [⟨some 7,.bin .lss (.t 6) (.t 5),none⟩])
 (.seq (.cond (.t 7)
 (.skip)
 (.exit 0))
 (.seq (.blk 1
 (.seq (.reg [⟨some 8,.mv (.t 6),none⟩,
 ⟨some 3,.mv (.t 8),none⟩])
 (.seq (.reg [⟨some 9,.mv (.t 0),none⟩,
 ⟨some 10,.mv (.t 3),none⟩,
 ⟨some 11,.idx (.t 9) (.t 10),none⟩,
 ⟨some 12,.call 177 [.t 11],none⟩,
 ⟨some 13,.not (.t 12),none⟩,
 ⟨some 14,.mv (.t 13),none⟩,
 ⟨some 15,.mv (.t 0),some (14,true)⟩,
 ⟨some 16,.mv (.t 3),some (14,true)⟩,
 ⟨some 17,.idx (.t 15) (.t 16),some (14,true)⟩,
 ⟨some 18,.bin .lss (.t 17) (.c (.i .u8 97)),some (14,true)⟩,
 ⟨some 19,.mv (.t 18),some (14,true)⟩,
 ⟨some 20,.mv (.t 0),some (19,false)⟩,
 ⟨some 21,.mv (.t 3),some (19,false)⟩,
 ⟨some 22,.idx (.t 20) (.t 21),some (19,false)⟩,
 ⟨some 23,.bin .gtr (.t 22) (.c (.i .u8 122)),some (19,false)⟩,
 ⟨some 24,.pick (.t 19) (.c (.b true)) (.t 23),some (14,true)⟩,
 ⟨some 25,.pick (.t 14) (.t 24) (.c (.b false)),none⟩])
 (.cond (.t 25)
 (.seq (.reg [⟨some 2,.mv (.c (.b false)),none⟩])
 (.ret))
 (.skip)))))
 (.reg [⟨some 26,.bin .add (.t 6) (.c (.i .i64 1)),none⟩,
 ⟨some 6,.mv (.t 26),none⟩])))))))
 (.seq (.reg [⟨some 27,.mv (.t 0),none⟩,
 ⟨some 28,.bin .neq (.t 27) (.c (.s [])),none⟩,
 ⟨some 2,.mv (.t 28),none⟩])
 (.ret)))
theorem is_did_isMethod:FnIs Tryz.prog 149 29 [.tmp 2] c_did_isMethod:=⟨⟨_,_,Tryz.func149,rfl,rfl,by kernel_rfl,by kernel_rfl⟩⟩
def c_did_parseID:SCode :=
 .seq (.reg [⟨some 2,.mv (.c (.s [])),none⟩,
 ⟨some 3,.mv (.c (.i .i64 0)),none⟩])
 (.seq (.seq (.reg [⟨some 10,.mv (.t 0),none⟩,
 ⟨some 11,.call 153 [.t 10],none⟩,
 ⟨some 9,.mv (.t 11),none⟩,
 ⟨some 12,.ext (.t 9) 0,none⟩,
 ⟨some 13,.ext (.t 9) 1,none⟩,
 ⟨some 4,.mv (.t 12),none⟩,
 ⟨some 5,.mv (.t 13),none⟩])
 (.seq (.reg [⟨some 14,.mv (.t 5),none⟩,
 ⟨some 15,.bin .neq (.t 14) (.c (.i .i64 0)),none⟩])
 (.cond (.t 15)
 (.seq (.reg [⟨some 16,.mv (.t 5),none⟩,
 ⟨some 2,.mv (.c (.s [])),none⟩,
 ⟨some 3,.mv (.t 16),none⟩])
 (.ret))
 (.skip))))
 (.seq (.seq (.reg [⟨some 17,.mv (.t 0),none⟩,
 ⟨some 18,.lens (.t 17),none⟩,
 ⟨some 19,.mv (.c (.i .i64 0)),none⟩])
 (.blk 0
 (.loop
 (.seq (.reg [⟨some 20,.bin .lss (.t 19) (.t 18),none⟩])
 (.seq (.cond (.t 20)
 (.skip)
 (.exit 0))
 (.seq (.blk 1
 (.seq (.reg [⟨some 21,.mv (.t 19),none⟩,
 ⟨some 6,.mv (.t 21),none⟩])
 (.seq (.reg [⟨some 22,.mv (.t 0),none⟩,
 ⟨some 23,.mv (.t 6),none⟩,
 ⟨some 24,.idx (.t 22) (.t 23),none⟩,
 ⟨some 25,.bin .neq (.t 24) (.c (.i .u8 37)),none⟩,
 ⟨some 26,.mv (.t 25),none⟩,
 ⟨some 27,.mv (.t 0),some (26,true)⟩,
 ⟨some 28,.mv (.t 6),some (26,true)⟩,
 ⟨some 29,.idx (.t 27) (.t 28),some (26,true)⟩,
 ⟨some 30,.call 178 [.t 29],some (26,true)⟩,
 ⟨some 31,.not (.t 30),some (26,true)⟩,
 ⟨some 32,.pick (.t 26) (.t 31) (.c (.b false)),none⟩])
 (.cond (.t 32)
 (.seq (.reg [⟨some 2,.mv (.c (.s [])),none⟩,
 ⟨some 3,.mv (.c (.i .i64 1)),none⟩])
 (.ret))
 (.skip)))))
 (.reg [⟨some 33,.bin .add (.t 19) (.c (.i .i64 1)),none⟩,
 ⟨some 19,.mv (.t 33),none⟩])))))))
 (.seq (.seq (.reg [⟨some 34,.mv (.t 0),none⟩,
 ⟨some 35,.bin .eql (.t 34) (.c (.s [])),none⟩,
 ⟨some 36,.mv (.t 35),none⟩,
 ⟨some 37,.mv (.t 0),some (36,false)⟩,
 ⟨some 38,.mv (.t 0),some (36,false)⟩,
 ⟨some 39,.lens (.t 38),some (36,false)⟩,
 ⟨some 40,.bin .sub (.t 39) (.c (.i .i64 1)),some (36,false)⟩,
 ⟨some 41,.idx (.t 37) (.t 40),some (36,false)⟩,
 ⟨some 42,.bin .eql (.t 41) (.c (.i .u8 58)),some (36,false)⟩,
 ⟨some 43,.pick (.t 36) (.c (.b true)) (.t 42),none⟩])
 (.cond (.t 43)
 (.seq (.reg [⟨some 2,.mv (.c (.s [])),none⟩,
 ⟨some 3,.mv (.c (.i .i64 3)),none⟩])
 (.ret))
 (.skip)))
 (.seq (.reg [⟨some 45,.mv (.t 0),none⟩,
 ⟨some 46,.call 136 [.t 45,.c (.s [46,45,95,58])],none⟩,
 ⟨some 44,.mv (.t 46),none⟩,
 ⟨some 47,.ext (.t 44) 0,none⟩,
 ⟨some 48,.ext (.t 44) 1,none⟩,
 ⟨some 7,.mv (.t 47),none⟩,
 ⟨some 8,.mv (.t 48),none⟩])
 (.seq (.seq (.reg [⟨some 49,.mv (.t 8),none⟩,
 ⟨some 50,.bin .neq (.t 49) (.c (.i .i64 0)),none⟩])
 (.cond (.t 50)
 (.seq (.reg [⟨some 51,.mv (.t 8),none⟩,
 ⟨some 2,.mv (.c (.s [])),none⟩,
 ⟨some 3,.mv (.t 51),none⟩])
 (.ret))
 (.skip)))
 (.seq (.reg [⟨some 52,.mv (.t 7),none⟩,
 ⟨some 53,.call 179 [.t 52,.c (.s [126]),.c (.s [37,55,69])],none⟩,
 ⟨some 2,.mv (.t 53),none⟩,
 ⟨some 3,.mv (.c (.i .i64 0)),none⟩])
 (.ret)))))))
theorem is_did_parseID:FnIs Tryz.prog 150 54 [.tmp 2,.tmp 3] c_did_parseID:=⟨⟨_,_,Tryz.func150,rfl,rfl,by kernel_rfl,by kernel_rfl⟩⟩
def c_didweb_ToURL:SCode :=
 .seq (.reg [⟨some 1,.box 119 (.t 0),none⟩,
 ⟨some 2,.alloc 79 [.s [],.i .i64 0,.s [],.s [],.s [],.b false,.b false],none⟩,
 ⟨some 3,.mv (.c (.i .i64 0)),none⟩])
 (.seq (.reg [⟨some 11,.loadn 2 (.t 1),none⟩,
 ⟨some 12,.call 120 [.t 11],none⟩,
 ⟨some 10,.mv (.t 12),none⟩,
 ⟨some 13,.ext (.t 10) 0,none⟩,
 ⟨some 14,.ext (.t 10) 1,none⟩,
 ⟨some 4,.alloc 124 [.s [],.i .i64 0],none⟩,
 ⟨none,.store 2 (.t 4) (.t 13),none⟩,
 ⟨some 5,.mv (.t 14),none⟩])
 (.seq (.seq (.reg [⟨some 15,.mv (.t 5),none⟩,
 ⟨some 16,.bin .neq (.t 15) (.c (.i .i64 0)),none⟩])
 (.cond (.t 16)
 (.seq (.reg [⟨some 17,.build [.s [],.i .i64 0,.s [],.s [],.s [],.b false,.b false] [],none⟩,
 ⟨some 18,.mv (.t 5),none⟩,
 ⟨none,.store 7 (.t 2) (.t 17),none⟩,
 ⟨some 3,.mv (.t 18),none⟩])
 (.ret))
 (.skip)))
 (.seq (.reg [⟨some 19,.fad 0 (.t 4),none⟩,
 ⟨some 20,.load1 (.t 19),none⟩,
 ⟨some 21,.fad 1 (.t 4),none⟩,
 ⟨some 22,.load1 (.t 21),none⟩,
 ⟨some 23,.build [.s [],.i .i64 0,.s [],.s [],.s [],.b false,.b false] [(0,(1,.t 20)),(1,(1,.t 22)),(2,(1,.c (.s [47,46,119,101,108,108,45,107,110,111,119,110,47,100,105,100,46,106,115,111,110])))],none⟩,
 ⟨some 6,.alloc 79 [.s [],.i .i64 0,.s [],.s [],.s [],.b false,.b false],none⟩,
 ⟨none,.store 7 (.t 6) (.t 23),none⟩])
 (.seq (.seq (.reg [⟨some 24,.fad 1 (.t 1),none⟩,
 ⟨some 25,.load1 (.t 24),none⟩,
 ⟨some 26,.call 180 [.t 25,.c (.s [58])],none⟩,
 ⟨some 27,.pu (.rsl 1) [.t 26,.c (.i .i64 1)],none⟩,
 ⟨some 7,.mv (.t 27),none⟩])
 (.seq (.reg [⟨some 28,.mv (.t 7),none⟩,
 ⟨some 29,.lenr (.t 28),none⟩,
 ⟨some 30,.bin .gtr (.t 29) (.c (.i .i64 0)),none⟩])
 (.cond (.t 30)
 (.seq (.reg [⟨some 8,.alloc 185 [.o (.pointer none),.nil],none⟩])
 (.seq (.seq (.reg [⟨some 31,.mv (.t 7),none⟩,
 ⟨some 32,.mkf 182 [.t 8] [],none⟩,
 ⟨some 33,.call 181 [.t 31,.t 32],none⟩,
 ⟨some 9,.mv (.t 33),none⟩])
 (.seq (.reg [⟨some 34,.mv (.t 9),none⟩,
 ⟨some 35,.bin .neq (.t 34) (.c (.i .i64 0)),none⟩])
 (.cond (.t 35)
 (.seq (.reg [⟨some 36,.build [.s [],.i .i64 0,.s [],.s [],.s [],.b false,.b false] [],none⟩,
 ⟨some 37,.mv (.t 9),none⟩,
 ⟨none,.store 7 (.t 2) (.t 36),none⟩,
 ⟨some 3,.mv (.t 37),none⟩])
 (.ret))
 (.skip))))
 (.reg [⟨some 38,.fad 0 (.t 8),none⟩,
 ⟨some 39,.call 183 [.t 38],none⟩,
 ⟨some 40,.bin .add (.t 39) (.c (.s [47])),none⟩,
 ⟨some 41,.bin .add (.t 40) (.c (.s [100,105,100,46,106,115,111,110])),none⟩,
 ⟨some 42,.fad 2 (.t 6),none⟩,
 ⟨none,.store 1 (.t 42) (.t 41),none⟩])))
 (.skip))))
 (.seq (.seq (.reg [⟨some 43,.loadn 7 (.t 6),none⟩,
 ⟨some 44,.call 117 [.t 43],none⟩,
 ⟨some 45,.lens (.t 44),none⟩,
 ⟨some 46,.bin .gtr (.t 45) (.c (.i .i64 4096)),none⟩])
 (.cond (.t 46)
 (.seq (.reg [⟨some 47,.build [.s [],.i .i64 0,.s [],.s [],.s [],.b false,.b false] [],none⟩,
 ⟨none,.store 7 (.t 2) (.t 47),none⟩,
 ⟨some 3,.mv (.c (.i .i64 5)),none⟩])
 (.ret))
 (.skip)))
 (.seq (.reg [⟨some 48,.loadn 7 (.t 6),none⟩,
 ⟨none,.store 7 (.t 2) (.t 48),none⟩,
 ⟨some 3,.mv (.c (.i .i64 0)),none⟩])
 (.ret)))))))
theorem is_didweb_ToURL:FnIs Tryz.prog 151 49 [.celln 2 7,.tmp 3] c_didweb_ToURL:=⟨⟨_,_,Tryz.func151,rfl,rfl,by kernel_rfl,by kernel_rfl⟩⟩
def c_didweb_FromURL:SCode :=
 .seq (.reg [⟨some 1,.box 79 (.t 0),none⟩,
 ⟨some 2,.alloc 119 [.s [],.s []],none⟩,
 ⟨some 3,.mv (.c (.i .i64 0)),none⟩])
 (.seq (.seq (.reg [⟨some 9,.loadn 7 (.t 1),none⟩,
 ⟨some 10,.call 184 [.t 9],none⟩,
 ⟨some 11,.not (.t 10),none⟩])
 (.cond (.t 11)
 (.seq (.reg [⟨some 12,.build [.s [],.s []] [],none⟩,
 ⟨none,.store 2 (.t 2) (.t 12),none⟩,
 ⟨some 3,.mv (.c (.i .i64 8)),none⟩])
 (.ret))
 (.skip)))
 (.seq (.reg [⟨some 13,.fad 2 (.t 1),none⟩,
 ⟨some 14,.load1 (.t 13),none⟩,
 ⟨some 15,.call 180 [.t 14,.c (.s [47])],none⟩,
 ⟨some 16,.pu (.rsl 1) [.t 15,.c (.i .i64 1)],none⟩,
 ⟨some 4,.mv (.t 16),none⟩])
 (.seq (.reg [⟨some 17,.mv (.t 4),none⟩,
 ⟨some 18,.lenr (.t 17),none⟩,
 ⟨some 19,.bin .sub (.t 18) (.c (.i .i64 1)),none⟩,
 ⟨some 5,.mv (.t 19),none⟩])
 (.seq (.seq (.reg [⟨some 20,.fad 5 (.t 1),none⟩,
 ⟨some 21,.load1 (.t 20),none⟩,
 ⟨some 22,.mv (.t 21),none⟩,
 ⟨some 23,.fad 6 (.t 1),some (22,false)⟩,
 ⟨some 24,.load1 (.t 23),some (22,false)⟩,
 ⟨some 25,.pick (.t 22) (.c (.b true)) (.t 24),none⟩,
 ⟨some 26,.mv (.t 25),none⟩,
 ⟨some 27,.mv (.t 4),some (26,false)⟩,
 ⟨some 28,.mv (.t 5),some (26,false)⟩,
 ⟨some 29,.iad 1 (.t 27) (.t 28),some (26,false)⟩,
 ⟨some 30,.load1 (.t 29),some (26,false)⟩,
 ⟨some 31,.bin .neq (.t 30) (.c (.s [100,105,100,46,106,115,111,110])),some (26,false)⟩,
 ⟨some 32,.pick (.t 26) (.c (.b true)) (.t 31),none⟩])
 (.cond (.t 32)
 (.seq (.reg [⟨some 33,.build [.s [],.s []] [],none⟩,
 ⟨none,.store 2 (.t 2) (.t 33),none⟩,
 ⟨some 3,.mv (.c (.i .i64 6)),none⟩])
 (.ret))
 (.skip)))
 (.seq (.reg [⟨some 6,.alloc 189 [.o (.pointer none),.nil],none⟩])
 (.seq (.reg [⟨some 34,.loadn 7 (.t 1),none⟩,
 ⟨some 35,.call 146 [.t 34],none⟩,
 ⟨some 36,.call 185 [.t 6,.t 35],none⟩])
 (.seq (.seq (.reg [⟨some 37,.fad 2 (.t 1),none⟩,
 ⟨some 38,.load1 (.t 37),none⟩,
 ⟨some 39,.bin .neq (.t 38) (.c (.s [47,46,119,101,108,108,45,107,110,111,119,110,47,100,105,100,46,106,115,111,110])),none⟩])
 (.cond (.t 39)
 (.seq (.seq (.reg [⟨some 40,.mv (.t 5),none⟩,
 ⟨some 41,.bin .eql (.t 40) (.c (.i .i64 0)),none⟩])
 (.cond (.t 41)
 (.seq (.reg [⟨some 42,.build [.s [],.s []] [],none⟩,
 ⟨none,.store 2 (.t 2) (.t 42),none⟩,
 ⟨some 3,.mv (.c (.i .i64 110)),none⟩])
 (.ret))
 (.skip)))
 (.seq (.reg [⟨some 43,.mv (.t 4),none⟩,
 ⟨some 44,.mv (.t 5),none⟩,
 ⟨some 45,.trn 1 (.t 43) (.t 44),none⟩,
 ⟨some 46,.mkf 186 [.t 6] [],none⟩,
 ⟨some 47,.call 181 [.t 45,.t 46],none⟩,
 ⟨some 7,.mv (.t 47),none⟩])
 (.seq (.reg [⟨some 48,.mv (.t 7),none⟩,
 ⟨some 49,.bin .neq (.t 48) (.c (.i .i64 0)),none⟩])
 (.cond (.t 49)
 (.seq (.reg [⟨some 50,.build [.s [],.s []] [],none⟩,
 ⟨some 51,.mv (.t 7),none⟩,
 ⟨none,.store 2 (.t 2) (.t 50),none⟩,
 ⟨some 3,.mv (.t 51),none⟩])
 (.ret))
 (.skip)))))
 (.skip)))
 (.seq (.reg [⟨some 52,.fad 0 (.t 6),none⟩,
 ⟨some 53,.call 183 [.t 52],none⟩,
 ⟨some 54,.build [.s [],.s []] [(0,(1,.c (.s [119,101,98]))),(1,(1,.t 53))],none⟩,
 ⟨some 8,.alloc 119 [.s [],.s []],none⟩,
 ⟨none,.store 2 (.t 8) (.t 54),none⟩])
 (.seq (.seq (.reg [⟨some 55,.loadn 2 (.t 8),none⟩,
 ⟨some 56,.call 121 [.t 55],none⟩,
 ⟨some 57,.lens (.t 56),none⟩,
 ⟨some 58,.bin .gtr (.t 57) (.c (.i .i64 4096)),none⟩])
 (.cond (.t 58)
 (.seq (.reg [⟨some 59,.build [.s [],.s []] [],none⟩,
 ⟨none,.store 2 (.t 2) (.t 59),none⟩,
 ⟨some 3,.mv (.c (.i .i64 5)),none⟩])
 (.ret))
 (.skip)))
 (.seq (.reg [⟨some 60,.loadn 2 (.t 8),none⟩,
 ⟨none,.store 2 (.t 2) (.t 60),none⟩,
 ⟨some 3,.mv (.c (.i .i64 0)),none⟩])
 (.ret)))))))))))
theorem is_didweb_FromURL:FnIs Tryz.prog 152 61 [.celln 2 2,.tmp 3] c_didweb_FromURL:=⟨⟨_,_,Tryz.func152,rfl,rfl,by kernel_rfl,by kernel_rfl⟩⟩
def c_percent_Decode:SCode :=
 .seq (.reg [⟨some 2,.mv (.c (.s [])),none⟩,
 ⟨some 3,.mv (.c (.i .i64 0)),none⟩])
 (.seq (.reg [⟨some 4,.mv (.t 0),none⟩,
 ⟨some 5,.call 158 [.t 4,.c (.fn 187 [] [])],none⟩,
 ⟨some 6,.ext (.t 5) 0,none⟩,
 ⟨some 7,.ext (.t 5) 1,none⟩,
 ⟨some 2,.mv (.t 6),none⟩,
 ⟨some 3,.mv (.t 7),none⟩])
 (.ret))
theorem is_percent_Decode:FnIs Tryz.prog 153 8 [.tmp 2,.tmp 3] c_percent_Decode:=⟨⟨_,_,Tryz.func153,rfl,rfl,by kernel_rfl,by kernel_rfl⟩⟩
def c_host_Parse:SCode :=
 .seq (.reg [⟨some 2,.alloc 124 [.s [],.i .i64 0],none⟩,
 ⟨some 3,.mv (.c (.i .i64 0)),none⟩])
 (.seq (.reg [⟨some 10,.mv (.t 0),none⟩,
 ⟨some 11,.call 88 [.t 10,.c (.s [58])],none⟩,
 ⟨some 9,.mv (.t 11),none⟩,
 ⟨some 12,.ext (.t 9) 0,none⟩,
 ⟨some 13,.ext (.t 9) 1,none⟩,
 ⟨some 14,.ext (.t 9) 2,none⟩,
 ⟨some 4,.mv (.t 12),none⟩,
 ⟨some 5,.mv (.t 13),none⟩,
 ⟨some 6,.mv (.t 14),none⟩])
 (.seq (.reg [⟨some 16,.mv (.t 4),none⟩,
 ⟨some 17,.call 137 [.t 16],none⟩,
 ⟨some 15,.mv (.t 17),none⟩,
 ⟨some 18,.ext (.t 15) 0,none⟩,
 ⟨some 19,.ext (.t 15) 1,none⟩,
 ⟨some 4,.mv (.t 18),none⟩,
 ⟨some 7,.mv (.t 19),none⟩])
 (.seq (.seq (.reg [⟨some 20,.mv (.t 7),none⟩,
 ⟨some 21,.bin .neq (.t 20) (.c (.i .i64 0)),none⟩])
 (.cond (.t 21)
 (.seq (.reg [⟨some 22,.build [.s [],.i .i64 0] [],none⟩,
 ⟨some 23,.mv (.t 7),none⟩,
 ⟨none,.store 2 (.t 2) (.t 22),none⟩,
 ⟨some 3,.mv (.t 23),none⟩])
 (.ret))
 (.skip)))
 (.seq (.seq (.reg [⟨some 24,.mv (.t 6),none⟩,
 ⟨some 25,.not (.t 24),none⟩])
 (.cond (.t 25)
 (.seq (.reg [⟨some 26,.mv (.t 4),none⟩,
 ⟨some 27,.build [.s [],.i .i64 0] [(0,(1,.t 26))],none⟩,
 ⟨none,.store 2 (.t 2) (.t 27),none⟩,
 ⟨some 3,.mv (.c (.i .i64 0)),none⟩])
 (.ret))
 (.skip)))
 (.seq (.reg [⟨some 29,.mv (.t 5),none⟩,
 ⟨some 30,.call 188 [.t 29],none⟩,
 ⟨some 28,.mv (.t 30),none⟩,
 ⟨some 31,.ext (.t 28) 0,none⟩,
 ⟨some 32,.ext (.t 28) 1,none⟩,
 ⟨some 8,.mv (.t 31),none⟩,
 ⟨some 7,.mv (.t 32),none⟩])
 (.seq (.seq (.reg [⟨some 33,.mv (.t 7),none⟩,
 ⟨some 34,.bin .neq (.t 33) (.c (.i .i64 0)),none⟩])
 (.cond (.t 34)
 (.seq (.reg [⟨some 35,.build [.s [],.i .i64 0] [],none⟩,
 ⟨some 36,.mv (.t 7),none⟩,
 ⟨none,.store 2 (.t 2) (.t 35),none⟩,
 ⟨some 3,.mv (.t 36),none⟩])
 (.ret))
 (.skip)))
 (.seq (.seq (.reg [⟨some 37,.mv (.t 8),none⟩,
 ⟨some 38,.bin .eql (.t 37) (.c (.i .i64 443)),none⟩])
 (.cond (.t 38)
 (.reg [⟨some 8,.mv (.c (.i .i64 0)),none⟩])
 (.skip)))
 (.seq (.reg [⟨some 39,.mv (.t 4),none⟩,
 ⟨some 40,.mv (.t 8),none⟩,
 ⟨some 41,.build [.s [],.i .i64 0] [(0,(1,.t 39)),(1,(1,.t 40))],none⟩,
 ⟨none,.store 2 (.t 2) (.t 41),none⟩,
 ⟨some 3,.mv (.c (.i .i64 0)),none⟩])
 (.ret)))))))))
theorem is_host_Parse:FnIs Tryz.prog 154 42 [.celln 2 2,.tmp 3] c_host_Parse:=⟨⟨_,_,Tryz.func154,rfl,rfl,by kernel_rfl,by kernel_rfl⟩⟩
def c_ascii_isCapital:SCode :=
 .seq (.reg [⟨some 2,.mv (.c (.b false)),none⟩])
 (.seq (.reg [⟨some 3,.mv (.t 0),none⟩,
 ⟨some 4,.bin .geq (.t 3) (.c (.i .u8 65)),none⟩,
 ⟨some 5,.mv (.t 4),none⟩,
 ⟨some 6,.mv (.t 0),some (5,true)⟩,
 ⟨some 7,.bin .leq (.t 6) (.c (.i .u8 90)),some (5,true)⟩,
 ⟨some 8,.pick (.t 5) (.t 7) (.c (.b false)),none⟩,
 ⟨some 2,.mv (.t 8),none⟩])
 (.ret))
theorem is_ascii_isCapital:FnIs Tryz.prog 156 9 [.tmp 2] c_ascii_isCapital:=⟨⟨_,_,Tryz.func156,rfl,rfl,by kernel_rfl,by kernel_rfl⟩⟩
def c_ref04_Format:SCode :=
 .seq (.reg [⟨some 2,.mv (.c (.s [])),none⟩])
 (.seq (.reg [⟨some 3,.mv (.c (.s [])),none⟩])
 (.blk 0
 (.loop
 (.blk 1
 (.seq (.reg [⟨some 4,.mv (.t 0),none⟩,
 ⟨some 5,.bin .rem (.t 4) (.c (.i .u64 10)),none⟩,
 ⟨some 6,.bin .add (.c (.i .u64 48)) (.t 5),none⟩,
 ⟨some 7,.cvi .u8 (.t 6),none⟩,
 ⟨some 8,.bslice 1 [.i .u8 0] [(0,(1,.t 7))],none⟩,
 ⟨some 9,.cvbs (.t 8),none⟩,
 ⟨some 10,.mv (.t 3),none⟩,
 ⟨some 11,.bin .add (.t 9) (.t 10),none⟩,
 ⟨some 3,.mv (.t 11),none⟩])
 (.seq (.reg [⟨some 12,.mv (.t 0),none⟩,
 ⟨some 13,.bin .quo (.t 12) (.c (.i .u64 10)),none⟩,
 ⟨some 0,.mv (.t 13),none⟩])
 (.seq (.reg [⟨some 14,.mv (.t 0),none⟩,
 ⟨some 15,.bin .eql (.t 14) (.c (.i .u64 0)),none⟩])
 (.cond (.t 15)
 (.seq (.reg [⟨some 16,.mv (.t 3),none⟩,
 ⟨some 2,.mv (.t 16),none⟩])
 (.ret))
 (.skip)))))))))
theorem is_ref04_Format:FnIs Tryz.prog 157 17 [.tmp 2] c_ref04_Format:=⟨⟨_,_,Tryz.func157,rfl,rfl,by kernel_rfl,by kernel_rfl⟩⟩
def c_percent_rewrite:SCode :=
 .seq (.reg [⟨some 4,.mv (.c (.s [])),none⟩,
 ⟨some 5,.mv (.c (.i .i64 0)),none⟩])
 (.seq (.seq (.reg [⟨some 12,.mv (.t 0),none⟩,
 ⟨some 13,.lens (.t 12),none⟩,
 ⟨some 14,.bin .gtr (.t 13) (.c (.i .i64 16384)),none⟩])
 (.cond (.t 14)
 (.seq (.reg [⟨some 4,.mv (.c (.s [])),none⟩,
 ⟨some 5,.mv (.c (.i .i64 5)),none⟩])
 (.ret))
 (.skip)))
 (.seq (.reg [⟨some 15,.mv (.t 0),none⟩,
 ⟨some 16,.lens (.t 15),none⟩,
 ⟨some 17,.mks 5 1 1 (.c (.i .i64 0)) (.t 16),none⟩,
 ⟨some 6,.mv (.t 17),none⟩])
 (.seq (.reg [⟨some 7,.mv (.c (.i .i64 0)),none⟩])
 (.seq (.seq (.reg [⟨some 18,.mv (.t 0),none⟩,
 ⟨some 19,.lens (.t 18),none⟩,
 ⟨some 20,.mv (.c (.i .i64 0)),none⟩])
 (.blk 0
 (.loop
 (.seq (.reg [⟨some 21,.bin .lss (.t 20) (.t 19),none⟩])
 (.seq (.cond (.t 21)
 (.skip)
 (.exit 0))
 (.seq (.blk 1
 (.seq (.reg [⟨some 22,.mv (.t 20),none⟩,
 ⟨some 8,.mv (.t 22),none⟩])
 (.seq (.seq (.reg [⟨some 23,.mv (.t 8),none⟩,
 ⟨some 24,.mv (.t 7),none⟩,
 ⟨some 25,.bin .lss (.t 23) (.t 24),none⟩])
 (.cond (.t 25)
 (.exit 1)
 (.skip)))
 (.seq (.reg [⟨some 26,.mv (.t 0),none⟩,
 ⟨some 27,.mv (.t 8),none⟩,
 ⟨some 28,.idx (.t 26) (.t 27),none⟩,
 ⟨some 9,.mv (.t 28),none⟩,
 ⟨some 10,.mv (.c (.i .i64 1)),none⟩])
 (.seq (.seq (.reg [⟨some 29,.mv (.t 9),none⟩,
 ⟨some 30,.bin .eql (.t 29) (.c (.i .u8 37)),none⟩])
 (.cond (.t 30)
 (.seq (.seq (.reg [⟨some 31,.mv (.t 0),none⟩,
 ⟨some 32,.mv (.t 8),none⟩,
 ⟨some 33,.call 193 [.t 31,.t 32],none⟩,
 ⟨some 34,.not (.t 33),none⟩])
 (.cond (.t 34)
 (.seq (.reg [⟨some 4,.mv (.c (.s [])),none⟩,
 ⟨some 5,.mv (.c (.i .i64 2)),none⟩])
 (.ret))
 (.skip)))
 (.drw [⟨some 35,.mv (.t 0),none⟩,
 ⟨some 36,.mv (.t 8),none⟩,
 ⟨some 37,.bin .add (.t 36) (.c (.i .i64 1)),none⟩,
 ⟨some 38,.idx (.t 35) (.t 37),none⟩,
 ⟨some 39,.call 194 [.t 38],none⟩,
 ⟨some 40,.pu .shl [.t 39,.c (.i .u64 4)],none⟩,
 ⟨some 41,.mv (.t 0),none⟩,
 ⟨some 42,.mv (.t 8),none⟩,
 ⟨some 43,.bin .add (.t 42) (.c (.i .i64 2)),none⟩,
 ⟨some 44,.idx (.t 41) (.t 43),none⟩,
 ⟨some 45,.call 194 [.t 44],none⟩,
 ⟨some 46,.pu (.bits .or) [.t 40,.t 45],none⟩,
 ⟨some 9,.mv (.t 46),none⟩,
 ⟨some 10,.mv (.c (.i .i64 3)),none⟩] 14 []))
 (.skip)))
 (.seq (.reg [⟨some 11,.mv (.c (.i .i64 0)),none⟩])
 (.seq (.seq (.reg [⟨some 48,.mv (.t 1),none⟩,
 ⟨some 49,.mv (.t 6),none⟩,
 ⟨some 50,.mv (.t 9),none⟩,
 ⟨some 51,.mv (.t 10),none⟩,
 ⟨some 52,.bin .eql (.t 51) (.c (.i .i64 3)),none⟩,
 ⟨some 53,.callv (.t 48) [.t 49,.t 50,.t 52],none⟩,
 ⟨some 47,.mv (.t 53),none⟩,
 ⟨some 54,.ext (.t 47) 0,none⟩,
 ⟨some 55,.ext (.t 47) 1,none⟩,
 ⟨some 6,.mv (.t 54),none⟩,
 ⟨some 11,.mv (.t 55),none⟩])
 (.seq (.reg [⟨some 56,.mv (.t 11),none⟩,
 ⟨some 57,.bin .neq (.t 56) (.c (.i .i64 0)),none⟩])
 (.cond (.t 57)
 (.seq (.reg [⟨some 58,.mv (.t 11),none⟩,
 ⟨some 4,.mv (.c (.s [])),none⟩,
 ⟨some 5,.mv (.t 58),none⟩])
 (.ret))
 (.skip))))
 (.reg [⟨some 59,.mv (.t 8),none⟩,
 ⟨some 60,.mv (.t 10),none⟩,
 ⟨some 61,.bin .add (.t 59) (.t 60),none⟩,
 ⟨some 7,.mv (.t 61),none⟩]))))))))
 (.reg [⟨some 62,.bin .add (.t 20) (.c (.i .i64 1)),none⟩,
 ⟨some 20,.mv (.t 62),none⟩])))))))
 (.seq (.reg [⟨some 63,.mv (.t 6),none⟩,
 ⟨some 64,.cvbs (.t 63),none⟩,
 ⟨some 4,.mv (.t 64),none⟩,
 ⟨some 5,.mv (.c (.i .i64 0)),none⟩])
 (.ret))))))
theorem is_percent_rewrite:FnIs Tryz.prog 158 65 [.tmp 4,.tmp 5] c_percent_rewrite:=⟨⟨_,_,Tryz.func158,rfl,rfl,by kernel_rfl,by kernel_rfl⟩⟩
def c_percent_Normalize_1:SCode :=
 .seq (.reg [⟨some 7,.mv (.c .nil),none⟩,
 ⟨some 8,.mv (.c (.i .i64 0)),none⟩])
 (.seq (.blk 0
 (.seq (.reg [⟨some 10,.mv (.t 2),none⟩,
 ⟨some 11,.mv (.t 10),none⟩,
 ⟨some 12,.mv (.t 1),some (11,true)⟩,
 ⟨some 13,.call 160 [.t 12],some (11,true)⟩,
 ⟨some 14,.not (.t 13),some (11,true)⟩,
 ⟨some 15,.pick (.t 11) (.t 14) (.c (.b false)),none⟩,
 ⟨some 9,.mv (.t 15),none⟩])
 (.cond (.t 9)
 (.seq (.reg [⟨some 16,.mv (.t 0),none⟩,
 ⟨some 17,.mv (.t 1),none⟩,
 ⟨some 18,.call 161 [.t 16,.t 17],none⟩,
 ⟨some 7,.mv (.t 18),none⟩,
 ⟨some 8,.mv (.c (.i .i64 0)),none⟩])
 (.ret))
 (.seq (.reg [⟨some 20,.mv (.t 1),none⟩,
 ⟨some 21,.load1 (.t 3),none⟩,
 ⟨some 22,.call 162 [.t 20,.t 21],none⟩,
 ⟨some 19,.mv (.t 22),none⟩])
 (.cond (.t 19)
 (.seq (.reg [⟨some 23,.mv (.t 0),none⟩,
 ⟨some 24,.mv (.t 1),none⟩,
 ⟨some 25,.bslice 1 [.i .u8 0] [(0,(1,.t 24))],none⟩,
 ⟨some 26,.app 5 1 1 (.t 23) (.t 25),none⟩,
 ⟨some 7,.mv (.t 26),none⟩,
 ⟨some 8,.mv (.c (.i .i64 0)),none⟩])
 (.ret))
 (.skip))))))
 (.seq (.reg [⟨some 27,.mv (.t 0),none⟩,
 ⟨some 7,.mv (.t 27),none⟩,
 ⟨some 8,.mv (.c (.i .i64 1)),none⟩])
 (.ret)))
theorem is_percent_Normalize_1:FnIs Tryz.prog 159 28 [.tmp 7,.tmp 8] c_percent_Normalize_1:=⟨⟨_,_,Tryz.func159,rfl,rfl,by kernel_rfl,by kernel_rfl⟩⟩
def c_ascii_IsUnreserved:SCode :=
 .seq (.reg [⟨some 2,.mv (.c (.b false)),none⟩])
 (.seq (.reg [⟨some 3,.mv (.t 0),none⟩,
 ⟨some 4,.call 195 [.t 3],none⟩,
 ⟨some 5,.mv (.t 4),none⟩,
 ⟨some 6,.mv (.t 0),some (5,false)⟩,
 ⟨some 7,.call 196 [.t 6,.c (.s [45,46,95,126])],some (5,false)⟩,
 ⟨some 8,.pick (.t 5) (.c (.b true)) (.t 7),none⟩,
 ⟨some 2,.mv (.t 8),none⟩])
 (.ret))
theorem is_ascii_IsUnreserved:FnIs Tryz.prog 160 9 [.tmp 2] c_ascii_IsUnreserved:=⟨⟨_,_,Tryz.func160,rfl,rfl,by kernel_rfl,by kernel_rfl⟩⟩
def c_percent_appendEscape:SCode :=
 .seq (.reg [⟨some 4,.mv (.c .nil),none⟩])
 (.seq (.drw [⟨some 5,.mv (.t 0),none⟩,
 ⟨some 6,.mv (.t 1),none⟩,
 ⟨some 7,.pu .shr [.t 6,.c (.i .u64 4)],none⟩,
 ⟨some 8,.idx (.c (.s [48,49,50,51,52,53,54,55,56,57,65,66,67,68,69,70])) (.t 7),none⟩,
 ⟨some 9,.mv (.t 1),none⟩,
 ⟨some 10,.pu (.bits .and) [.t 9,.c (.i .u8 15)],none⟩,
 ⟨some 11,.idx (.c (.s [48,49,50,51,52,53,54,55,56,57,65,66,67,68,69,70])) (.t 10),none⟩,
 ⟨some 12,.bslice 3 [.i .u8 0,.i .u8 0,.i .u8 0] [(0,(1,.c (.i .u8 37))),(1,(1,.t 8)),(2,(1,.t 11))],none⟩,
 ⟨some 13,.app 5 1 1 (.t 5) (.t 12),none⟩,
 ⟨some 4,.mv (.t 13),none⟩] 8 [])
 (.ret))
theorem is_percent_appendEscape:FnIs Tryz.prog 161 14 [.tmp 4] c_percent_appendEscape:=⟨⟨_,_,Tryz.func161,rfl,rfl,by kernel_rfl,by kernel_rfl⟩⟩
def c_percent_isPlain:SCode :=
 .seq (.reg [⟨some 4,.mv (.c (.b false)),none⟩])
 (.seq (.reg [⟨some 5,.mv (.t 0),none⟩,
 ⟨some 6,.call 160 [.t 5],none⟩,
 ⟨some 7,.mv (.t 6),none⟩,
 ⟨some 8,.mv (.t 0),some (7,false)⟩,
 ⟨some 9,.bin .neq (.t 8) (.c (.i .u8 37)),some (7,false)⟩,
 ⟨some 10,.mv (.t 9),some (7,false)⟩,
 ⟨some 11,.mv (.t 1),some (10,true)⟩,
 ⟨some 12,.mv (.t 0),some (10,true)⟩,
 ⟨some 13,.call 169 [.t 11,.t 12],some (10,true)⟩,
 ⟨some 14,.bin .geq (.t 13) (.c (.i .i64 0)),some (10,true)⟩,
 ⟨some 15,.pick (.t 10) (.t 14) (.c (.b false)),some (7,false)⟩,
 ⟨some 16,.pick (.t 7) (.c (.b true)) (.t 15),none⟩,
 ⟨some 4,.mv (.t 16),none⟩])
 (.ret))
theorem is_percent_isPlain:FnIs Tryz.prog 162 17 [.tmp 4] c_percent_isPlain:=⟨⟨_,_,Tryz.func162,rfl,rfl,by kernel_rfl,by kernel_rfl⟩⟩
def c_host_isName:SCode :=
 .seq (.reg [⟨some 2,.mv (.c (.b false)),none⟩])
 (.seq (.reg [⟨some 7,.mv (.t 0),none⟩,
 ⟨some 3,.mv (.t 7),none⟩])
 (.seq (.seq (.reg [⟨some 8,.mv (.t 0),none⟩,
 ⟨some 9,.lens (.t 8),none⟩,
 ⟨some 10,.mv (.c (.i .i64 0)),none⟩])
 (.blk 0
 (.loop
 (.seq (.reg [⟨some 11,.bin .lss (.t 10) (.t 9),none⟩])
 (.seq (.cond (.t 11)
 (.skip)
 (.exit 0))
 (.seq (.blk 1
 (.seq (.reg [⟨some 13,.mv (.t 3),none⟩,
 ⟨some 14,.call 88 [.t 13,.c (.s [46])],none⟩,
 ⟨some 12,.mv (.t 14),none⟩,
 ⟨some 15,.ext (.t 12) 0,none⟩,
 ⟨some 16,.ext (.t 12) 1,none⟩,
 ⟨some 17,.ext (.t 12) 2,none⟩,
 ⟨some 4,.mv (.t 15),none⟩,
 ⟨some 5,.mv (.t 16),none⟩,
 ⟨some 6,.mv (.t 17),none⟩])
 (.seq (.seq (.reg [⟨some 18,.mv (.t 4),none⟩,
 ⟨some 19,.call 197 [.t 18],none⟩,
 ⟨some 20,.not (.t 19),none⟩])
 (.cond (.t 20)
 (.seq (.reg [⟨some 2,.mv (.c (.b false)),none⟩])
 (.ret))
 (.skip)))
 (.seq (.seq (.reg [⟨some 21,.mv (.t 6),none⟩,
 ⟨some 22,.not (.t 21),none⟩])
 (.cond (.t 22)
 (.seq (.reg [⟨some 23,.mv (.t 4),none⟩,
 ⟨some 24,.call 198 [.t 23],none⟩,
 ⟨some 25,.not (.t 24),none⟩,
 ⟨some 2,.mv (.t 25),none⟩])
 (.ret))
 (.skip)))
 (.reg [⟨some 26,.mv (.t 5),none⟩,
 ⟨some 3,.mv (.t 26),none⟩])))))
 (.reg [⟨some 27,.bin .add (.t 10) (.c (.i .i64 1)),none⟩,
 ⟨some 10,.mv (.t 27),none⟩])))))))
 (.seq (.reg [⟨some 2,.mv (.c (.b false)),none⟩])
 (.ret))))
theorem is_host_isName:FnIs Tryz.prog 163 28 [.tmp 2] c_host_isName:=⟨⟨_,_,Tryz.func163,rfl,rfl,by kernel_rfl,by kernel_rfl⟩⟩
def c_mail_isOneOf:SCode :=
 .seq (.reg [⟨some 4,.mv (.c (.b false)),none⟩])
 (.seq (.reg [⟨some 5,.mv (.t 1),none⟩,
 ⟨some 6,.mv (.t 0),none⟩,
 ⟨some 7,.call 169 [.t 5,.t 6],none⟩,
 ⟨some 8,.bin .geq (.t 7) (.c (.i .i64 0)),none⟩,
 ⟨some 4,.mv (.t 8),none⟩])
 (.ret))
theorem is_mail_isOneOf:FnIs Tryz.prog 165 9 [.tmp 4] c_mail_isOneOf:=⟨⟨_,_,Tryz.func165,rfl,rfl,by kernel_rfl,by kernel_rfl⟩⟩
def c_mail_Local:SCode :=
 .seq (.reg [⟨some 2,.mv (.c (.b false)),none⟩])
 (.seq (.seq (.reg [⟨some 6,.mv (.t 0),none⟩,
 ⟨some 7,.lens (.t 6),none⟩,
 ⟨some 8,.bin .gtr (.t 7) (.c (.i .i64 64)),none⟩])
 (.cond (.t 8)
 (.seq (.reg [⟨some 2,.mv (.c (.b false)),none⟩])
 (.ret))
 (.skip)))
 (.seq (.reg [⟨some 3,.mv (.c (.b true)),none⟩])
 (.seq (.seq (.reg [⟨some 9,.mv (.t 0),none⟩,
 ⟨some 10,.lens (.t 9),none⟩,
 ⟨some 11,.mv (.c (.i .i64 0)),none⟩])
 (.blk 0
 (.loop
 (.seq (.reg [⟨some 12,.bin .lss (.t 11) (.t 10),none⟩])
 (.seq (.cond (.t 12)
 (.skip)
 (.exit 0))
 (.seq (.blk 1
 (.seq (.reg [⟨some 13,.mv (.t 11),none⟩,
 ⟨some 4,.mv (.t 13),none⟩])
 (.seq (.reg [⟨some 14,.mv (.t 0),none⟩,
 ⟨some 15,.mv (.t 4),none⟩,
 ⟨some 16,.idx (.t 14) (.t 15),none⟩,
 ⟨some 17,.bin .eql (.t 16) (.c (.i .u8 46)),none⟩,
 ⟨some 5,.mv (.t 17),none⟩])
 (.seq (.seq (.reg [⟨some 18,.mv (.t 5),none⟩,
 ⟨some 19,.mv (.t 18),none⟩,
 ⟨some 20,.mv (.t 3),some (19,true)⟩,
 ⟨some 21,.pick (.t 19) (.t 20) (.c (.b false)),none⟩,
 ⟨some 22,.mv (.t 21),none⟩,
 ⟨some 23,.mv (.t 5),some (22,false)⟩,
 ⟨some 24,.not (.t 23),some (22,false)⟩,
 ⟨some 25,.mv (.t 24),some (22,false)⟩,
 ⟨some 26,.mv (.t 0),some (25,true)⟩,
 ⟨some 27,.mv (.t 4),some (25,true)⟩,
 ⟨some 28,.idx (.t 26) (.t 27),some (25,true)⟩,
 ⟨some 29,.call 203 [.t 28],some (25,true)⟩,
 ⟨some 30,.not (.t 29),some (25,true)⟩,
 ⟨some 31,.pick (.t 25) (.t 30) (.c (.b false)),some (22,false)⟩,
 ⟨some 32,.pick (.t 22) (.c (.b true)) (.t 31),none⟩])
 (.cond (.t 32)
 (.seq (.reg [⟨some 2,.mv (.c (.b false)),none⟩])
 (.ret))
 (.skip)))
 (.reg [⟨some 33,.mv (.t 5),none⟩,
 ⟨some 3,.mv (.t 33),none⟩])))))
 (.reg [⟨some 34,.bin .add (.t 11) (.c (.i .i64 1)),none⟩,
 ⟨some 11,.mv (.t 34),none⟩])))))))
 (.seq (.reg [⟨some 35,.mv (.t 3),none⟩,
 ⟨some 36,.not (.t 35),none⟩,
 ⟨some 2,.mv (.t 36),none⟩])
 (.ret)))))
theorem is_mail_Local:FnIs Tryz.prog 166 37 [.tmp 2] c_mail_Local:=⟨⟨_,_,Tryz.func166,rfl,rfl,by kernel_rfl,by kernel_rfl⟩⟩
def c_number_Strict:SCode :=
 .seq (.reg [⟨some 4,.mv (.c (.i .u64 0)),none⟩,
 ⟨some 5,.mv (.c (.i .i64 0)),none⟩])
 (.seq (.seq (.reg [⟨some 7,.mv (.t 0),none⟩,
 ⟨some 8,.call 204 [.t 7,.c (.fn 177 [] [])],none⟩,
 ⟨some 6,.mv (.t 8),none⟩])
 (.seq (.reg [⟨some 9,.mv (.t 6),none⟩,
 ⟨some 10,.bin .neq (.t 9) (.c (.i .i64 0)),none⟩])
 (.cond (.t 10)
 (.seq (.reg [⟨some 11,.mv (.t 6),none⟩,
 ⟨some 4,.mv (.c (.i .u64 0)),none⟩,
 ⟨some 5,.mv (.t 11),none⟩])
 (.ret))
 (.skip))))
 (.seq (.seq (.reg [⟨some 12,.mv (.t 0),none⟩,
 ⟨some 13,.lens (.t 12),none⟩,
 ⟨some 14,.bin .gtr (.t 13) (.c (.i .i64 1)),none⟩,
 ⟨some 15,.mv (.t 14),none⟩,
 ⟨some 16,.mv (.t 0),some (15,true)⟩,
 ⟨some 17,.idx (.t 16) (.c (.i .i64 0)),some (15,true)⟩,
 ⟨some 18,.bin .eql (.t 17) (.c (.i .u8 48)),some (15,true)⟩,
 ⟨some 19,.pick (.t 15) (.t 18) (.c (.b false)),none⟩])
 (.cond (.t 19)
 (.seq (.reg [⟨some 4,.mv (.c (.i .u64 0)),none⟩,
 ⟨some 5,.mv (.c (.i .i64 6)),none⟩])
 (.ret))
 (.skip)))
 (.seq (.reg [⟨some 20,.mv (.t 0),none⟩,
 ⟨some 21,.mv (.t 1),none⟩,
 ⟨some 22,.call 205 [.t 20,.c (.i .u64 10),.t 21],none⟩,
 ⟨some 23,.ext (.t 22) 0,none⟩,
 ⟨some 24,.ext (.t 22) 1,none⟩,
 ⟨some 4,.mv (.t 23),none⟩,
 ⟨some 5,.mv (.t 24),none⟩])
 (.ret))))
theorem is_number_Strict:FnIs Tryz.prog 167 25 [.tmp 4,.tmp 5] c_number_Strict:=⟨⟨_,_,Tryz.func167,rfl,rfl,by kernel_rfl,by kernel_rfl⟩⟩
def c_uri_Split_1:SCode :=
 .seq (.reg [⟨some 3,.mv (.c (.s [])),none⟩,
 ⟨some 4,.mv (.c (.b false)),none⟩])
 (.seq (.reg [⟨some 7,.load1 (.t 1),none⟩,
 ⟨some 8,.mv (.t 0),none⟩,
 ⟨some 9,.call 169 [.t 7,.t 8],none⟩,
 ⟨some 5,.mv (.t 9),none⟩])
 (.seq (.seq (.reg [⟨some 10,.mv (.t 5),none⟩,
 ⟨some 11,.bin .lss (.t 10) (.c (.i .i64 0)),none⟩])
 (.cond (.t 11)
 (.seq (.reg [⟨some 3,.mv (.c (.s [])),none⟩,
 ⟨some 4,.mv (.c (.b false)),none⟩])
 (.ret))
 (.skip)))
 (.seq (.reg [⟨some 12,.load1 (.t 1),none⟩,
 ⟨some 13,.mv (.t 5),none⟩,
 ⟨some 14,.bin .add (.t 13) (.c (.i .i64 1)),none⟩,
 ⟨some 15,.slcs (.t 12) (some (.t 14)) none,none⟩,
 ⟨some 6,.mv (.t 15),none⟩])
 (.seq (.reg [⟨some 16,.load1 (.t 1),none⟩,
 ⟨some 17,.mv (.t 5),none⟩,
 ⟨some 18,.slcs (.t 16) none (some (.t 17)),none⟩,
 ⟨none,.store 1 (.t 1) (.t 18),none⟩])
 (.seq (.reg [⟨some 19,.mv (.t 6),none⟩,
 ⟨some 3,.mv (.t 19),none⟩,
 ⟨some 4,.mv (.c (.b true)),none⟩])
 (.ret))))))
theorem is_uri_Split_1:FnIs Tryz.prog 168 20 [.tmp 3,.tmp 4] c_uri_Split_1:=⟨⟨_,_,Tryz.func168,rfl,rfl,by kernel_rfl,by kernel_rfl⟩⟩
def c_uri_schemeEnd:SCode :=
 .seq (.reg [⟨some 2,.mv (.c (.i .i64 0)),none⟩])
 (.seq (.reg [⟨some 3,.mv (.t 0),none⟩,
 ⟨some 4,.call 172 [.t 3],none⟩,
 ⟨some 5,.call 169 [.t 4,.c (.i .u8 58)],none⟩,
 ⟨some 2,.mv (.t 5),none⟩])
 (.ret))
theorem is_uri_schemeEnd:FnIs Tryz.prog 170 6 [.tmp 2] c_uri_schemeEnd:=⟨⟨_,_,Tryz.func170,rfl,rfl,by kernel_rfl,by kernel_rfl⟩⟩
def c_uri_isScheme:SCode :=
 .seq (.reg [⟨some 2,.mv (.c (.b false)),none⟩])
 (.seq (.seq (.reg [⟨some 4,.mv (.t 0),none⟩,
 ⟨some 5,.lens (.t 4),none⟩,
 ⟨some 6,.mv (.c (.i .i64 0)),none⟩])
 (.blk 0
 (.loop
 (.seq (.reg [⟨some 7,.bin .lss (.t 6) (.t 5),none⟩])
 (.seq (.cond (.t 7)
 (.skip)
 (.exit 0))
 (.seq (.blk 1
 (.seq (.reg [⟨some 8,.mv (.t 6),none⟩,
 ⟨some 3,.mv (.t 8),none⟩])
 (.seq (.reg [⟨some 9,.mv (.t 0),none⟩,
 ⟨some 10,.mv (.t 3),none⟩,
 ⟨some 11,.idx (.t 9) (.t 10),none⟩,
 ⟨some 12,.call 206 [.t 11],none⟩,
 ⟨some 13,.not (.t 12),none⟩,
 ⟨some 14,.mv (.t 13),none⟩,
 ⟨some 15,.mv (.t 3),some (14,true)⟩,
 ⟨some 16,.bin .eql (.t 15) (.c (.i .i64 0)),some (14,true)⟩,
 ⟨some 17,.mv (.t 16),some (14,true)⟩,
 ⟨some 18,.mv (.t 0),some (17,false)⟩,
 ⟨some 19,.mv (.t 3),some (17,false)⟩,
 ⟨some 20,.idx (.t 18) (.t 19),some (17,false)⟩,
 ⟨some 21,.call 177 [.t 20],some (17,false)⟩,
 ⟨some 22,.not (.t 21),some (17,false)⟩,
 ⟨some 23,.mv (.t 22),some (17,false)⟩,
 ⟨some 24,.mv (.t 0),some (23,true)⟩,
 ⟨some 25,.mv (.t 3),some (23,true)⟩,
 ⟨some 26,.idx (.t 24) (.t 25),some (23,true)⟩,
 ⟨some 27,.call 169 [.c (.s [43,45,46]),.t 26],some (23,true)⟩,
 ⟨some 28,.bin .lss (.t 27) (.c (.i .i64 0)),some (23,true)⟩,
 ⟨some 29,.pick (.t 23) (.t 28) (.c (.b false)),some (17,false)⟩,
 ⟨some 30,.pick (.t 17) (.c (.b true)) (.t 29),some (14,true)⟩,
 ⟨some 31,.pick (.t 14) (.t 30) (.c (.b false)),none⟩])
 (.cond (.t 31)
 (.seq (.reg [⟨some 2,.mv (.c (.b false)),none⟩])
 (.ret))
 (.skip)))))
 (.reg [⟨some 32,.bin .add (.t 6) (.c (.i .i64 1)),none⟩,
 ⟨some 6,.mv (.t 32),none⟩])))))))
 (.seq (.reg [⟨some 33,.mv (.t 0),none⟩,
 ⟨some 34,.bin .neq (.t 33) (.c (.s [])),none⟩,
 ⟨some 2,.mv (.t 34),none⟩])
 (.ret)))
theorem is_uri_isScheme:FnIs Tryz.prog 171 35 [.tmp 2] c_uri_isScheme:=⟨⟨_,_,Tryz.func171,rfl,rfl,by kernel_rfl,by kernel_rfl⟩⟩
def c_uri_firstPart:SCode :=
 .seq (.reg [⟨some 2,.mv (.c (.s [])),none⟩])
 (.seq (.reg [⟨some 7,.mv (.t 0),none⟩,
 ⟨some 8,.call 88 [.t 7,.c (.s [47])],none⟩,
 ⟨some 6,.mv (.t 8),none⟩,
 ⟨some 9,.ext (.t 6) 0,none⟩,
 ⟨some 10,.ext (.t 6) 1,none⟩,
 ⟨some 11,.ext (.t 6) 2,none⟩,
 ⟨some 3,.mv (.t 9),none⟩,
 ⟨some 4,.mv (.t 10),none⟩,
 ⟨some 5,.mv (.t 11),none⟩])
 (.seq (.reg [⟨some 12,.mv (.t 3),none⟩,
 ⟨some 2,.mv (.t 12),none⟩])
 (.ret)))
theorem is_uri_firstPart:FnIs Tryz.prog 172 13 [.tmp 2] c_uri_firstPart:=⟨⟨_,_,Tryz.func172,rfl,rfl,by kernel_rfl,by kernel_rfl⟩⟩
def c_uri_RemoveDots:SCode :=
 .seq (.reg [⟨some 2,.mv (.c (.s [])),none⟩])
 (.seq (.drw [⟨some 6,.mv (.t 0),none⟩,
 ⟨some 7,.mv (.t 0),none⟩,
 ⟨some 8,.lens (.t 7),none⟩,
 ⟨some 9,.mks 5 1 1 (.c (.i .i64 0)) (.t 8),none⟩,
 ⟨some 3,.mv (.t 6),none⟩,
 ⟨some 4,.mv (.t 9),none⟩] 6 [])
 (.seq (.blk 0
 (.loop
 (.seq (.seq (.reg [⟨some 10,.mv (.t 3),none⟩,
 ⟨some 11,.bin .neq (.t 10) (.c (.s [])),none⟩])
 (.cond (.t 11)
 (.skip)
 (.exit 0)))
 (.blk 1
 (.blk 2
 (.seq (.reg [⟨some 26,.mv (.t 3),none⟩,
 ⟨some 27,.call 208 [.t 26,.c (.s [46,46,47])],none⟩,
 ⟨some 25,.mv (.t 27),none⟩])
 (.cond (.t 25)
 (.reg [⟨some 28,.mv (.t 3),none⟩,
 ⟨some 29,.slcs (.t 28) (some (.c (.i .i64 3))) none,none⟩,
 ⟨some 3,.mv (.t 29),none⟩])
 (.seq (.seq (.reg [⟨some 31,.mv (.t 3),none⟩,
 ⟨some 32,.call 208 [.t 31,.c (.s [46,47])],none⟩,
 ⟨some 30,.mv (.t 32),none⟩])
 (.cond (.t 30)
 (.skip)
 (.reg [⟨some 33,.mv (.t 3),none⟩,
 ⟨some 34,.call 208 [.t 33,.c (.s [47,46,47])],none⟩,
 ⟨some 30,.mv (.t 34),none⟩])))
 (.cond (.t 30)
 (.reg [⟨some 35,.mv (.t 3),none⟩,
 ⟨some 36,.slcs (.t 35) (some (.c (.i .i64 2))) none,none⟩,
 ⟨some 3,.mv (.t 36),none⟩])
 (.seq (.reg [⟨some 38,.mv (.t 3),none⟩,
 ⟨some 39,.bin .eql (.t 38) (.c (.s [47,46])),none⟩,
 ⟨some 37,.mv (.t 39),none⟩])
 (.cond (.t 37)
 (.reg [⟨some 3,.mv (.c (.s [47])),none⟩])
 (.seq (.reg [⟨some 41,.mv (.t 3),none⟩,
 ⟨some 42,.call 208 [.t 41,.c (.s [47,46,46,47])],none⟩,
 ⟨some 40,.mv (.t 42),none⟩])
 (.cond (.t 40)
 (.drw [⟨some 43,.mv (.t 3),none⟩,
 ⟨some 44,.slcs (.t 43) (some (.c (.i .i64 3))) none,none⟩,
 ⟨some 45,.mv (.t 4),none⟩,
 ⟨some 46,.call 209 [.t 45],none⟩,
 ⟨some 3,.mv (.t 44),none⟩,
 ⟨some 4,.mv (.t 46),none⟩] 6 [])
 (.seq (.reg [⟨some 48,.mv (.t 3),none⟩,
 ⟨some 49,.bin .eql (.t 48) (.c (.s [47,46,46])),none⟩,
 ⟨some 47,.mv (.t 49),none⟩])
 (.cond (.t 47)
 (.reg [⟨some 50,.mv (.t 4),none⟩,
 ⟨some 51,.call 209 [.t 50],none⟩,
 ⟨some 3,.mv (.c (.s [47])),none⟩,
 ⟨some 4,.mv (.t 51),none⟩])
 (.seq (.seq (.reg [⟨some 53,.mv (.t 3),none⟩,
 ⟨some 54,.bin .eql (.t 53) (.c (.s [46])),none⟩,
 ⟨some 52,.mv (.t 54),none⟩])
 (.cond (.t 52)
 (.skip)
 (.reg [⟨some 55,.mv (.t 3),none⟩,
 ⟨some 56,.bin .eql (.t 55) (.c (.s [46,46])),none⟩,
 ⟨some 52,.mv (.t 56),none⟩])))
 (.cond (.t 52)
 (.reg [⟨some 3,.mv (.c (.s [])),none⟩])
 (.seq (.reg [⟨some 12,.mv (.t 3),none⟩,
 ⟨some 13,.slcs (.t 12) (some (.c (.i .i64 1))) none,none⟩,
 ⟨some 14,.call 172 [.t 13],none⟩,
 ⟨some 15,.lens (.t 14),none⟩,
 ⟨some 16,.bin .add (.c (.i .i64 1)) (.t 15),none⟩,
 ⟨some 5,.mv (.t 16),none⟩])
 (.drw [⟨some 17,.mv (.t 3),none⟩,
 ⟨some 18,.mv (.t 5),none⟩,
 ⟨some 19,.slcs (.t 17) (some (.t 18)) none,none⟩,
 ⟨some 20,.mv (.t 4),none⟩,
 ⟨some 21,.mv (.t 3),none⟩,
 ⟨some 22,.mv (.t 5),none⟩,
 ⟨some 23,.slcs (.t 21) none (some (.t 22)),none⟩,
 ⟨some 24,.apps 5 (.t 20) (.t 23),none⟩,
 ⟨some 3,.mv (.t 19),none⟩,
 ⟨some 4,.mv (.t 24),none⟩] 10 [])))))))))))))))))))
 (.seq (.reg [⟨some 57,.mv (.t 4),none⟩,
 ⟨some 58,.cvbs (.t 57),none⟩,
 ⟨some 2,.mv (.t 58),none⟩])
 (.ret))))
theorem is_uri_RemoveDots:FnIs Tryz.prog 174 59 [.tmp 2] c_uri_RemoveDots:=⟨⟨_,_,Tryz.func174,rfl,rfl,by kernel_rfl,by kernel_rfl⟩⟩
def c_ascii_IsDigit:SCode :=
 .seq (.reg [⟨some 2,.mv (.c (.b false)),none⟩])
 (.seq (.reg [⟨some 3,.mv (.t 0),none⟩,
 ⟨some 4,.bin .geq (.t 3) (.c (.i .u8 48)),none⟩,
 ⟨some 5,.mv (.t 4),none⟩,
 ⟨some 6,.mv (.t 0),some (5,true)⟩,
 ⟨some 7,.bin .leq (.t 6) (.c (.i .u8 57)),some (5,true)⟩,
 ⟨some 8,.pick (.t 5) (.t 7) (.c (.b false)),none⟩,
 ⟨some 2,.mv (.t 8),none⟩])
 (.ret))
theorem is_ascii_IsDigit:FnIs Tryz.prog 177 9 [.tmp 2] c_ascii_IsDigit:=⟨⟨_,_,Tryz.func177,rfl,rfl,by kernel_rfl,by kernel_rfl⟩⟩
def c_did_isIDByte:SCode :=
 .seq (.reg [⟨some 2,.mv (.c (.b false)),none⟩])
 (.seq (.reg [⟨some 3,.mv (.t 0),none⟩,
 ⟨some 4,.call 206 [.t 3],none⟩,
 ⟨some 5,.mv (.t 4),none⟩,
 ⟨some 6,.mv (.t 0),some (5,false)⟩,
 ⟨some 7,.call 177 [.t 6],some (5,false)⟩,
 ⟨some 8,.pick (.t 5) (.c (.b true)) (.t 7),none⟩,
 ⟨some 9,.mv (.t 8),none⟩,
 ⟨some 10,.mv (.t 0),some (9,false)⟩,
 ⟨some 11,.call 169 [.c (.s [46,45,95,58]),.t 10],some (9,false)⟩,
 ⟨some 12,.bin .geq (.t 11) (.c (.i .i64 0)),some (9,false)⟩,
 ⟨some 13,.pick (.t 9) (.c (.b true)) (.t 12),none⟩,
 ⟨some 2,.mv (.t 13),none⟩])
 (.ret))
theorem is_did_isIDByte:FnIs Tryz.prog 178 14 [.tmp 2] c_did_isIDByte:=⟨⟨_,_,Tryz.func178,rfl,rfl,by kernel_rfl,by kernel_rfl⟩⟩
def c_didweb_each:SCode :=
 .seq (.reg [⟨some 4,.mv (.c (.i .i64 0)),none⟩])
 (.seq (.seq (.reg [⟨some 8,.mv (.t 0),none⟩,
 ⟨some 9,.lenr (.t 8),none⟩,
 ⟨some 10,.mv (.c (.i .i64 0)),none⟩])
 (.blk 0
 (.loop
 (.seq (.reg [⟨some 11,.bin .lss (.t 10) (.t 9),none⟩])
 (.seq (.cond (.t 11)
 (.skip)
 (.exit 0))
 (.seq (.blk 1
 (.seq (.reg [⟨some 12,.iad 1 (.t 8) (.t 10),none⟩,
 ⟨some 13,.load1 (.t 12),none⟩,
 ⟨some 6,.mv (.t 13),none⟩])
 (.seq (.reg [⟨some 14,.mv (.t 1),none⟩,
 ⟨some 15,.mv (.t 6),none⟩,
 ⟨some 16,.callv (.t 14) [.t 15],none⟩,
 ⟨some 7,.mv (.t 16),none⟩])
 (.seq (.reg [⟨some 17,.mv (.t 7),none⟩,
 ⟨some 18,.bin .neq (.t 17) (.c (.i .i64 0)),none⟩])
 (.cond (.t 18)
 (.seq (.reg [⟨some 19,.mv (.t 7),none⟩,
 ⟨some 4,.mv (.t 19),none⟩])
 (.ret))
 (.skip))))))
 (.reg [⟨some 20,.bin .add (.t 10) (.c (.i .i64 1)),none⟩,
 ⟨some 10,.mv (.t 20),none⟩])))))))
 (.seq (.reg [⟨some 4,.mv (.c (.i .i64 0)),none⟩])
 (.ret)))
theorem is_didweb_each:FnIs Tryz.prog 181 21 [.tmp 4] c_didweb_each:=⟨⟨_,_,Tryz.func181,rfl,rfl,by kernel_rfl,by kernel_rfl⟩⟩
def c_didweb_pathWriter_add:SCode :=
 .seq (.reg [⟨some 4,.mv (.c (.i .i64 0)),none⟩])
 (.seq (.reg [⟨some 8,.mv (.t 1),none⟩,
 ⟨some 9,.call 153 [.t 8],none⟩,
 ⟨some 7,.mv (.t 9),none⟩,
 ⟨some 10,.ext (.t 7) 0,none⟩,
 ⟨some 11,.ext (.t 7) 1,none⟩,
 ⟨some 5,.mv (.t 10),none⟩,
 ⟨some 6,.mv (.t 11),none⟩])
 (.seq (.seq (.reg [⟨some 12,.mv (.t 6),none⟩,
 ⟨some 13,.bin .neq (.t 12) (.c (.i .i64 0)),none⟩,
 ⟨some 14,.mv (.t 13),none⟩,
 ⟨some 15,.mv (.t 5),some (14,false)⟩,
 ⟨some 16,.bin .eql (.t 15) (.c (.s [])),some (14,false)⟩,
 ⟨some 17,.pick (.t 14) (.c (.b true)) (.t 16),none⟩,
 ⟨some 18,.mv (.t 17),none⟩,
 ⟨some 19,.mv (.t 5),some (18,false)⟩,
 ⟨some 20,.bin .eql (.t 19) (.c (.s [46])),some (18,false)⟩,
 ⟨some 21,.pick (.t 18) (.c (.b true)) (.t 20),none⟩,
 ⟨some 22,.mv (.t 21),none⟩,
 ⟨some 23,.mv (.t 5),some (22,false)⟩,
 ⟨some 24,.bin .eql (.t 23) (.c (.s [46,46])),some (22,false)⟩,
 ⟨some 25,.pick (.t 22) (.c (.b true)) (.t 24),none⟩])
 (.cond (.t 25)
 (.seq (.reg [⟨some 4,.mv (.c (.i .i64 110)),none⟩])
 (.ret))
 (.skip)))
 (.seq (.drw [⟨some 26,.mv (.t 0),none⟩,
 ⟨some 27,.nck (.t 26),none⟩,
 ⟨some 28,.fad 0 (.t 27),none⟩,
 ⟨some 29,.mv (.t 5),none⟩,
 ⟨some 30,.call 141 [.t 29,.c (.s [])],none⟩,
 ⟨some 31,.bin .add (.c (.s [47])) (.t 30),none⟩,
 ⟨some 32,.call 214 [.t 28,.t 31],none⟩] 6 [])
 (.seq (.reg [⟨some 4,.mv (.c (.i .i64 0)),none⟩])
 (.ret)))))
theorem is_didweb_pathWriter_add:FnIs Tryz.prog 182 33 [.tmp 4] c_didweb_pathWriter_add:=⟨⟨_,_,Tryz.func182,rfl,rfl,by kernel_rfl,by kernel_rfl⟩⟩
def c_weburl_Valid:SCode :=
 .seq (.reg [⟨some 1,.box 79 (.t 0),none⟩,
 ⟨some 2,.mv (.c (.b false)),none⟩])
 (.seq (.reg [⟨some 6,.loadn 7 (.t 1),none⟩,
 ⟨some 7,.call 117 [.t 6],none⟩,
 ⟨some 8,.call 116 [.t 7],none⟩,
 ⟨some 5,.mv (.t 8),none⟩,
 ⟨some 9,.ext (.t 5) 0,none⟩,
 ⟨some 10,.ext (.t 5) 1,none⟩,
 ⟨some 3,.alloc 79 [.s [],.i .i64 0,.s [],.s [],.s [],.b false,.b false],none⟩,
 ⟨none,.store 7 (.t 3) (.t 9),none⟩,
 ⟨some 4,.mv (.t 10),none⟩])
 (.seq (.reg [⟨some 11,.mv (.t 4),none⟩,
 ⟨some 12,.bin .eql (.t 11) (.c (.i .i64 0)),none⟩,
 ⟨some 13,.mv (.t 12),none⟩,
 ⟨some 14,.loadn 7 (.t 3),some (13,true)⟩,
 ⟨some 15,.loadn 7 (.t 1),some (13,true)⟩,
 ⟨some 16,.eqs false (.str [(0,(none,.ts)),(1,(none,.ti)),(2,(none,.ts)),(3,(none,.ts)),(4,(none,.ts)),(5,(none,.tb)),(6,(none,.tb))]) (.t 14) (.t 15),some (13,true)⟩,
 ⟨some 17,.pick (.t 13) (.t 16) (.c (.b false)),none⟩,
 ⟨some 2,.mv (.t 17),none⟩])
 (.ret)))
theorem is_weburl_Valid:FnIs Tryz.prog 184 18 [.tmp 2] c_weburl_Valid:=⟨⟨_,_,Tryz.func184,rfl,rfl,by kernel_rfl,by kernel_rfl⟩⟩
def c_didweb_idWriter_start:SCode :=
 .seq (.reg [⟨some 3,.box 124 (.t 1),none⟩])
 (.seq (.drw [⟨some 4,.mv (.t 0),none⟩,
 ⟨some 5,.nck (.t 4),none⟩,
 ⟨some 6,.fad 0 (.t 5),none⟩,
 ⟨some 7,.fad 0 (.t 3),none⟩,
 ⟨some 8,.load1 (.t 7),none⟩,
 ⟨some 9,.call 214 [.t 6,.t 8],none⟩] 5 [])
 (.seq (.reg [⟨some 10,.fad 1 (.t 3),none⟩,
 ⟨some 11,.load1 (.t 10),none⟩,
 ⟨some 12,.bin .neq (.t 11) (.c (.i .i64 0)),none⟩])
 (.cond (.t 12)
 (.drw [⟨some 13,.mv (.t 0),none⟩,
 ⟨some 14,.nck (.t 13),none⟩,
 ⟨some 15,.fad 0 (.t 14),none⟩,
 ⟨some 16,.fad 1 (.t 3),none⟩,
 ⟨some 17,.load1 (.t 16),none⟩,
 ⟨some 18,.call 175 [.t 17],none⟩,
 ⟨some 19,.bin .add (.c (.s [37,51,65])) (.t 18),none⟩,
 ⟨some 20,.call 214 [.t 15,.t 19],none⟩] 7 [])
 (.skip))))
theorem is_didweb_idWriter_start:FnIs Tryz.prog 185 21 [] c_didweb_idWriter_start:=⟨⟨_,_,Tryz.func185,rfl,rfl,by kernel_rfl,by kernel_rfl⟩⟩
def c_didweb_idWriter_add:SCode :=
 .seq (.reg [⟨some 4,.mv (.c (.i .i64 0)),none⟩])
 (.seq (.reg [⟨some 8,.mv (.t 1),none⟩,
 ⟨some 9,.call 136 [.t 8,.c (.s [])],none⟩,
 ⟨some 7,.mv (.t 9),none⟩,
 ⟨some 10,.ext (.t 7) 0,none⟩,
 ⟨some 11,.ext (.t 7) 1,none⟩,
 ⟨some 5,.mv (.t 10),none⟩,
 ⟨some 6,.mv (.t 11),none⟩])
 (.seq (.seq (.reg [⟨some 12,.mv (.t 6),none⟩,
 ⟨some 13,.bin .neq (.t 12) (.c (.i .i64 0)),none⟩,
 ⟨some 14,.mv (.t 13),none⟩,
 ⟨some 15,.mv (.t 1),some (14,false)⟩,
 ⟨some 16,.bin .eql (.t 15) (.c (.s [])),some (14,false)⟩,
 ⟨some 17,.pick (.t 14) (.c (.b true)) (.t 16),none⟩])
 (.cond (.t 17)
 (.seq (.reg [⟨some 4,.mv (.c (.i .i64 110)),none⟩])
 (.ret))
 (.skip)))
 (.seq (.drw [⟨some 18,.mv (.t 0),none⟩,
 ⟨some 19,.nck (.t 18),none⟩,
 ⟨some 20,.fad 0 (.t 19),none⟩,
 ⟨some 21,.mv (.t 5),none⟩,
 ⟨some 22,.call 179 [.t 21,.c (.s [126]),.c (.s [37,55,69])],none⟩,
 ⟨some 23,.bin .add (.c (.s [58])) (.t 22),none⟩,
 ⟨some 24,.call 214 [.t 20,.t 23],none⟩] 6 [])
 (.seq (.reg [⟨some 4,.mv (.c (.i .i64 0)),none⟩])
 (.ret)))))
theorem is_didweb_idWriter_add:FnIs Tryz.prog 186 25 [.tmp 4] c_didweb_idWriter_add:=⟨⟨_,_,Tryz.func186,rfl,rfl,by kernel_rfl,by kernel_rfl⟩⟩
def c_percent_Decode_1:SCode :=
 .seq (.reg [⟨some 6,.mv (.c .nil),none⟩,
 ⟨some 7,.mv (.c (.i .i64 0)),none⟩])
 (.seq (.reg [⟨some 8,.mv (.t 0),none⟩,
 ⟨some 9,.mv (.t 1),none⟩,
 ⟨some 10,.bslice 1 [.i .u8 0] [(0,(1,.t 9))],none⟩,
 ⟨some 11,.app 5 1 1 (.t 8) (.t 10),none⟩,
 ⟨some 6,.mv (.t 11),none⟩,
 ⟨some 7,.mv (.c (.i .i64 0)),none⟩])
 (.ret))
theorem is_percent_Decode_1:FnIs Tryz.prog 187 12 [.tmp 6,.tmp 7] c_percent_Decode_1:=⟨⟨_,_,Tryz.func187,rfl,rfl,by kernel_rfl,by kernel_rfl⟩⟩
def c_host_Port:SCode :=
 .seq (.reg [⟨some 2,.mv (.c (.i .i64 0)),none⟩,
 ⟨some 3,.mv (.c (.i .i64 0)),none⟩])
 (.seq (.reg [⟨some 7,.mv (.t 0),none⟩,
 ⟨some 8,.call 167 [.t 7,.c (.i .u64 65535)],none⟩,
 ⟨some 6,.mv (.t 8),none⟩,
 ⟨some 9,.ext (.t 6) 0,none⟩,
 ⟨some 10,.ext (.t 6) 1,none⟩,
 ⟨some 4,.mv (.t 9),none⟩,
 ⟨some 5,.mv (.t 10),none⟩])
 (.seq (.seq (.reg [⟨some 11,.mv (.t 5),none⟩,
 ⟨some 12,.bin .neq (.t 11) (.c (.i .i64 0)),none⟩,
 ⟨some 13,.mv (.t 12),none⟩,
 ⟨some 14,.mv (.t 4),some (13,false)⟩,
 ⟨some 15,.bin .eql (.t 14) (.c (.i .u64 0)),some (13,false)⟩,
 ⟨some 16,.pick (.t 13) (.c (.b true)) (.t 15),none⟩])
 (.cond (.t 16)
 (.seq (.reg [⟨some 2,.mv (.c (.i .i64 0)),none⟩,
 ⟨some 3,.mv (.c (.i .i64 51)),none⟩])
 (.ret))
 (.skip)))
 (.seq (.reg [⟨some 17,.mv (.t 4),none⟩,
 ⟨some 18,.cvi .i64 (.t 17),none⟩,
 ⟨some 2,.mv (.t 18),none⟩,
 ⟨some 3,.mv (.c (.i .i64 0)),none⟩])
 (.ret))))
theorem is_host_Port:FnIs Tryz.prog 188 19 [.tmp 2,.tmp 3] c_host_Port:=⟨⟨_,_,Tryz.func188,rfl,rfl,by kernel_rfl,by kernel_rfl⟩⟩
def c_percent_isEscapeAt:SCode :=
 .seq (.reg [⟨some 4,.mv (.c (.b false)),none⟩])
 (.seq (.reg [⟨some 5,.mv (.t 0),none⟩,
 ⟨some 6,.lens (.t 5),none⟩,
 ⟨some 7,.mv (.t 1),none⟩,
 ⟨some 8,.bin .sub (.t 6) (.t 7),none⟩,
 ⟨some 9,.bin .geq (.t 8) (.c (.i .i64 3)),none⟩,
 ⟨some 10,.mv (.t 9),none⟩,
 ⟨some 11,.mv (.t 0),some (10,true)⟩,
 ⟨some 12,.mv (.t 1),some (10,true)⟩,
 ⟨some 13,.bin .add (.t 12) (.c (.i .i64 1)),some (10,true)⟩,
 ⟨some 14,.idx (.t 11) (.t 13),some (10,true)⟩,
 ⟨some 15,.call 217 [.t 14],some (10,true)⟩,
 ⟨some 16,.pick (.t 10) (.t 15) (.c (.b false)),none⟩,
 ⟨some 17,.mv (.t 16),none⟩,
 ⟨some 18,.mv (.t 0),some (17,true)⟩,
 ⟨some 19,.mv (.t 1),some (17,true)⟩,
 ⟨some 20,.bin .add (.t 19) (.c (.i .i64 2)),some (17,true)⟩,
 ⟨some 21,.idx (.t 18) (.t 20),some (17,true)⟩,
 ⟨some 22,.call 217 [.t 21],some (17,true)⟩,
 ⟨some 23,.pick (.t 17) (.t 22) (.c (.b false)),none⟩,
 ⟨some 4,.mv (.t 23),none⟩])
 (.ret))
theorem is_percent_isEscapeAt:FnIs Tryz.prog 193 24 [.tmp 4] c_percent_isEscapeAt:=⟨⟨_,_,Tryz.func193,rfl,rfl,by kernel_rfl,by kernel_rfl⟩⟩
def c_percent_digit:SCode :=
 .seq (.reg [⟨some 2,.mv (.c (.i .u8 0)),none⟩])
 (.seq (.seq (.reg [⟨some 3,.mv (.t 0),none⟩,
 ⟨some 4,.call 177 [.t 3],none⟩])
 (.cond (.t 4)
 (.seq (.reg [⟨some 5,.mv (.t 0),none⟩,
 ⟨some 6,.bin .sub (.t 5) (.c (.i .u8 48)),none⟩,
 ⟨some 2,.mv (.t 6),none⟩])
 (.ret))
 (.skip)))
 (.seq (.reg [⟨some 7,.mv (.t 0),none⟩,
 ⟨some 8,.pu (.bits .and) [.t 7,.c (.i .u8 223)],none⟩,
 ⟨some 9,.bin .sub (.t 8) (.c (.i .u8 65)),none⟩,
 ⟨some 10,.bin .add (.t 9) (.c (.i .u8 10)),none⟩,
 ⟨some 2,.mv (.t 10),none⟩])
 (.ret)))
theorem is_percent_digit:FnIs Tryz.prog 194 11 [.tmp 2] c_percent_digit:=⟨⟨_,_,Tryz.func194,rfl,rfl,by kernel_rfl,by kernel_rfl⟩⟩
def c_ascii_isLetterOrDigit:SCode :=
 .seq (.reg [⟨some 2,.mv (.c (.b false)),none⟩])
 (.seq (.reg [⟨some 3,.mv (.t 0),none⟩,
 ⟨some 4,.call 206 [.t 3],none⟩,
 ⟨some 5,.mv (.t 4),none⟩,
 ⟨some 6,.mv (.t 0),some (5,false)⟩,
 ⟨some 7,.call 177 [.t 6],some (5,false)⟩,
 ⟨some 8,.pick (.t 5) (.c (.b true)) (.t 7),none⟩,
 ⟨some 2,.mv (.t 8),none⟩])
 (.ret))
theorem is_ascii_isLetterOrDigit:FnIs Tryz.prog 195 9 [.tmp 2] c_ascii_isLetterOrDigit:=⟨⟨_,_,Tryz.func195,rfl,rfl,by kernel_rfl,by kernel_rfl⟩⟩
def c_ascii_isOneOf:SCode :=
 .seq (.reg [⟨some 4,.mv (.c (.b false)),none⟩])
 (.seq (.reg [⟨some 5,.mv (.t 1),none⟩,
 ⟨some 6,.mv (.t 0),none⟩,
 ⟨some 7,.call 169 [.t 5,.t 6],none⟩,
 ⟨some 8,.bin .geq (.t 7) (.c (.i .i64 0)),none⟩,
 ⟨some 4,.mv (.t 8),none⟩])
 (.ret))
theorem is_ascii_isOneOf:FnIs Tryz.prog 196 9 [.tmp 4] c_ascii_isOneOf:=⟨⟨_,_,Tryz.func196,rfl,rfl,by kernel_rfl,by kernel_rfl⟩⟩
def c_host_isLabel:SCode :=
 .seq (.reg [⟨some 2,.mv (.c (.b false)),none⟩])
 (.seq (.seq (.reg [⟨some 4,.mv (.t 0),none⟩,
 ⟨some 5,.bin .eql (.t 4) (.c (.s [])),none⟩,
 ⟨some 6,.mv (.t 5),none⟩,
 ⟨some 7,.mv (.t 0),some (6,false)⟩,
 ⟨some 8,.lens (.t 7),some (6,false)⟩,
 ⟨some 9,.bin .gtr (.t 8) (.c (.i .i64 63)),some (6,false)⟩,
 ⟨some 10,.pick (.t 6) (.c (.b true)) (.t 9),none⟩,
 ⟨some 11,.mv (.t 10),none⟩,
 ⟨some 12,.mv (.t 0),some (11,false)⟩,
 ⟨some 13,.idx (.t 12) (.c (.i .i64 0)),some (11,false)⟩,
 ⟨some 14,.bin .eql (.t 13) (.c (.i .u8 45)),some (11,false)⟩,
 ⟨some 15,.pick (.t 11) (.c (.b true)) (.t 14),none⟩,
 ⟨some 16,.mv (.t 15),none⟩,
 ⟨some 17,.mv (.t 0),some (16,false)⟩,
 ⟨some 18,.mv (.t 0),some (16,false)⟩,
 ⟨some 19,.lens (.t 18),some (16,false)⟩,
 ⟨some 20,.bin .sub (.t 19) (.c (.i .i64 1)),some (16,false)⟩,
 ⟨some 21,.idx (.t 17) (.t 20),some (16,false)⟩,
 ⟨some 22,.bin .eql (.t 21) (.c (.i .u8 45)),some (16,false)⟩,
 ⟨some 23,.pick (.t 16) (.c (.b true)) (.t 22),none⟩])
 (.cond (.t 23)
 (.seq (.reg [⟨some 2,.mv (.c (.b false)),none⟩])
 (.ret))
 (.skip)))
 (.seq (.seq (.reg [⟨some 24,.mv (.t 0),none⟩,
 ⟨some 25,.lens (.t 24),none⟩,
 ⟨some 26,.mv (.c (.i .i64 0)),none⟩])
 (.blk 0
 (.loop
 (.seq (.reg [⟨some 27,.bin .lss (.t 26) (.t 25),none⟩])
 (.seq (.cond (.t 27)
 (.skip)
 (.exit 0))
 (.seq (.blk 1
 (.seq (.reg [⟨some 28,.mv (.t 26),none⟩,
 ⟨some 3,.mv (.t 28),none⟩])
 (.seq (.reg [⟨some 29,.mv (.t 0),none⟩,
 ⟨some 30,.mv (.t 3),none⟩,
 ⟨some 31,.idx (.t 29) (.t 30),none⟩,
 ⟨some 32,.call 206 [.t 31],none⟩,
 ⟨some 33,.not (.t 32),none⟩,
 ⟨some 34,.mv (.t 33),none⟩,
 ⟨some 35,.mv (.t 0),some (34,true)⟩,
 ⟨some 36,.mv (.t 3),some (34,true)⟩,
 ⟨some 37,.idx (.t 35) (.t 36),some (34,true)⟩,
 ⟨some 38,.call 177 [.t 37],some (34,true)⟩,
 ⟨some 39,.not (.t 38),some (34,true)⟩,
 ⟨some 40,.pick (.t 34) (.t 39) (.c (.b false)),none⟩,
 ⟨some 41,.mv (.t 40),none⟩,
 ⟨some 42,.mv (.t 0),some (41,true)⟩,
 ⟨some 43,.mv (.t 3),some (41,true)⟩,
 ⟨some 44,.idx (.t 42) (.t 43),some (41,true)⟩,
 ⟨some 45,.bin .neq (.t 44) (.c (.i .u8 45)),some (41,true)⟩,
 ⟨some 46,.pick (.t 41) (.t 45) (.c (.b false)),none⟩])
 (.cond (.t 46)
 (.seq (.reg [⟨some 2,.mv (.c (.b false)),none⟩])
 (.ret))
 (.skip)))))
 (.reg [⟨some 47,.bin .add (.t 26) (.c (.i .i64 1)),none⟩,
 ⟨some 26,.mv (.t 47),none⟩])))))))
 (.seq (.reg [⟨some 2,.mv (.c (.b true)),none⟩])
 (.ret))))
theorem is_host_isLabel:FnIs Tryz.prog 197 48 [.tmp 2] c_host_isLabel:=⟨⟨_,_,Tryz.func197,rfl,rfl,by kernel_rfl,by kernel_rfl⟩⟩
def c_ascii_Digits:SCode :=
 .seq (.reg [⟨some 2,.mv (.c (.b false)),none⟩])
 (.seq (.seq (.reg [⟨some 4,.mv (.t 0),none⟩,
 ⟨some 5,.lens (.t 4),none⟩,
 ⟨some 6,.mv (.c (.i .i64 0)),none⟩])
 (.blk 0
 (.loop
 (.seq (.reg [⟨some 7,.bin .lss (.t 6) (.t 5),none⟩])
 (.seq (.cond (.t 7)
 (.skip)
 (.exit 0))
 (.seq (.blk 1
 (.seq (.reg [⟨some 8,.mv (.t 6),none⟩,
 ⟨some 3,.mv (.t 8),none⟩])
 (.seq (.reg [⟨some 9,.mv (.t 0),none⟩,
 ⟨some 10,.mv (.t 3),none⟩,
 ⟨some 11,.idx (.t 9) (.t 10),none⟩,
 ⟨some 12,.call 177 [.t 11],none⟩,
 ⟨some 13,.not (.t 12),none⟩])
 (.cond (.t 13)
 (.seq (.reg [⟨some 2,.mv (.c (.b false)),none⟩])
 (.ret))
 (.skip)))))
 (.reg [⟨some 14,.bin .add (.t 6) (.c (.i .i64 1)),none⟩,
 ⟨some 6,.mv (.t 14),none⟩])))))))
 (.seq (.reg [⟨some 15,.mv (.t 0),none⟩,
 ⟨some 16,.bin .neq (.t 15) (.c (.s [])),none⟩,
 ⟨some 2,.mv (.t 16),none⟩])
 (.ret)))
theorem is_ascii_Digits:FnIs Tryz.prog 198 17 [.tmp 2] c_ascii_Digits:=⟨⟨_,_,Tryz.func198,rfl,rfl,by kernel_rfl,by kernel_rfl⟩⟩
def c_mail_isAtom:SCode :=
 .seq (.reg [⟨some 2,.mv (.c (.b false)),none⟩])
 (.seq (.reg [⟨some 3,.mv (.t 0),none⟩,
 ⟨some 4,.call 206 [.t 3],none⟩,
 ⟨some 5,.mv (.t 4),none⟩,
 ⟨some 6,.mv (.t 0),some (5,false)⟩,
 ⟨some 7,.call 177 [.t 6],some (5,false)⟩,
 ⟨some 8,.pick (.t 5) (.c (.b true)) (.t 7),none⟩,
 ⟨some 9,.mv (.t 8),none⟩,
 ⟨some 10,.mv (.t 0),some (9,false)⟩,
 ⟨some 11,.call 165 [.t 10,.c (.s [33,35,36,37,38,39,42,43,45,47,61,63,94,95,96,123,124,125,126])],some (9,false)⟩,
 ⟨some 12,.pick (.t 9) (.c (.b true)) (.t 11),none⟩,
 ⟨some 2,.mv (.t 12),none⟩])
 (.ret))
theorem is_mail_isAtom:FnIs Tryz.prog 203 13 [.tmp 2] c_mail_isAtom:=⟨⟨_,_,Tryz.func203,rfl,rfl,by kernel_rfl,by kernel_rfl⟩⟩
def c_number_check:SCode :=
 .seq (.reg [⟨some 4,.mv (.c (.i .i64 0)),none⟩])
 (.seq (.seq (.reg [⟨some 6,.mv (.t 0),none⟩,
 ⟨some 7,.bin .eql (.t 6) (.c (.s [])),none⟩])
 (.cond (.t 7)
 (.seq (.reg [⟨some 4,.mv (.c (.i .i64 3)),none⟩])
 (.ret))
 (.skip)))
 (.seq (.seq (.reg [⟨some 8,.mv (.t 0),none⟩,
 ⟨some 9,.lens (.t 8),none⟩,
 ⟨some 10,.mv (.c (.i .i64 0)),none⟩])
 (.blk 0
 (.loop
 (.seq (.reg [⟨some 11,.bin .lss (.t 10) (.t 9),none⟩])
 (.seq (.cond (.t 11)
 (.skip)
 (.exit 0))
 (.seq (.blk 1
 (.seq (.reg [⟨some 12,.mv (.t 10),none⟩,
 ⟨some 5,.mv (.t 12),none⟩])
 (.seq (.reg [⟨some 13,.mv (.t 1),none⟩,
 ⟨some 14,.mv (.t 0),none⟩,
 ⟨some 15,.mv (.t 5),none⟩,
 ⟨some 16,.idx (.t 14) (.t 15),none⟩,
 ⟨some 17,.callv (.t 13) [.t 16],none⟩,
 ⟨some 18,.not (.t 17),none⟩])
 (.cond (.t 18)
 (.seq (.reg [⟨some 4,.mv (.c (.i .i64 1)),none⟩])
 (.ret))
 (.skip)))))
 (.reg [⟨some 19,.bin .add (.t 10) (.c (.i .i64 1)),none⟩,
 ⟨some 10,.mv (.t 19),none⟩])))))))
 (.seq (.reg [⟨some 4,.mv (.c (.i .i64 0)),none⟩])
 (.ret))))
theorem is_number_check:FnIs Tryz.prog 204 20 [.tmp 4] c_number_check:=⟨⟨_,_,Tryz.func204,rfl,rfl,by kernel_rfl,by kernel_rfl⟩⟩
def c_number_value:SCode :=
 .seq (.reg [⟨some 6,.mv (.c (.i .u64 0)),none⟩,
 ⟨some 7,.mv (.c (.i .i64 0)),none⟩])
 (.seq (.reg [⟨some 8,.mv (.c (.i .u64 0)),none⟩])
 (.seq (.seq (.reg [⟨some 11,.mv (.t 0),none⟩,
 ⟨some 12,.lens (.t 11),none⟩,
 ⟨some 13,.mv (.c (.i .i64 0)),none⟩])
 (.blk 0
 (.loop
 (.seq (.reg [⟨some 14,.bin .lss (.t 13) (.t 12),none⟩])
 (.seq (.cond (.t 14)
 (.skip)
 (.exit 0))
 (.seq (.blk 1
 (.seq (.reg [⟨some 15,.mv (.t 13),none⟩,
 ⟨some 9,.mv (.t 15),none⟩])
 (.seq (.reg [⟨some 16,.mv (.t 0),none⟩,
 ⟨some 17,.mv (.t 9),none⟩,
 ⟨some 18,.idx (.t 16) (.t 17),none⟩,
 ⟨some 19,.call 219 [.t 18],none⟩,
 ⟨some 10,.mv (.t 19),none⟩])
 (.seq (.seq (.reg [⟨some 20,.mv (.t 10),none⟩,
 ⟨some 21,.mv (.t 2),none⟩,
 ⟨some 22,.bin .gtr (.t 20) (.t 21),none⟩,
 ⟨some 23,.mv (.t 22),none⟩,
 ⟨some 24,.mv (.t 8),some (23,false)⟩,
 ⟨some 25,.mv (.t 2),some (23,false)⟩,
 ⟨some 26,.mv (.t 10),some (23,false)⟩,
 ⟨some 27,.bin .sub (.t 25) (.t 26),some (23,false)⟩,
 ⟨some 28,.mv (.t 1),some (23,false)⟩,
 ⟨some 29,.bin .quo (.t 27) (.t 28),some (23,false)⟩,
 ⟨some 30,.bin .gtr (.t 24) (.t 29),some (23,false)⟩,
 ⟨some 31,.pick (.t 23) (.c (.b true)) (.t 30),none⟩])
 (.cond (.t 31)
 (.seq (.reg [⟨some 6,.mv (.c (.i .u64 0)),none⟩,
 ⟨some 7,.mv (.c (.i .i64 4)),none⟩])
 (.ret))
 (.skip)))
 (.reg [⟨some 32,.mv (.t 8),none⟩,
 ⟨some 33,.mv (.t 1),none⟩,
 ⟨some 34,.bin .mul (.t 32) (.t 33),none⟩,
 ⟨some 35,.mv (.t 10),none⟩,
 ⟨some 36,.bin .add (.t 34) (.t 35),none⟩,
 ⟨some 8,.mv (.t 36),none⟩])))))
 (.reg [⟨some 37,.bin .add (.t 13) (.c (.i .i64 1)),none⟩,
 ⟨some 13,.mv (.t 37),none⟩])))))))
 (.seq (.reg [⟨some 38,.mv (.t 8),none⟩,
 ⟨some 6,.mv (.t 38),none⟩,
 ⟨some 7,.mv (.c (.i .i64 0)),none⟩])
 (.ret))))
theorem is_number_value:FnIs Tryz.prog 205 39 [.tmp 6,.tmp 7] c_number_value:=⟨⟨_,_,Tryz.func205,rfl,rfl,by kernel_rfl,by kernel_rfl⟩⟩
def c_ascii_IsAlpha:SCode :=
 .seq (.reg [⟨some 2,.mv (.c (.b false)),none⟩])
 (.seq (.reg [⟨some 3,.mv (.t 0),none⟩,
 ⟨some 4,.bin .geq (.t 3) (.c (.i .u8 97)),none⟩,
 ⟨some 5,.mv (.t 4),none⟩,
 ⟨some 6,.mv (.t 0),some (5,true)⟩,
 ⟨some 7,.bin .leq (.t 6) (.c (.i .u8 122)),some (5,true)⟩,
 ⟨some 8,.pick (.t 5) (.t 7) (.c (.b false)),none⟩,
 ⟨some 9,.mv (.t 8),none⟩,
 ⟨some 10,.mv (.t 0),some (9,false)⟩,
 ⟨some 11,.call 156 [.t 10],some (9,false)⟩,
 ⟨some 12,.pick (.t 9) (.c (.b true)) (.t 11),none⟩,
 ⟨some 2,.mv (.t 12),none⟩])
 (.ret))
theorem is_ascii_IsAlpha:FnIs Tryz.prog 206 13 [.tmp 2] c_ascii_IsAlpha:=⟨⟨_,_,Tryz.func206,rfl,rfl,by kernel_rfl,by kernel_rfl⟩⟩
def c_uri_withoutLast:SCode :=
 .seq (.reg [⟨some 2,.mv (.c .nil),none⟩])
 (.seq (.seq (.reg [⟨some 4,.mv (.t 0),none⟩,
 ⟨some 5,.lenr (.t 4),none⟩,
 ⟨some 6,.bin .sub (.t 5) (.c (.i .i64 1)),none⟩,
 ⟨some 3,.mv (.t 6),none⟩])
 (.blk 0
 (.loop
 (.seq (.seq (.reg [⟨some 7,.mv (.t 3),none⟩,
 ⟨some 8,.bin .geq (.t 7) (.c (.i .i64 0)),none⟩])
 (.cond (.t 8)
 (.skip)
 (.exit 0)))
 (.seq (.blk 1
 (.seq (.reg [⟨some 11,.mv (.t 0),none⟩,
 ⟨some 12,.mv (.t 3),none⟩,
 ⟨some 13,.iad 1 (.t 11) (.t 12),none⟩,
 ⟨some 14,.load1 (.t 13),none⟩,
 ⟨some 15,.bin .eql (.t 14) (.c (.i .u8 47)),none⟩])
 (.cond (.t 15)
 (.seq (.reg [⟨some 16,.mv (.t 0),none⟩,
 ⟨some 17,.mv (.t 3),none⟩,
 ⟨some 18,.trn 1 (.t 16) (.t 17),none⟩,
 ⟨some 2,.mv (.t 18),none⟩])
 (.ret))
 (.skip))))
 (.reg [⟨some 9,.mv (.t 3),none⟩,
 ⟨some 10,.bin .sub (.t 9) (.c (.i .i64 1)),none⟩,
 ⟨some 3,.mv (.t 10),none⟩]))))))
 (.seq (.reg [⟨some 19,.mv (.t 0),none⟩,
 ⟨some 20,.trn 1 (.t 19) (.c (.i .i64 0)),none⟩,
 ⟨some 2,.mv (.t 20),none⟩])
 (.ret)))
theorem is_uri_withoutLast:FnIs Tryz.prog 209 21 [.tmp 2] c_uri_withoutLast:=⟨⟨_,_,Tryz.func209,rfl,rfl,by kernel_rfl,by kernel_rfl⟩⟩
def c_strings_Builder_WriteString:SCode :=
 .seq (.reg [⟨some 4,.mv (.c (.i .i64 0)),none⟩,
 ⟨some 5,.mv (.c (.o .nilIface)),none⟩])
 (.seq (.reg [⟨some 6,.mv (.t 0),none⟩,
 ⟨some 7,.call 225 [.t 6],none⟩])
 (.seq (.reg [⟨some 8,.mv (.t 0),none⟩,
 ⟨some 9,.mv (.t 0),none⟩,
 ⟨some 10,.nck (.t 9),none⟩,
 ⟨some 11,.fad 1 (.t 10),none⟩,
 ⟨some 12,.load1 (.t 11),none⟩,
 ⟨some 13,.mv (.t 1),none⟩,
 ⟨some 14,.apps 5 (.t 12) (.t 13),none⟩,
 ⟨some 15,.nck (.t 8),none⟩,
 ⟨some 16,.fad 1 (.t 15),none⟩,
 ⟨none,.store 1 (.t 16) (.t 14),none⟩])
 (.seq (.reg [⟨some 17,.mv (.t 1),none⟩,
 ⟨some 18,.lens (.t 17),none⟩,
 ⟨some 4,.mv (.t 18),none⟩,
 ⟨some 5,.mv (.c (.o .nilIface)),none⟩])
 (.ret))))
theorem is_strings_Builder_WriteString:FnIs Tryz.prog 214 19 [.tmp 4,.tmp 5] c_strings_Builder_WriteString:=⟨⟨_,_,Tryz.func214,rfl,rfl,by kernel_rfl,by kernel_rfl⟩⟩
def c_ascii_IsHex:SCode :=
 .seq (.reg [⟨some 2,.mv (.c (.b false)),none⟩])
 (.seq (.reg [⟨some 3,.mv (.t 0),none⟩,
 ⟨some 4,.call 177 [.t 3],none⟩,
 ⟨some 5,.mv (.t 4),none⟩,
 ⟨some 6,.mv (.t 0),some (5,false)⟩,
 ⟨some 7,.bin .geq (.t 6) (.c (.i .u8 97)),some (5,false)⟩,
 ⟨some 8,.mv (.t 7),some (5,false)⟩,
 ⟨some 9,.mv (.t 0),some (8,true)⟩,
 ⟨some 10,.bin .leq (.t 9) (.c (.i .u8 102)),some (8,true)⟩,
 ⟨some 11,.pick (.t 8) (.t 10) (.c (.b false)),some (5,false)⟩,
 ⟨some 12,.pick (.t 5) (.c (.b true)) (.t 11),none⟩,
 ⟨some 13,.mv (.t 12),none⟩,
 ⟨some 14,.mv (.t 0),some (13,false)⟩,
 ⟨some 15,.bin .geq (.t 14) (.c (.i .u8 65)),some (13,false)⟩,
 ⟨some 16,.mv (.t 15),some (13,false)⟩,
 ⟨some 17,.mv (.t 0),some (16,true)⟩,
 ⟨some 18,.bin .leq (.t 17) (.c (.i .u8 70)),some (16,true)⟩,
 ⟨some 19,.pick (.t 16) (.t 18) (.c (.b false)),some (13,false)⟩,
 ⟨some 20,.pick (.t 13) (.c (.b true)) (.t 19),none⟩,
 ⟨some 2,.mv (.t 20),none⟩])
 (.ret))
theorem is_ascii_IsHex:FnIs Tryz.prog 217 21 [.tmp 2] c_ascii_IsHex:=⟨⟨_,_,Tryz.func217,rfl,rfl,by kernel_rfl,by kernel_rfl⟩⟩
def c_number_digit:SCode :=
 .seq (.reg [⟨some 2,.mv (.c (.i .u64 0)),none⟩])
 (.seq (.seq (.reg [⟨some 3,.mv (.t 0),none⟩,
 ⟨some 4,.call 177 [.t 3],none⟩])
 (.cond (.t 4)
 (.seq (.reg [⟨some 5,.mv (.t 0),none⟩,
 ⟨some 6,.bin .sub (.t 5) (.c (.i .u8 48)),none⟩,
 ⟨some 7,.cvi .u64 (.t 6),none⟩,
 ⟨some 2,.mv (.t 7),none⟩])
 (.ret))
 (.skip)))
 (.seq (.reg [⟨some 8,.mv (.t 0),none⟩,
 ⟨some 9,.pu (.bits .and) [.t 8,.c (.i .u8 223)],none⟩,
 ⟨some 10,.bin .sub (.t 9) (.c (.i .u8 65)),none⟩,
 ⟨some 11,.cvi .u64 (.t 10),none⟩,
 ⟨some 12,.bin .add (.t 11) (.c (.i .u64 10)),none⟩,
 ⟨some 2,.mv (.t 12),none⟩])
 (.ret)))
theorem is_number_digit:FnIs Tryz.prog 219 13 [.tmp 2] c_number_digit:=⟨⟨_,_,Tryz.func219,rfl,rfl,by kernel_rfl,by kernel_rfl⟩⟩
def c_internal_strconv_FormatInt:SCode :=
 .seq (.reg [⟨some 4,.mv (.c (.s [])),none⟩])
 (.seq (.seq (.reg [⟨some 10,.mv (.t 1),none⟩,
 ⟨some 11,.bin .eql (.t 10) (.c (.i .i64 10)),none⟩])
 (.cond (.t 11)
 (.seq (.seq (.reg [⟨some 12,.mv (.t 0),none⟩,
 ⟨some 13,.bin .leq (.c (.i .i64 0)) (.t 12),none⟩,
 ⟨some 14,.mv (.t 13),none⟩,
 ⟨some 15,.mv (.t 0),some (14,true)⟩,
 ⟨some 16,.bin .lss (.t 15) (.c (.i .i64 100)),some (14,true)⟩,
 ⟨some 17,.pick (.t 14) (.t 16) (.c (.b false)),none⟩])
 (.cond (.t 17)
 (.seq (.reg [⟨some 18,.mv (.t 0),none⟩,
 ⟨some 19,.call 226 [.t 18],none⟩,
 ⟨some 4,.mv (.t 19),none⟩])
 (.ret))
 (.skip)))
 (.seq (.reg [⟨some 5,.alloc 221 [.i .u8 0,.i .u8 0,.i .u8 0,.i .u8 0,.i .u8 0,.i .u8 0,.i .u8 0,.i .u8 0,.i .u8 0,.i .u8 0,.i .u8 0,.i .u8 0,.i .u8 0,.i .u8 0,.i .u8 0,.i .u8 0,.i .u8 0,.i .u8 0,.i .u8 0,.i .u8 0,.i .u8 0,.i .u8 0,.i .u8 0,.i .u8 0],none⟩])
 (.seq (.reg [⟨some 20,.mv (.t 0),none⟩,
 ⟨some 21,.cvi .u64 (.t 20),none⟩,
 ⟨some 6,.mv (.t 21),none⟩])
 (.seq (.seq (.reg [⟨some 22,.mv (.t 0),none⟩,
 ⟨some 23,.bin .lss (.t 22) (.c (.i .i64 0)),none⟩])
 (.cond (.t 23)
 (.reg [⟨some 24,.mv (.t 6),none⟩,
 ⟨some 25,.neg (.t 24),none⟩,
 ⟨some 6,.mv (.t 25),none⟩])
 (.skip)))
 (.seq (.reg [⟨some 26,.mv (.t 6),none⟩,
 ⟨some 27,.call 227 [.t 26],none⟩,
 ⟨some 7,.mv (.t 27),none⟩])
 (.seq (.reg [⟨some 28,.mv (.t 7),none⟩,
 ⟨some 29,.bin .add (.c (.i .i64 1)) (.t 28),none⟩,
 ⟨some 30,.pu (.aslb 1 24) [.t 5,.c (.i .i64 1),.t 29],none⟩,
 ⟨some 31,.mv (.t 6),none⟩,
 ⟨some 32,.call 228 [.t 30,.t 31],none⟩])
 (.seq (.seq (.reg [⟨some 33,.mv (.t 0),none⟩,
 ⟨some 34,.bin .lss (.t 33) (.c (.i .i64 0)),none⟩])
 (.cond (.t 34)
 (.seq (.reg [⟨some 35,.iada 1 24 (.t 5) (.c (.i .i64 0)),none⟩,
 ⟨none,.store 1 (.t 35) (.c (.i .u8 45)),none⟩])
 (.seq (.reg [⟨some 36,.mv (.t 7),none⟩,
 ⟨some 37,.bin .add (.c (.i .i64 1)) (.t 36),none⟩,
 ⟨some 38,.pu (.aslh 1 24) [.t 5,.t 37],none⟩,
 ⟨some 39,.cvbs (.t 38),none⟩,
 ⟨some 4,.mv (.t 39),none⟩])
 (.ret)))
 (.skip)))
 (.seq (.reg [⟨some 40,.mv (.t 7),none⟩,
 ⟨some 41,.bin .add (.c (.i .i64 1)) (.t 40),none⟩,
 ⟨some 42,.pu (.aslb 1 24) [.t 5,.c (.i .i64 1),.t 41],none⟩,
 ⟨some 43,.cvbs (.t 42),none⟩,
 ⟨some 4,.mv (.t 43),none⟩])
 (.ret)))))))))
 (.skip)))
 (.seq (.reg [⟨some 45,.mv (.t 0),none⟩,
 ⟨some 46,.cvi .u64 (.t 45),none⟩,
 ⟨some 47,.mv (.t 1),none⟩,
 ⟨some 48,.mv (.t 0),none⟩,
 ⟨some 49,.bin .lss (.t 48) (.c (.i .i64 0)),none⟩,
 ⟨some 50,.call 229 [.c .nil,.t 46,.t 47,.t 49,.c (.b false)],none⟩,
 ⟨some 44,.mv (.t 50),none⟩,
 ⟨some 51,.ext (.t 44) 0,none⟩,
 ⟨some 52,.ext (.t 44) 1,none⟩,
 ⟨some 8,.mv (.t 51),none⟩,
 ⟨some 9,.mv (.t 52),none⟩])
 (.seq (.reg [⟨some 53,.mv (.t 9),none⟩,
 ⟨some 4,.mv (.t 53),none⟩])
 (.ret))))
theorem is_internal_strconv_FormatInt:FnIs Tryz.prog 220 54 [.tmp 4] c_internal_strconv_FormatInt:=⟨⟨_,_,Tryz.func220,rfl,rfl,by kernel_rfl,by kernel_rfl⟩⟩
def c_internal_strconv_formatBits:SCode :=
 .seq (.reg [⟨some 10,.mv (.c .nil),none⟩,
 ⟨some 11,.mv (.c (.s [])),none⟩])
 (.seq (.seq (.reg [⟨some 19,.mv (.t 2),none⟩,
 ⟨some 20,.bin .lss (.t 19) (.c (.i .i64 2)),none⟩,
 ⟨some 21,.mv (.t 20),none⟩,
 ⟨some 22,.mv (.t 2),some (21,false)⟩,
 ⟨some 23,.bin .eql (.t 22) (.c (.i .i64 10)),some (21,false)⟩,
 ⟨some 24,.pick (.t 21) (.c (.b true)) (.t 23),none⟩,
 ⟨some 25,.mv (.t 24),none⟩,
 ⟨some 26,.mv (.t 2),some (25,false)⟩,
 ⟨some 27,.bin .gtr (.t 26) (.c (.i .i64 36)),some (25,false)⟩,
 ⟨some 28,.pick (.t 25) (.c (.b true)) (.t 27),none⟩])
 (.cond (.t 28)
 (.dead)
 (.skip)))
 (.seq (.reg [⟨some 12,.alloc 230 [.i .u8 0,.i .u8 0,.i .u8 0,.i .u8 0,.i .u8 0,.i .u8 0,.i .u8 0,.i .u8 0,.i .u8 0,.i .u8 0,.i .u8 0,.i .u8 0,.i .u8 0,.i .u8 0,.i .u8 0,.i .u8 0,.i .u8 0,.i .u8 0,.i .u8 0,.i .u8 0,.i .u8 0,.i .u8 0,.i .u8 0,.i .u8 0,.i .u8 0,.i .u8 0,.i .u8 0,.i .u8 0,.i .u8 0,.i .u8 0,.i .u8 0,.i .u8 0,.i .u8 0,.i .u8 0,.i .u8 0,.i .u8 0,.i .u8 0,.i .u8 0,.i .u8 0,.i .u8 0,.i .u8 0,.i .u8 0,.i .u8 0,.i .u8 0,.i .u8 0,.i .u8 0,.i .u8 0,.i .u8 0,.i .u8 0,.i .u8 0,.i .u8 0,.i .u8 0,.i .u8 0,.i .u8 0,.i .u8 0,.i .u8 0,.i .u8 0,.i .u8 0,.i .u8 0,.i .u8 0,.i .u8 0,.i .u8 0,.i .u8 0,.i .u8 0,.i .u8 0],none⟩])
 (.seq (.reg [⟨some 13,.mv (.c (.i .i64 65)),none⟩])
 (.seq (.seq (.reg [⟨some 30,.mv (.t 3),none⟩])
 (.cond (.t 30)
 (.reg [⟨some 31,.mv (.t 1),none⟩,
 ⟨some 32,.neg (.t 31),none⟩,
 ⟨some 1,.mv (.t 32),none⟩])
 (.skip)))
 (.seq (.seq (.reg [⟨some 33,.mv (.t 2),none⟩,
 ⟨some 34,.call 238 [.t 33],none⟩])
 (.cond (.t 34)
 (.seq (.reg [⟨some 35,.mv (.t 2),none⟩,
 ⟨some 36,.cvi .u64 (.t 35),none⟩,
 ⟨some 37,.call 239 [.t 36],none⟩,
 ⟨some 38,.cvi .u64 (.t 37),none⟩,
 ⟨some 14,.mv (.t 38),none⟩])
 (.seq (.reg [⟨some 39,.mv (.t 2),none⟩,
 ⟨some 40,.cvi .u64 (.t 39),none⟩,
 ⟨some 15,.mv (.t 40),none⟩])
 (.seq (.reg [⟨some 41,.mv (.t 2),none⟩,
 ⟨some 42,.cvi .u64 (.t 41),none⟩,
 ⟨some 43,.bin .sub (.t 42) (.c (.i .u64 1)),none⟩,
 ⟨some 16,.mv (.t 43),none⟩])
 (.seq (.blk 0
 (.loop
 (.seq (.seq (.reg [⟨some 44,.mv (.t 1),none⟩,
 ⟨some 45,.mv (.t 15),none⟩,
 ⟨some 46,.bin .geq (.t 44) (.t 45),none⟩])
 (.cond (.t 46)
 (.skip)
 (.exit 0)))
 (.blk 1
 (.seq (.reg [⟨some 47,.mv (.t 13),none⟩,
 ⟨some 48,.bin .sub (.t 47) (.c (.i .i64 1)),none⟩,
 ⟨some 13,.mv (.t 48),none⟩])
 (.seq (.reg [⟨some 49,.mv (.t 13),none⟩,
 ⟨some 50,.mv (.t 1),none⟩,
 ⟨some 51,.mv (.t 16),none⟩,
 ⟨some 52,.pu (.bits .and) [.t 50,.t 51],none⟩,
 ⟨some 53,.idx (.c (.s [48,49,50,51,52,53,54,55,56,57,97,98,99,100,101,102,103,104,105,106,107,108,109,110,111,112,113,114,115,116,117,118,119,120,121,122])) (.t 52),none⟩,
 ⟨some 54,.iada 1 65 (.t 12) (.t 49),none⟩,
 ⟨none,.store 1 (.t 54) (.t 53),none⟩])
 (.reg [⟨some 55,.mv (.t 1),none⟩,
 ⟨some 56,.mv (.t 14),none⟩,
 ⟨some 57,.pu .shr [.t 55,.t 56],none⟩,
 ⟨some 1,.mv (.t 57),none⟩])))))))
 (.seq (.reg [⟨some 58,.mv (.t 13),none⟩,
 ⟨some 59,.bin .sub (.t 58) (.c (.i .i64 1)),none⟩,
 ⟨some 13,.mv (.t 59),none⟩])
 (.reg [⟨some 60,.mv (.t 13),none⟩,
 ⟨some 61,.mv (.t 1),none⟩,
 ⟨some 62,.idx (.c (.s [48,49,50,51,52,53,54,55,56,57,97,98,99,100,101,102,103,104,105,106,107,108,109,110,111,112,113,114,115,116,117,118,119,120,121,122])) (.t 61),none⟩,
 ⟨some 63,.iada 1 65 (.t 12) (.t 60),none⟩,
 ⟨none,.store 1 (.t 63) (.t 62),none⟩]))))))
 (.seq (.reg [⟨some 64,.mv (.t 2),none⟩,
 ⟨some 65,.cvi .u64 (.t 64),none⟩,
 ⟨some 17,.mv (.t 65),none⟩])
 (.seq (.blk 2
 (.loop
 (.seq (.seq (.reg [⟨some 66,.mv (.t 1),none⟩,
 ⟨some 67,.mv (.t 17),none⟩,
 ⟨some 68,.bin .geq (.t 66) (.t 67),none⟩])
 (.cond (.t 68)
 (.skip)
 (.exit 2)))
 (.blk 3
 (.seq (.reg [⟨some 69,.mv (.t 13),none⟩,
 ⟨some 70,.bin .sub (.t 69) (.c (.i .i64 1)),none⟩,
 ⟨some 13,.mv (.t 70),none⟩])
 (.seq (.reg [⟨some 71,.mv (.t 1),none⟩,
 ⟨some 72,.mv (.t 17),none⟩,
 ⟨some 73,.bin .quo (.t 71) (.t 72),none⟩,
 ⟨some 18,.mv (.t 73),none⟩])
 (.seq (.reg [⟨some 74,.mv (.t 13),none⟩,
 ⟨some 75,.mv (.t 1),none⟩,
 ⟨some 76,.mv (.t 18),none⟩,
 ⟨some 77,.mv (.t 17),none⟩,
 ⟨some 78,.bin .mul (.t 76) (.t 77),none⟩,
 ⟨some 79,.bin .sub (.t 75) (.t 78),none⟩,
 ⟨some 80,.idx (.c (.s [48,49,50,51,52,53,54,55,56,57,97,98,99,100,101,102,103,104,105,106,107,108,109,110,111,112,113,114,115,116,117,118,119,120,121,122])) (.t 79),none⟩,
 ⟨some 81,.iada 1 65 (.t 12) (.t 74),none⟩,
 ⟨none,.store 1 (.t 81) (.t 80),none⟩])
 (.reg [⟨some 82,.mv (.t 18),none⟩,
 ⟨some 1,.mv (.t 82),none⟩]))))))))
 (.seq (.reg [⟨some 83,.mv (.t 13),none⟩,
 ⟨some 84,.bin .sub (.t 83) (.c (.i .i64 1)),none⟩,
 ⟨some 13,.mv (.t 84),none⟩])
 (.reg [⟨some 85,.mv (.t 13),none⟩,
 ⟨some 86,.mv (.t 1),none⟩,
 ⟨some 87,.idx (.c (.s [48,49,50,51,52,53,54,55,56,57,97,98,99,100,101,102,103,104,105,106,107,108,109,110,111,112,113,114,115,116,117,118,119,120,121,122])) (.t 86),none⟩,
 ⟨some 88,.iada 1 65 (.t 12) (.t 85),none⟩,
 ⟨none,.store 1 (.t 88) (.t 87),none⟩]))))))
 (.seq (.seq (.reg [⟨some 89,.mv (.t 3),none⟩])
 (.cond (.t 89)
 (.seq (.reg [⟨some 90,.mv (.t 13),none⟩,
 ⟨some 91,.bin .sub (.t 90) (.c (.i .i64 1)),none⟩,
 ⟨some 13,.mv (.t 91),none⟩])
 (.reg [⟨some 92,.mv (.t 13),none⟩,
 ⟨some 93,.iada 1 65 (.t 12) (.t 92),none⟩,
 ⟨none,.store 1 (.t 93) (.c (.i .u8 45)),none⟩]))
 (.skip)))
 (.seq (.seq (.reg [⟨some 94,.mv (.t 4),none⟩])
 (.cond (.t 94)
 (.seq (.reg [⟨some 95,.mv (.t 0),none⟩,
 ⟨some 96,.mv (.t 13),none⟩,
 ⟨some 97,.pu (.asl 1 65) [.t 12,.t 96],none⟩,
 ⟨some 98,.app 5 1 1 (.t 95) (.t 97),none⟩,
 ⟨some 10,.mv (.t 98),none⟩])
 (.ret))
 (.skip)))
 (.seq (.reg [⟨some 99,.mv (.t 13),none⟩,
 ⟨some 100,.pu (.asl 1 65) [.t 12,.t 99],none⟩,
 ⟨some 101,.cvbs (.t 100),none⟩,
 ⟨some 11,.mv (.t 101),none⟩])
 (.ret)))))))))
theorem is_internal_strconv_formatBits:FnIs Tryz.prog 229 102 [.tmp 10,.tmp 11] c_internal_strconv_formatBits:=⟨⟨_,_,Tryz.func229,rfl,rfl,by kernel_rfl,by kernel_rfl⟩⟩
def c_internal_strconv_isPowerOfTwo:SCode :=
 .seq (.reg [⟨some 2,.mv (.c (.b false)),none⟩])
 (.seq (.reg [⟨some 3,.mv (.t 0),none⟩,
 ⟨some 4,.mv (.t 0),none⟩,
 ⟨some 5,.bin .sub (.t 4) (.c (.i .i64 1)),none⟩,
 ⟨some 6,.pu (.bits .and) [.t 3,.t 5],none⟩,
 ⟨some 7,.bin .eql (.t 6) (.c (.i .i64 0)),none⟩,
 ⟨some 2,.mv (.t 7),none⟩])
 (.ret))
theorem is_internal_strconv_isPowerOfTwo:FnIs Tryz.prog 238 8 [.tmp 2] c_internal_strconv_isPowerOfTwo:=⟨⟨_,_,Tryz.func238,rfl,rfl,by kernel_rfl,by kernel_rfl⟩⟩
def c_cache_byExpiry_Len:SCode :=
 .seq (.reg [⟨some 2,.mv (.c (.i .i64 0)),none⟩])
 (.seq (.reg [⟨some 3,.mv (.t 0),none⟩,
 ⟨some 4,.nck (.t 3),none⟩,
 ⟨some 5,.fad 1 (.t 4),none⟩,
 ⟨some 6,.load1 (.t 5),none⟩,
 ⟨some 7,.lenr (.t 6),none⟩,
 ⟨some 2,.mv (.t 7),none⟩])
 (.ret))
theorem is_cache_byExpiry_Len:FnIs Tryz.prog 259 8 [.tmp 2] c_cache_byExpiry_Len:=⟨⟨_,_,Tryz.func259,rfl,rfl,by kernel_rfl,by kernel_rfl⟩⟩
def c_cache_byExpiry_Less:SCode :=
 .seq (.reg [⟨some 6,.mv (.c (.b false)),none⟩])
 (.seq (.drw [⟨some 9,.mv (.t 0),none⟩,
 ⟨some 10,.nck (.t 9),none⟩,
 ⟨some 11,.fad 1 (.t 10),none⟩,
 ⟨some 12,.load1 (.t 11),none⟩,
 ⟨some 13,.mv (.t 1),none⟩,
 ⟨some 14,.iad 1 (.t 12) (.t 13),none⟩,
 ⟨some 15,.load1 (.t 14),none⟩,
 ⟨some 16,.mv (.t 0),none⟩,
 ⟨some 17,.nck (.t 16),none⟩,
 ⟨some 18,.fad 1 (.t 17),none⟩,
 ⟨some 19,.load1 (.t 18),none⟩,
 ⟨some 20,.mv (.t 2),none⟩,
 ⟨some 21,.iad 1 (.t 19) (.t 20),none⟩,
 ⟨some 22,.load1 (.t 21),none⟩,
 ⟨some 7,.mv (.t 15),none⟩,
 ⟨some 8,.mv (.t 22),none⟩] 16 [])
 (.seq (.seq (.drw [⟨some 23,.mv (.t 0),none⟩,
 ⟨some 24,.nck (.t 23),none⟩,
 ⟨some 25,.fad 0 (.t 24),none⟩,
 ⟨some 26,.load1 (.t 25),none⟩,
 ⟨some 27,.mv (.t 7),none⟩,
 ⟨some 28,.iad 14 (.t 26) (.t 27),none⟩,
 ⟨some 29,.fad 13 (.t 28),none⟩,
 ⟨some 30,.load1 (.t 29),none⟩,
 ⟨some 31,.mv (.t 0),none⟩,
 ⟨some 32,.nck (.t 31),none⟩,
 ⟨some 33,.fad 0 (.t 32),none⟩,
 ⟨some 34,.load1 (.t 33),none⟩,
 ⟨some 35,.mv (.t 8),none⟩,
 ⟨some 36,.iad 14 (.t 34) (.t 35),none⟩,
 ⟨some 37,.fad 13 (.t 36),none⟩,
 ⟨some 38,.load1 (.t 37),none⟩,
 ⟨some 39,.bin .neq (.t 30) (.t 38),none⟩] 17 [])
 (.cond (.t 39)
 (.seq (.drw [⟨some 40,.mv (.t 0),none⟩,
 ⟨some 41,.nck (.t 40),none⟩,
 ⟨some 42,.fad 0 (.t 41),none⟩,
 ⟨some 43,.load1 (.t 42),none⟩,
 ⟨some 44,.mv (.t 7),none⟩,
 ⟨some 45,.iad 14 (.t 43) (.t 44),none⟩,
 ⟨some 46,.fad 13 (.t 45),none⟩,
 ⟨some 47,.load1 (.t 46),none⟩,
 ⟨some 48,.mv (.t 0),none⟩,
 ⟨some 49,.nck (.t 48),none⟩,
 ⟨some 50,.fad 0 (.t 49),none⟩,
 ⟨some 51,.load1 (.t 50),none⟩,
 ⟨some 52,.mv (.t 8),none⟩,
 ⟨some 53,.iad 14 (.t 51) (.t 52),none⟩,
 ⟨some 54,.fad 13 (.t 53),none⟩,
 ⟨some 55,.load1 (.t 54),none⟩,
 ⟨some 56,.bin .lss (.t 47) (.t 55),none⟩,
 ⟨some 6,.mv (.t 56),none⟩] 18 [])
 (.ret))
 (.skip)))
 (.seq (.reg [⟨some 57,.mv (.t 7),none⟩,
 ⟨some 58,.mv (.t 8),none⟩,
 ⟨some 59,.bin .lss (.t 57) (.t 58),none⟩,
 ⟨some 6,.mv (.t 59),none⟩])
 (.ret))))
theorem is_cache_byExpiry_Less:FnIs Tryz.prog 260 60 [.tmp 6] c_cache_byExpiry_Less:=⟨⟨_,_,Tryz.func260,rfl,rfl,by kernel_rfl,by kernel_rfl⟩⟩
def c_cache_byExpiry_Pop:SCode :=
 .seq (.reg [⟨some 2,.mv (.c (.o .nilIface)),none⟩])
 (.seq (.reg [⟨some 5,.mv (.t 0),none⟩,
 ⟨some 6,.nck (.t 5),none⟩,
 ⟨some 7,.fad 1 (.t 6),none⟩,
 ⟨some 8,.load1 (.t 7),none⟩,
 ⟨some 9,.lenr (.t 8),none⟩,
 ⟨some 10,.bin .sub (.t 9) (.c (.i .i64 1)),none⟩,
 ⟨some 3,.mv (.t 10),none⟩])
 (.seq (.reg [⟨some 11,.mv (.t 0),none⟩,
 ⟨some 12,.nck (.t 11),none⟩,
 ⟨some 13,.fad 1 (.t 12),none⟩,
 ⟨some 14,.load1 (.t 13),none⟩,
 ⟨some 15,.mv (.t 3),none⟩,
 ⟨some 16,.iad 1 (.t 14) (.t 15),none⟩,
 ⟨some 17,.load1 (.t 16),none⟩,
 ⟨some 4,.mv (.t 17),none⟩])
 (.seq (.reg [⟨some 18,.mv (.t 0),none⟩,
 ⟨some 19,.mv (.t 0),none⟩,
 ⟨some 20,.nck (.t 19),none⟩,
 ⟨some 21,.fad 1 (.t 20),none⟩,
 ⟨some 22,.load1 (.t 21),none⟩,
 ⟨some 23,.mv (.t 3),none⟩,
 ⟨some 24,.trn 1 (.t 22) (.t 23),none⟩,
 ⟨some 25,.nck (.t 18),none⟩,
 ⟨some 26,.fad 1 (.t 25),none⟩,
 ⟨none,.store 1 (.t 26) (.t 24),none⟩])
 (.seq (.reg [⟨some 27,.mv (.t 4),none⟩,
 ⟨some 28,.pu (.mki 3) [.t 27],none⟩,
 ⟨some 2,.mv (.t 28),none⟩])
 (.ret)))))
theorem is_cache_byExpiry_Pop:FnIs Tryz.prog 261 29 [.tmp 2] c_cache_byExpiry_Pop:=⟨⟨_,_,Tryz.func261,rfl,rfl,by kernel_rfl,by kernel_rfl⟩⟩
def c_cache_byExpiry_Swap:SCode :=
 .drw [⟨some 6,.mv (.t 0),none⟩,
 ⟨some 7,.nck (.t 6),none⟩,
 ⟨some 8,.fad 1 (.t 7),none⟩,
 ⟨some 9,.load1 (.t 8),none⟩,
 ⟨some 10,.mv (.t 1),none⟩,
 ⟨some 11,.mv (.t 0),none⟩,
 ⟨some 12,.nck (.t 11),none⟩,
 ⟨some 13,.fad 1 (.t 12),none⟩,
 ⟨some 14,.load1 (.t 13),none⟩,
 ⟨some 15,.mv (.t 2),none⟩,
 ⟨some 16,.mv (.t 0),none⟩,
 ⟨some 17,.nck (.t 16),none⟩,
 ⟨some 18,.fad 1 (.t 17),none⟩,
 ⟨some 19,.load1 (.t 18),none⟩,
 ⟨some 20,.mv (.t 2),none⟩,
 ⟨some 21,.iad 1 (.t 19) (.t 20),none⟩,
 ⟨some 22,.load1 (.t 21),none⟩,
 ⟨some 23,.mv (.t 0),none⟩,
 ⟨some 24,.nck (.t 23),none⟩,
 ⟨some 25,.fad 1 (.t 24),none⟩,
 ⟨some 26,.load1 (.t 25),none⟩,
 ⟨some 27,.mv (.t 1),none⟩,
 ⟨some 28,.iad 1 (.t 26) (.t 27),none⟩,
 ⟨some 29,.load1 (.t 28),none⟩,
 ⟨some 30,.iad 1 (.t 9) (.t 10),none⟩,
 ⟨none,.store 1 (.t 30) (.t 22),none⟩,
 ⟨some 31,.iad 1 (.t 14) (.t 15),none⟩,
 ⟨none,.store 1 (.t 31) (.t 29),none⟩] 28 []
theorem is_cache_byExpiry_Swap:FnIs Tryz.prog 262 32 [] c_cache_byExpiry_Swap:=⟨⟨_,_,Tryz.func262,rfl,rfl,by kernel_rfl,by kernel_rfl⟩⟩
def c_strings_Builder_Len:SCode :=
 .seq (.reg [⟨some 2,.mv (.c (.i .i64 0)),none⟩])
 (.seq (.reg [⟨some 3,.mv (.t 0),none⟩,
 ⟨some 4,.nck (.t 3),none⟩,
 ⟨some 5,.fad 1 (.t 4),none⟩,
 ⟨some 6,.load1 (.t 5),none⟩,
 ⟨some 7,.lenr (.t 6),none⟩,
 ⟨some 2,.mv (.t 7),none⟩])
 (.ret))
theorem is_strings_Builder_Len:FnIs Tryz.prog 263 8 [.tmp 2] c_strings_Builder_Len:=⟨⟨_,_,Tryz.func263,rfl,rfl,by kernel_rfl,by kernel_rfl⟩⟩
end Go.Proofs.YtbeoijfmfkifeaaGreatDoor.Sx
namespace Go.Proofs.YtbeoijfmfkifeaaGreatDoor
open Go.RowKit Sx
theorem wrap_u64 (n:Int) (h0:0 ≤ n) (h1:n < 18446744073709551616):IntKind.u64.wrap n=n:=by
 simp [IntKind.wrap,IntKind.bits,IntKind.signed]
 omega
section
variable [Tabs Tryz.prog] {objs:List OB} {K:List OB → AV → Prop}
theorem sCut_k (s:List UInt8) (c:UInt8) (hs:s.length ≤ maxLen) (hk:K objs (.tup [.s (zgz c s).1,.s (zgz c s).2.1,.b (zgz c s).2.2])):zae Tryz.prog 88 [.s s,.s [c]] objs K :=
 conv (vs:=[.string (S s),.string (S [c])]) rfl rfl (fun w => Cut_any (S s) c w (by rw [S_size]; exact hs)) hk
end
end Go.Proofs.YtbeoijfmfkifeaaGreatDoor
namespace Go.Proofs.YtbeoijfmfkifeaaGreatDoor
open Go.RowKit Sx
theorem cres {P:Program} [Tabs P] {f:FuncId} {args:List AV} {objs:List OB} {K:List OB → AV → Prop} (r':AV) (hc:zae P f args objs (fun o r => (∀ G I y,Den G I r y → Den G I r' y) ∧ K o r')):zae P f args objs K:=by
 intro C _ G I w hin hm ys hd
 refine (hc C G I w hin hm ys hd).mono ?_
 rintro e w' ⟨y,o,r,G',I',rfl,⟨h1,h2⟩,k1,k2,k3,k4,k5⟩
 exact ⟨y,o,r',G',I',rfl,h2,k1,k2,k3,k4,h1 _ _ _ k5⟩
theorem czn {P:Program} [Tabs P] {f:FuncId} {objs:List OB} {K:List OB → AV → Prop} (h:∀ b,zae P f [.zn b] objs K):zae P f [.row 0 []] objs K:=by
 intro C _ G I w hin hm ys hd
 have hd':=hd
 simp only [zac,Den] at hd'
 obtain ⟨y,l,rfl,⟨a,c,cells,rfl,hq,hc⟩,hl⟩:=hd'
 refine h a.isNone C G I w hin hm _ ?_
 simp only [zac,Den]
 exact ⟨_,_,rfl,⟨a,c,by simp,rfl,by simpa using hq.2⟩,hl⟩
theorem dnil {G:Gh} {I:Imm} {y:Value} (h:Den G I .nil y):Den G I (.row 0 []) y:=by
 simp only [zac,Den] at h ⊢
 exact ⟨none,0,[],h,⟨Nat.le_refl _,fun ad h => by cases h⟩,rfl,by simp,by simp⟩
structure En where
 k:Nat
 s:Nat
 t:Nat
def idT (k:Nat):List UInt8:=97 :: 99 :: 99 :: 116 :: 58 :: 117 :: UInt8.ofNat (97 + k) :: [64,97,46,101,120,97,109,112,108,101]
def zdc:List UInt8:=[97,46,101,120,97,109,112,108,101]
def vc (k s:Nat) (tr:AV):List AV:=[.i .i64 0,.i .i64 1,.s (idT k),.s zdc,.i .i64 0,.i .i64 0,.s [],.s [],.i .i64 0,.b true,.i .u64 s,tr]
def ec (e:En):List AV:=[.i .i64 0,.i .i64 1,.s (idT e.k),.s zdc,.i .i64 0,.i .i64 0,.s [],.s [],.i .i64 0,.b true,.i .u64 e.s,.row 0 [],.i .u64 e.t,.i .u64 (e.t + e.s:Nat)]
def ecs (L:List En):List AV:=L.flatMap ec
theorem zdU:ecs []=[]:=rfl
theorem zaA (e:En) (L:List En):ecs (e :: L)=ec e ++ ecs L:=by simp [ecs]
theorem zc4 (L M:List En):ecs (L ++ M)=ecs L ++ ecs M:=by simp [ecs]
theorem zgi (e:En):(ec e).length=14:=rfl
theorem zaJ:∀ L:List En,(ecs L).length=L.length * 14
 | [] => rfl
 | e :: L => by rw [zaA,List.length_append,zgi,zaJ L,List.length_cons]; omega
theorem zat:∀ L:List En,zak (ecs L)=true
 | [] => rfl
 | e :: L => by
  rw [zaA]
  simp only [ec,List.cons_append,List.nil_append,zak,AV.plain,zat L,Bool.and_self]
theorem zcF (L:List En) (i:Nat):(ecs L).take (i * 14)=ecs (L.take i):=by
 induction L generalizing i with
 | nil => simp [ecs]
 | cons e L ih =>
  cases i with
  | zero => simp [ecs]
  | succ i =>
   rw [zaA,List.take_succ_cons,zaA,show (i + 1) * 14=(ec e).length + i * 14 by rw [zgi]; omega,List.take_length_add_append,ih]
theorem zbd (L:List En) (i:Nat):(ecs L).drop (i * 14)=ecs (L.drop i):=by
 induction L generalizing i with
 | nil => simp [ecs]
 | cons e L ih =>
  cases i with
  | zero => simp [ecs]
  | succ i =>
   rw [zaA,List.drop_succ_cons,show (i + 1) * 14=(ec e).length + i * 14 by rw [zgi]; omega,List.drop_length_add_append,ih]
theorem zdv {L:List En} {i:Nat} (h:i < L.length):((ecs L).drop (i * 14)).take 14=ec L[i]:=by
 rw [zbd,List.drop_eq_getElem_cons h,zaA,List.take_left' (zgi _)]
end Go.Proofs.YtbeoijfmfkifeaaGreatDoor
namespace Go.Proofs.YtbeoijfmfkifeaaGreatDoor.Sx
open Go.RowKit
def tbl:TB Tryz.prog:=(.nd
 (.nd
 (.nd
 (.nd
 (.nd
 (.nd
 (.nd (.lf ⟨128,87,[.tmp 6,.tmp 7],c_ref04_parse,is_ref04_parse⟩) (.lf ⟨64,19,[.tmp 4],c_slices_IndexFunc__api_Entry_api_Entry,is_slices_IndexFunc__api_Entry_api_Entry⟩))
 (.nd
 (.nd (.lf ⟨32,11,[.tmp 2],c_keep_ID,is_keep_ID⟩) (.lf ⟨160,9,[.tmp 2],c_ascii_IsUnreserved,is_ascii_IsUnreserved⟩)) (.lf ⟨96,13,[.tmp 2],c_ref09_atom,is_ref09_atom⟩)))
 (.nd
 (.nd
 (.nd (.lf ⟨16,16,[.tmp 2],c_keep_Verdict,is_keep_Verdict⟩) (.lf ⟨144,50,[.celln 2 7,.tmp 3],c_weburl_parseRest,is_weburl_parseRest⟩)) (.lf ⟨80,10,[.tmp 2],c_ref10_FormatDID,is_ref10_FormatDID⟩)) (.lf ⟨112,61,[.celln 2 2,.tmp 3],c_acct_Parse,is_acct_Parse⟩)))
 (.nd
 (.nd
 (.nd
 (.nd (.lf ⟨8,59,[.tmp 0],c_law31_sane,is_law31_sane⟩) (.lf ⟨136,11,[.tmp 4,.tmp 5],c_percent_Normalize,is_percent_Normalize⟩)) (.lf ⟨72,34,[.tmp 2],c_ref09_Local,is_ref09_Local⟩))
 (.nd (.lf ⟨168,20,[.tmp 3,.tmp 4],c_uri_Split_1,is_uri_Split_1⟩) (.lf ⟨104,18,[.tmp 4],c_ref01_Prefix,is_ref01_Prefix⟩)))
 (.nd
 (.nd
 (.nd (.lf ⟨24,30,[.celln 4 2],c_ref31_Expire,is_ref31_Expire⟩) (.lf ⟨152,61,[.celln 2 2,.tmp 3],c_didweb_FromURL,is_didweb_FromURL⟩)) .e)
 (.nd
 (.nd (.lf ⟨56,8,[.tmp 2],c_slices_Clone__api_Exchange_api_Exchange,is_slices_Clone__api_Exchange_api_Exchange⟩) (.lf ⟨184,18,[.tmp 2],c_weburl_Valid,is_weburl_Valid⟩)) (.lf ⟨120,45,[.celln 2 2,.tmp 3],c_didweb_Authority,is_didweb_Authority⟩)))))
 (.nd
 (.nd
 (.nd
 (.nd
 (.nd
 (.nd (.lf ⟨4,128,[.tmp 12],c_law31_CachePuts,is_law31_CachePuts⟩) (.lf ⟨260,60,[.tmp 6],c_cache_byExpiry_Less,is_cache_byExpiry_Less⟩)) (.lf ⟨132,15,[.tmp 2],c_ref05_Decimal,is_ref05_Decimal⟩))
 (.nd (.lf ⟨68,64,[.tmp 4,.tmp 5],c_ref03_Normalize,is_ref03_Normalize⟩) (.lf ⟨196,9,[.tmp 4],c_ascii_isOneOf,is_ascii_isOneOf⟩)))
 (.nd (.lf ⟨36,8,[.celln 2 12],c_cache_cloneVerdict,is_cache_cloneVerdict⟩) (.lf ⟨100,59,[.tmp 2],c_ref06_RemoveDots,is_ref06_RemoveDots⟩)))
 (.nd
 (.nd (.lf ⟨20,47,[.celln 6 12,.tmp 7],c_cache_Get,is_cache_Get⟩) (.lf ⟨84,20,[.celln 2 4,.tmp 3],c_ident_text_acct,is_ident_text_acct⟩))
 (.nd (.lf ⟨52,11,[.tmp 2],c_ref09_Format,is_ref09_Format⟩) (.lf ⟨116,51,[.celln 2 7,.tmp 3],c_weburl_Parse,is_weburl_Parse⟩))))
 (.nd
 (.nd
 (.nd
 (.nd (.lf ⟨12,46,[.celln 2 2,.tmp 3],c_law31_made,is_law31_made⟩) (.lf ⟨140,35,[.tmp 2],c_host_IsIPv4,is_host_IsIPv4⟩))
 (.nd (.lf ⟨76,19,[.tmp 2],c_ref07_Format,is_ref07_Format⟩) (.lf ⟨204,20,[.tmp 4],c_number_check,is_number_check⟩)))
 (.nd
 (.nd (.lf ⟨44,18,[.tmp 2],c_ident_Valid,is_ident_Valid⟩) (.lf ⟨172,13,[.tmp 2],c_uri_firstPart,is_uri_firstPart⟩)) (.lf ⟨108,68,[.celln 2 7,.tmp 3],c_ref11_ToURL,is_ref11_ToURL⟩)))
 (.nd
 (.nd
 (.nd (.lf ⟨28,30,[.tmp 2],c_cache_mayBeKept,is_cache_mayBeKept⟩) (.lf ⟨156,9,[.tmp 2],c_ascii_isCapital,is_ascii_isCapital⟩))
 (.nd (.lf ⟨92,26,[.tmp 2],c_ref05_name,is_ref05_name⟩) (.lf ⟨220,54,[.tmp 4],c_internal_strconv_FormatInt,is_internal_strconv_FormatInt⟩)))
 (.nd
 (.nd (.lf ⟨60,17,[],c_container_heap_Init,is_container_heap_Init⟩) (.lf ⟨188,19,[.tmp 2,.tmp 3],c_host_Port,is_host_Port⟩)) (.lf ⟨124,21,[.tmp 2],c_ref01_IsHex,is_ref01_IsHex⟩))))))
 (.nd
 (.nd
 (.nd
 (.nd
 (.nd (.lf ⟨130,19,[.tmp 2,.tmp 3],c_ref05_Port,is_ref05_Port⟩)
 (.nd (.lf ⟨66,17,[.tmp 4],c_ref01_In,is_ref01_In⟩) (.lf ⟨194,11,[.tmp 2],c_percent_digit,is_percent_digit⟩)))
 (.nd
 (.nd (.lf ⟨34,69,[.celln 2 4,.tmp 3],c_ref12_Parse,is_ref12_Parse⟩) (.lf ⟨162,17,[.tmp 4],c_percent_isPlain,is_percent_isPlain⟩)) (.lf ⟨98,87,[.celln 2 9,.tmp 3],c_ref06_Split,is_ref06_Split⟩)))
 (.nd
 (.nd
 (.nd (.lf ⟨18,78,[.celln 6 2],c_cache_Put,is_cache_Put⟩) (.lf ⟨146,8,[.celln 2 2],c_weburl_Origin,is_weburl_Origin⟩)) (.lf ⟨82,48,[.tmp 6],c_container_heap_down,is_container_heap_down⟩))
 (.nd
 (.nd (.lf ⟨50,10,[.tmp 2],c_ref08_Format,is_ref08_Format⟩) (.lf ⟨178,14,[.tmp 2],c_did_isIDByte,is_did_isIDByte⟩)) (.lf ⟨114,60,[.celln 2 2,.tmp 3],c_mail_Parse,is_mail_Parse⟩))))
 (.nd
 (.nd
 (.nd (.lf ⟨10,13,[.celln 2 2,.tmp 3],c_cache_New,is_cache_New⟩) (.lf ⟨74,44,[.tmp 4],c_ref03_Encode,is_ref03_Encode⟩))
 (.nd (.lf ⟨170,6,[.tmp 2],c_uri_schemeEnd,is_uri_schemeEnd⟩) (.lf ⟨106,13,[.tmp 2],c_ref10_plain,is_ref10_plain⟩)))
 (.nd
 (.nd
 (.nd (.lf ⟨26,34,[.tmp 4],c_made_Dice_Next,is_made_Dice_Next⟩) (.lf ⟨154,42,[.celln 2 2,.tmp 3],c_host_Parse,is_host_Parse⟩)) (.lf ⟨90,45,[.tmp 4,.tmp 5],c_ref03_escape,is_ref03_escape⟩))
 (.nd
 (.nd (.lf ⟨58,9,[.tmp 4],c_cache_find_1,is_cache_find_1⟩) (.lf ⟨186,25,[.tmp 4],c_didweb_idWriter_add,is_didweb_idWriter_add⟩)) .e))))
 (.nd
 (.nd
 (.nd
 (.nd
 (.nd
 (.nd (.lf ⟨6,133,[.tmp 6],c_law31_CacheEvicts,is_law31_CacheEvicts⟩) (.lf ⟨262,32,[],c_cache_byExpiry_Swap,is_cache_byExpiry_Swap⟩)) (.lf ⟨134,26,[.tmp 4],c_ascii_Equal,is_ascii_Equal⟩))
 (.nd (.lf ⟨70,13,[.tmp 2],c_ref01_IsUnreserved,is_ref01_IsUnreserved⟩) (.lf ⟨198,17,[.tmp 2],c_ascii_Digits,is_ascii_Digits⟩)))
 (.nd
 (.nd (.lf ⟨38,37,[.tmp 2],c_cache_firstToExpire,is_cache_firstToExpire⟩) (.lf ⟨166,37,[.tmp 2],c_mail_Local,is_mail_Local⟩)) (.lf ⟨102,8,[.celln 2 2],c_ref07_Origin,is_ref07_Origin⟩)))
 (.nd
 (.nd
 (.nd (.lf ⟨22,38,[.tmp 4],c_ref30_Same,is_ref30_Same⟩) (.lf ⟨150,54,[.tmp 2,.tmp 3],c_did_parseID,is_did_parseID⟩))
 (.nd (.lf ⟨86,22,[.celln 2 4,.tmp 3],c_ident_text_web,is_ident_text_web⟩) (.lf ⟨214,19,[.tmp 4,.tmp 5],c_strings_Builder_WriteString,is_strings_Builder_WriteString⟩)))
 (.nd
 (.nd (.lf ⟨54,39,[.celln 2 4,.tmp 3],c_ref12_decentral,is_ref12_decentral⟩) (.lf ⟨182,33,[.tmp 4],c_didweb_pathWriter_add,is_didweb_pathWriter_add⟩)) (.lf ⟨118,46,[.celln 2 2,.tmp 3],c_did_ParseDID,is_did_ParseDID⟩))))
 (.nd
 (.nd
 (.nd
 (.nd (.lf ⟨14,60,[.tmp 2],c_cache_Sound,is_cache_Sound⟩) (.lf ⟨142,67,[.celln 2 9,.tmp 3],c_uri_Split,is_uri_Split⟩))
 (.nd (.lf ⟨78,19,[.celln 2 2,.tmp 3],c_ref11_Canonical,is_ref11_Canonical⟩) (.lf ⟨206,13,[.tmp 2],c_ascii_IsAlpha,is_ascii_IsAlpha⟩)))
 (.nd
 (.nd (.lf ⟨46,19,[.tmp 2],c_keep_URL,is_keep_URL⟩) (.lf ⟨174,59,[.tmp 2],c_uri_RemoveDots,is_uri_RemoveDots⟩))
 (.nd (.lf ⟨110,44,[.tmp 2,.celln 3 2,.tmp 4],c_ref11_first,is_ref11_first⟩) (.lf ⟨238,8,[.tmp 2],c_internal_strconv_isPowerOfTwo,is_internal_strconv_isPowerOfTwo⟩))))
 (.nd
 (.nd
 (.nd (.lf ⟨30,28,[.tmp 2],c_ref31_cacheable,is_ref31_cacheable⟩) (.lf ⟨158,65,[.tmp 4,.tmp 5],c_percent_rewrite,is_percent_rewrite⟩)) (.lf ⟨94,9,[.tmp 2],c_ref01_IsDigit,is_ref01_IsDigit⟩)) (.lf ⟨126,48,[.tmp 2],c_ref05_label,is_ref05_label⟩))))))
 (.nd
 (.nd
 (.nd
 (.nd
 (.nd
 (.nd (.lf ⟨129,35,[.tmp 2],c_ref06_scheme,is_ref06_scheme⟩)
 (.nd (.lf ⟨65,41,[.celln 2 4,.tmp 3],c_ident_Parse,is_ident_Parse⟩) (.lf ⟨193,24,[.tmp 4],c_percent_isEscapeAt,is_percent_isEscapeAt⟩)))
 (.nd
 (.nd (.lf ⟨33,19,[.tmp 2],c_keep_Trace,is_keep_Trace⟩) (.lf ⟨161,14,[.tmp 4],c_percent_appendEscape,is_percent_appendEscape⟩)) (.lf ⟨97,32,[.tmp 4,.tmp 5],c_ref04_Strict,is_ref04_Strict⟩)))
 (.nd
 (.nd
 (.nd (.lf ⟨17,23,[.celln 4 12],c_law31_verdict,is_law31_verdict⟩) (.lf ⟨145,15,[.tmp 2],c_host_Format,is_host_Format⟩))
 (.nd (.lf ⟨81,6,[.tmp 2],c_cmp_isNaN__string,is_cmp_isNaN__string⟩) (.lf ⟨209,21,[.tmp 2],c_uri_withoutLast,is_uri_withoutLast⟩)))
 (.nd
 (.nd (.lf ⟨49,67,[.celln 2 2,.tmp 3],c_ref08_Parse,is_ref08_Parse⟩) (.lf ⟨177,9,[.tmp 2],c_ascii_IsDigit,is_ascii_IsDigit⟩)) (.lf ⟨113,10,[.tmp 2],c_acct_Format,is_acct_Format⟩))))
 (.nd
 (.nd
 (.nd
 (.nd (.lf ⟨9,21,[.tmp 2],c_law31_kept,is_law31_kept⟩) (.lf ⟨137,22,[.tmp 2,.tmp 3],c_host_Host,is_host_Host⟩)) (.lf ⟨73,27,[.tmp 2],c_ref05_IsIPv4,is_ref05_IsIPv4⟩))
 (.nd (.lf ⟨41,26,[.tmp 4],c_ref26_SameTrace,is_ref26_SameTrace⟩) (.lf ⟨105,29,[.tmp 2],c_ref10_method,is_ref10_method⟩)))
 (.nd
 (.nd
 (.nd (.lf ⟨25,10,[.tmp 2],c_made_New,is_made_New⟩) (.lf ⟨153,8,[.tmp 2,.tmp 3],c_percent_Decode,is_percent_Decode⟩))
 (.nd (.lf ⟨89,23,[.tmp 2],c_ascii_Lower,is_ascii_Lower⟩) (.lf ⟨217,21,[.tmp 2],c_ascii_IsHex,is_ascii_IsHex⟩)))
 (.nd
 (.nd (.lf ⟨57,49,[.tmp 6,.tmp 7],c_slices_BinarySearchFunc__api_Entry_api_Entry_string,is_slices_BinarySearchFunc__api_Entry_api_Entry_string⟩) (.lf ⟨185,21,[],c_didweb_idWriter_start,is_didweb_idWriter_start⟩)) (.lf ⟨121,10,[.tmp 2],c_did_FormatDID,is_did_FormatDID⟩)))))
 (.nd
 (.nd
 (.nd
 (.nd
 (.nd
 (.nd (.lf ⟨5,119,[.tmp 6],c_law31_CacheKeeps,is_law31_CacheKeeps⟩) (.lf ⟨261,29,[.tmp 2],c_cache_byExpiry_Pop,is_cache_byExpiry_Pop⟩)) (.lf ⟨133,18,[.tmp 2],c_ref07_Valid,is_ref07_Valid⟩))
 (.nd (.lf ⟨69,22,[.tmp 2,.tmp 3],c_ref05_Host,is_ref05_Host⟩) (.lf ⟨197,48,[.tmp 2],c_host_isLabel,is_host_isLabel⟩)))
 (.nd
 (.nd (.lf ⟨37,11,[.tmp 4,.tmp 5],c_cache_find,is_cache_find⟩) (.lf ⟨165,9,[.tmp 4],c_mail_isOneOf,is_mail_isOneOf⟩))
 (.nd (.lf ⟨101,15,[.tmp 2],c_ref05_Format,is_ref05_Format⟩) (.lf ⟨229,102,[.tmp 10,.tmp 11],c_internal_strconv_formatBits,is_internal_strconv_formatBits⟩))))
 (.nd
 (.nd
 (.nd (.lf ⟨21,39,[.celln 6 12,.tmp 7],c_ref31_Get,is_ref31_Get⟩) (.lf ⟨149,29,[.tmp 2],c_did_isMethod,is_did_isMethod⟩)) (.lf ⟨85,20,[.celln 2 4,.tmp 3],c_ident_text_mail,is_ident_text_mail⟩))
 (.nd
 (.nd (.lf ⟨53,22,[.celln 2 4,.tmp 3],c_ref12_web,is_ref12_web⟩) (.lf ⟨181,21,[.tmp 4],c_didweb_each,is_didweb_each⟩)) (.lf ⟨117,19,[.tmp 2],c_weburl_Format,is_weburl_Format⟩))))
 (.nd
 (.nd
 (.nd
 (.nd (.lf ⟨13,71,[.tmp 4],c_ref31_Same,is_ref31_Same⟩) (.lf ⟨141,34,[.tmp 4],c_percent_Encode,is_percent_Encode⟩))
 (.nd (.lf ⟨77,113,[.celln 2 2,.tmp 3],c_ref10_ParseDID,is_ref10_ParseDID⟩) (.lf ⟨205,39,[.tmp 6,.tmp 7],c_number_value,is_number_value⟩)))
 (.nd (.lf ⟨45,18,[.tmp 2],c_ref12_Valid,is_ref12_Valid⟩) (.lf ⟨109,105,[.celln 2 2,.tmp 3],c_ref11_FromURL,is_ref11_FromURL⟩)))
 (.nd
 (.nd
 (.nd (.lf ⟨29,12,[.tmp 4],c_number_Add,is_number_Add⟩) (.lf ⟨157,17,[.tmp 2],c_ref04_Format,is_ref04_Format⟩)) (.lf ⟨93,17,[.tmp 2],c_ref01_IsAlpha,is_ref01_IsAlpha⟩))
 (.nd (.lf ⟨61,15,[.tmp 2],c_container_heap_Pop,is_container_heap_Pop⟩) (.lf ⟨125,17,[.tmp 2],c_ref03_digit,is_ref03_digit⟩))))))
 (.nd
 (.nd
 (.nd
 (.nd
 (.nd
 (.nd
 (.nd (.lf ⟨3,120,[.tmp 10],c_law31_CacheSound,is_law31_CacheSound⟩) (.lf ⟨259,8,[.tmp 2],c_cache_byExpiry_Len,is_cache_byExpiry_Len⟩)) (.lf ⟨131,18,[.tmp 2],c_ref06_shorten,is_ref06_shorten⟩))
 (.nd (.lf ⟨67,10,[.tmp 4],c_ref01_Equal,is_ref01_Equal⟩) (.lf ⟨195,9,[.tmp 2],c_ascii_isLetterOrDigit,is_ascii_isLetterOrDigit⟩)))
 (.nd
 (.nd (.lf ⟨35,24,[.tmp 2],c_cache_cloneEntries,is_cache_cloneEntries⟩) (.lf ⟨163,28,[.tmp 2],c_host_isName,is_host_isName⟩)) (.lf ⟨99,44,[.celln 2 2,.tmp 3],c_ref05_Parse,is_ref05_Parse⟩)))
 (.nd
 (.nd
 (.nd (.lf ⟨19,157,[.celln 6 2],c_ref31_Put,is_ref31_Put⟩) (.lf ⟨147,14,[.tmp 2],c_weburl_Target,is_weburl_Target⟩)) (.lf ⟨83,14,[],c_slices_rotateLeft__api_Entry,is_slices_rotateLeft__api_Entry⟩))
 (.nd (.lf ⟨51,92,[.celln 2 2,.tmp 3],c_ref09_Parse,is_ref09_Parse⟩) (.lf ⟨115,11,[.tmp 2],c_mail_Format,is_mail_Format⟩))))
 (.nd
 (.nd
 (.nd
 (.nd (.lf ⟨11,13,[.celln 2 2,.tmp 3],c_ref31_New,is_ref31_New⟩) (.lf ⟨139,37,[.tmp 2,.tmp 3],c_mail_parseLocal,is_mail_parseLocal⟩))
 (.nd (.lf ⟨75,111,[.celln 2 7,.tmp 3],c_ref07_Parse,is_ref07_Parse⟩) (.lf ⟨203,13,[.tmp 2],c_mail_isAtom,is_mail_isAtom⟩)))
 (.nd
 (.nd (.lf ⟨43,8,[.tmp 3],c_cache_Expire_1,is_cache_Expire_1⟩) (.lf ⟨171,35,[.tmp 2],c_uri_isScheme,is_uri_isScheme⟩)) (.lf ⟨107,29,[.tmp 2],c_ref10_Escaped,is_ref10_Escaped⟩)))
 (.nd
 (.nd (.lf ⟨27,7,[.tmp 2],c_cache_text,is_cache_text⟩)
 (.nd (.lf ⟨91,11,[.tmp 2],c_ref03_Escape,is_ref03_Escape⟩) (.lf ⟨219,13,[.tmp 2],c_number_digit,is_number_digit⟩)))
 (.nd
 (.nd (.lf ⟨59,20,[.tmp 4],c_cmp_Compare__string,is_cmp_Compare__string⟩) (.lf ⟨187,12,[.tmp 6,.tmp 7],c_percent_Decode_1,is_percent_Decode_1⟩)) (.lf ⟨123,8,[.tmp 2],c_ascii_lower,is_ascii_lower⟩)))))
 (.nd
 (.nd
 (.nd
 (.nd
 (.nd
 (.nd (.lf ⟨7,85,[.tmp 4],c_law31_CacheOrder,is_law31_CacheOrder⟩) (.lf ⟨263,8,[.tmp 2],c_strings_Builder_Len,is_strings_Builder_Len⟩)) (.lf ⟨135,10,[.tmp 2,.tmp 3,.tmp 4],c_acct_cutParts,is_acct_cutParts⟩)) (.lf ⟨71,40,[.tmp 2,.tmp 3],c_ref03_Decode,is_ref03_Decode⟩))
 (.nd (.lf ⟨167,25,[.tmp 4,.tmp 5],c_number_Strict,is_number_Strict⟩) (.lf ⟨103,13,[.tmp 2],c_ref07_Target,is_ref07_Target⟩)))
 (.nd
 (.nd
 (.nd (.lf ⟨23,12,[.celln 4 2],c_cache_Expire,is_cache_Expire⟩) (.lf ⟨151,49,[.celln 2 7,.tmp 3],c_didweb_ToURL,is_didweb_ToURL⟩)) (.lf ⟨87,41,[.celln 2 4,.tmp 3],c_ident_text_did,is_ident_text_did⟩))
 (.nd (.lf ⟨55,8,[.tmp 2],c_slices_Clone__api_Entry_api_Entry,is_slices_Clone__api_Entry_api_Entry⟩) (.lf ⟨119,19,[.celln 2 2,.tmp 3],c_didweb_Canonical,is_didweb_Canonical⟩))))
 (.nd
 (.nd
 (.nd
 (.nd (.lf ⟨15,66,[.tmp 2],c_ref31_Sound,is_ref31_Sound⟩) (.lf ⟨143,30,[.celln 2 2,.tmp 3],c_weburl_parseOrigin,is_weburl_parseOrigin⟩)) (.lf ⟨79,15,[.celln 2 2,.tmp 3],c_ref11_Authority,is_ref11_Authority⟩))
 (.nd (.lf ⟨47,20,[.tmp 4],c_ref01_Index,is_ref01_Index⟩) (.lf ⟨111,28,[],c_slices_Reverse__api_Entry_api_Entry,is_slices_Reverse__api_Entry_api_Entry⟩)))
 (.nd
 (.nd
 (.nd (.lf ⟨31,12,[.tmp 4],c_ref04_Add,is_ref04_Add⟩) (.lf ⟨159,28,[.tmp 7,.tmp 8],c_percent_Normalize_1,is_percent_Normalize_1⟩)) (.lf ⟨95,34,[.tmp 4],c_ref01_Split,is_ref01_Split⟩))
 (.nd (.lf ⟨63,10,[],c_slices_rotateRight__api_Entry,is_slices_rotateRight__api_Entry⟩) (.lf ⟨127,17,[.tmp 2],c_ref01_Digits,is_ref01_Digits⟩))))))))
end Go.Proofs.YtbeoijfmfkifeaaGreatDoor.Sx
namespace Go.Proofs.YtbeoijfmfkifeaaGreatDoor
open Go.RowKit Sx
section
attribute [local irreducible] run
def idC (k:Nat):List AV:=[.i .i64 1,.s (idT k),.s zdc,.i .i64 0]
noncomputable def caLib:Nat → List AV → Option AV:=fun f args => match args with
 | [.s l] => if f=48 ∧ l.length ≤ 1000000 then some (.s (zd4 l)) else none
 | [.s s,.s [c]] => if f=88 ∧ s.length ≤ 1000000 then some (.tup [.s (zgz c s).1,.s (zgz c s).2.1,.b (zgz c s).2.2]) else none
 | _ => none
def caHas (f:Nat):Bool:=Nat.beq f 84 || Nat.beq f 159
def caNo (_:Nat):Bool:=false
section
variable [Tabs Tryz.prog]
theorem caLib_ok (f:Nat) (args:List AV) (r:AV) (h:caLib f args=some r) (objs:List OB) (K:List OB → AV → Prop) (hk:K objs r):zae Tryz.prog f args objs K:=by
 unfold caLib at h
 split at h
 ·rename_i l
  split at h
  ·rename_i c; obtain ⟨rfl,c⟩:=c; injection h with h; subst h
   exact conv (vs:=[.string (S l)]) rfl rfl (fun w => zgS (S l) w (by rw [S_size]; omega)) hk
  ·cases h
 ·split at h
  ·rename_i c; obtain ⟨rfl,c⟩:=c; injection h with h; subst h; exact sCut_k _ _ (by unfold maxLen; omega) hk
  ·cases h
 ·cases h
omit [Tabs Tryz.prog] in
theorem caHas_ok (f : Nat) (h : caHas f = true) : ∃ fn, Tryz.prog.funcs[f]? = some fn ∧ fn.body.isSome = true ∧ fn.name ≠ "runtime.NumGoroutine" := by
 unfold caHas at h
 simp only [Bool.or_eq_true,Nat.beq_eq] at h
 rcases h with rfl | rfl
 ·exact ⟨_,Tryz.func84,by kernel_rfl,of_decide_eq_true (by kernel_rfl)⟩
 ·exact ⟨_,Tryz.func159,by kernel_rfl,of_decide_eq_true (by kernel_rfl)⟩
noncomputable abbrev caG:Qls:=gH tbl caLib caHas caNo caNo 4000 60
theorem zjQ:QlsOk Tryz.prog caG:=gT2_ok (pubQ_ok caNo) tbl caLib caHas caNo caLib_ok caHas_ok 4000 60
end
theorem zeP {α:Type} {f g:Nat → α} (h:(List.range 20).map f=(List.range 20).map g) {k:Nat} (hk:k < 20):f k=g k:=by
 have e:=congrArg (fun l => l[k]?) h
 simpa [hk] using e
theorem zhj:(List.range 20).map (fun k => caG.cp 44 [.agg (idC k)])=(List.range 20).map (fun _ => .ok [] (.b true)):=by kernel_rfl
theorem zgM:(List.range 20).map (fun k => caG.cp 45 [.agg (idC k)])=(List.range 20).map (fun _ => .ok [] (.b true)):=by kernel_rfl
theorem zgN:(List.range 20).map (fun k => caG.cp 34 [.s (idT k)])=(List.range 20).map (fun k => .ok [] (.tup [.agg (idC k),.i .i64 0])):=by kernel_rfl
section
variable [Tabs Tryz.prog] {objs:List OB} {K:List OB → AV → Prop} {k:Nat}
theorem ziV (hk20:k < 20) (hk:K objs (.b true)):zae Tryz.prog 44 [.agg (idC k)] objs K:=zjQ.cp _ _ _ _ (zeP zhj hk20) objs K hk
theorem zgO (hk20:k < 20) (hk:K objs (.b true)):zae Tryz.prog 45 [.agg (idC k)] objs K:=zjQ.cp _ _ _ _ (zeP zgM hk20) objs K hk
theorem zgP (hk20:k < 20) (hk:K objs (.tup [.agg (idC k),.i .i64 0])):zae Tryz.prog 34 [.s (idT k)] objs K:=zjQ.cp _ _ _ _ (zeP zgN hk20) objs K hk
end
end
end Go.Proofs.YtbeoijfmfkifeaaGreatDoor
namespace Go.Proofs.YtbeoijfmfkifeaaGreatDoor
open Nat renaming reduceAdd → z6, reduceSub → z7, reduceLeDiff → z8, reduceLT → j4, reduceMul → j5, reduceEqDiff → j6
open Int renaming reduceToNat → j7, reduceAdd → j8, reduceSub → j9, reduceMul → x0, reduceNeg → x3, reduceLT → x4, reduceLE → x5, reduceEq → x6, reduceNe → x7
open Go.RowKit Sx
section
attribute [local irreducible] run
theorem idT_lt20:∀ a b:Fin 20,zcN (idT a.val) (idT b.val)=decide (a.val < b.val):=by decide +kernel
theorem idT_eq20:∀ a b:Fin 20,decide (idT a.val=idT b.val)=decide (a.val=b.val):=by decide +kernel
theorem zen {a b:Nat} (ha:a < 20) (hb:b < 20):zcN (idT a) (idT b)=decide (a < b):=idT_lt20 ⟨a,ha⟩ ⟨b,hb⟩
theorem zf5 {a b:Nat} (ha:a < 20) (hb:b < 20):idT a=idT b ↔ a=b:=by
 have:=idT_eq20 ⟨a,ha⟩ ⟨b,hb⟩
 simpa using this
section
variable [Tabs Tryz.prog] {objs:List OB} {K:List OB → AV → Prop}
theorem zjO (h1:K objs .nil) (h2:K (objs ++ [.orow 81 9 1 0 []]) (.orow objs.length 1)):zae Tryz.prog 56 [.row 0 []] objs K:=by
 refine czn fun b => ?_
 refine za3 is_slices_Clone__api_Exchange_api_Exchange fun C _ => ?_
 rw [c_slices_Clone__api_Exchange_api_Exchange]
 cases b with
 | true =>
  simp only [sxZ,z6,z7,z8,j4,j5,j6,j7,j8,j9,x0,x3,x4,x5,x6,x7,reduceCtorEq,↓reduceIte,Bool.false_eq_true]
  exact h1
 | false =>
  simp only [sxZ,z6,z7,z8,j4,j5,j6,j7,j8,j9,x0,x3,x4,x5,x6,x7,reduceCtorEq,↓reduceIte,Bool.false_eq_true]
  refine ⟨by decide,?_⟩
  simp only [sxZ,z6,z7,z8,j4,j5,j6,j7,j8,j9,x0,x3,x4,x5,x6,x7,reduceCtorEq,↓reduceIte,gn1,sn1]
  exact h2
theorem zcG (k s:Nat) (hk:K objs (.agg (vc k s (.row 0 [])))):zae Tryz.prog 36 [.agg (vc k s (.row 0 []))] objs K:=by
 refine cres (.agg (vc k s (.row 0 []))) ?_
 refine zaU is_cache_cloneVerdict (by simp only [vc,zak,AV.plain,Bool.and_self]) fun C _ => ?_
 rw [c_cache_cloneVerdict]
 refine zaa fun Y hY => ?_
 simp only [vc,sxZ,z6,z7,z8,j4,j5,j6,j7,j8,j9,x0,x3,x4,x5,x6,x7,reduceCtorEq,↓reduceIte]
 subst hY
 simp only [sxZ,z6,z7,z8,j4,j5,j6,j7,j8,j9,x0,x3,x4,x5,x6,x7,reduceCtorEq,↓reduceIte]
 refine zap (zjO ?_ ?_)
 ·simp only [sxZ,z6,z7,z8,j4,j5,j6,j7,j8,j9,x0,x3,x4,x5,x6,x7,reduceCtorEq,↓reduceIte]
  refine ⟨fun G I y hy => ?_,hk⟩
  simp only [Den,zac] at hy ⊢
  obtain ⟨ys,rfl,hd,h1⟩:=hy
  refine ⟨ys,rfl,?_,h1⟩
  obtain ⟨y0,r0,rfl,q0,y1,r1,rfl,q1,y2,r2,rfl,q2,y3,r3,rfl,q3,y4,r4,rfl,q4,y5,r5,rfl,q5,y6,r6,rfl,q6,y7,r7,rfl,q7,y8,r8,rfl,q8,y9,r9,rfl,q9,ya,ra,rfl,qa,yb,rb,rfl,qb,rfl⟩:=hd
  exact ⟨_,_,rfl,q0,_,_,rfl,q1,_,_,rfl,q2,_,_,rfl,q3,_,_,rfl,q4,_,_,rfl,q5,_,_,rfl,q6,_,_,rfl,q7,_,_,rfl,q8,_,_,rfl,q9,_,_,rfl,qa,_,_,rfl,⟨none,0,[],qb,⟨Nat.le_refl _,fun ad h => by cases h⟩,rfl,by simp,by simp⟩,rfl⟩
 ·simp only [sxZ,z6,z7,z8,j4,j5,j6,j7,j8,j9,x0,x3,x4,x5,x6,x7,reduceCtorEq,↓reduceIte]
  exact ⟨fun G I y hy => hy,hk⟩
theorem cloneE_k (e:En) (L:List En) (hl:(e :: L).length ≤ 1000000) (hk:K (objs ++ [.orow 43 14 1 (e :: L).length (ecs (e :: L))]) (.orow objs.length 1)):zae Tryz.prog 55 [.row (e :: L).length (ecs (e :: L))] objs K:=by
 have hel:=zaJ (e :: L)
 have e0:ecs (e :: L)=.i .i64 0 :: ((ec e).drop 1 ++ ecs L):=by rw [zaA]; rfl
 generalize (ec e).drop 1 ++ ecs L=X at e0
 rw [e0] at hk hel ⊢
 generalize (e :: L).length=n at hk hl hel ⊢
 refine za3 is_slices_Clone__api_Entry_api_Entry fun C _ => ?_
 rw [c_slices_Clone__api_Entry_api_Entry]
 simp only [sxZ,z6,z7,z8,j4,j5,j6,j7,j8,j9,x0,x3,x4,x5,x6,x7,reduceCtorEq,↓reduceIte]
 refine ⟨by omega,?_⟩
 simp only [sxZ,z6,z7,z8,j4,j5,j6,j7,j8,j9,x0,x3,x4,x5,x6,x7,reduceCtorEq,↓reduceIte,gn1,sn1]
 rw [Nat.zero_add]
 exact ⟨⟨by simp only [List.length_cons] at hel; omega,by omega,by omega⟩,hk⟩
theorem zjP (h1:K objs .nil) (h2:K (objs ++ [.orow 43 14 1 0 []]) (.orow objs.length 1)):zae Tryz.prog 55 [.row 0 []] objs K:=by
 refine czn fun b => ?_
 refine za3 is_slices_Clone__api_Entry_api_Entry fun C _ => ?_
 rw [c_slices_Clone__api_Entry_api_Entry]
 cases b with
 | true =>
  simp only [sxZ,z6,z7,z8,j4,j5,j6,j7,j8,j9,x0,x3,x4,x5,x6,x7,reduceCtorEq,↓reduceIte,Bool.false_eq_true]
  exact h1
 | false =>
  simp only [sxZ,z6,z7,z8,j4,j5,j6,j7,j8,j9,x0,x3,x4,x5,x6,x7,reduceCtorEq,↓reduceIte,Bool.false_eq_true]
  refine ⟨by decide,?_⟩
  simp only [sxZ,z6,z7,z8,j4,j5,j6,j7,j8,j9,x0,x3,x4,x5,x6,x7,reduceCtorEq,↓reduceIte,gn1,sn1]
  exact h2
theorem zho (e:En) (hk:K objs (.s (idT e.k))):zae Tryz.prog 27 [.agg (ec e)] objs K:=by
 refine zaU is_cache_text (by simp only [ec,zak,AV.plain,Bool.and_self]) fun C _ => ?_
 rw [c_cache_text]
 simp only [ec,sxZ,z6,z7,z8,j4,j5,j6,j7,j8,j9,x0,x3,x4,x5,x6,x7,reduceCtorEq,↓reduceIte]
 exact hk
theorem ziO (l:List UInt8) (hk:K objs (.b false)):zae Tryz.prog 81 [.s l] objs K:=by
 refine zaU is_cmp_isNaN__string rfl fun C _ => ?_
 rw [c_cmp_isNaN__string]
 simp only [sxZ,z6,z7,z8,j4,j5,j6,j7,j8,j9,x0,x3,x4,x5,x6,x7,reduceCtorEq,↓reduceIte,decide_true,not_true_eq_false,decide_false,Bool.not_true]
 exact hk
def cmp3 (a b:Nat):Int:=if a < b then -1 else if b < a then 1 else 0
theorem cmpT_k {a b:Nat} (ha:a < 20) (hb:b < 20) (hk:K objs (.i .i64 (cmp3 a b))):zae Tryz.prog 59 [.s (idT a),.s (idT b)] objs K:=by
 refine zaU is_cmp_Compare__string rfl fun C _ => ?_
 rw [c_cmp_Compare__string]
 simp only [sxZ,z6,z7,z8,j4,j5,j6,j7,j8,j9,x0,x3,x4,x5,x6,x7,reduceCtorEq,↓reduceIte]
 refine zap (ziO _ ?_)
 simp only [sxZ,z6,z7,z8,j4,j5,j6,j7,j8,j9,x0,x3,x4,x5,x6,x7,reduceCtorEq,↓reduceIte]
 refine zap (ziO _ ?_)
 have h1:=zen ha hb
 have h2:=zen hb ha
 have h3:=zf5 ha hb
 unfold cmp3 at hk
 by_cases hlt:a < b
 ·rw [if_pos hlt] at hk
  rw [decide_eq_true hlt] at h1
  simp only [sxZ,z6,z7,z8,j4,j5,j6,j7,j8,j9,x0,x3,x4,x5,x6,x7,reduceCtorEq,↓reduceIte,h1]
  exact hk
 ·rw [if_neg hlt] at hk
  rw [decide_eq_false hlt] at h1
  by_cases hgt:b < a
  ·rw [if_pos hgt] at hk
   have h4:(idT a == idT b)=false:=by
    rw [beq_eq_false_iff_ne]; exact fun e => by have:=h3.1 e; omega
   simp only [sxZ,z6,z7,z8,j4,j5,j6,j7,j8,j9,x0,x3,x4,x5,x6,x7,reduceCtorEq,↓reduceIte,h1,h4,Bool.not_false,Bool.and_self]
   exact hk
  ·rw [if_neg hgt] at hk
   obtain rfl:a=b:=by omega
   have h4:(idT a == idT a)=true:=by simp
   simp only [sxZ,z6,z7,z8,j4,j5,j6,j7,j8,j9,x0,x3,x4,x5,x6,x7,reduceCtorEq,↓reduceIte,h1,h4,Bool.not_true,Bool.and_false]
   exact hk
theorem zjn (e:En) {w:Nat} (ha:e.k < 20) (hb:w < 20) (hk:K objs (.i .i64 (cmp3 e.k w))):zae Tryz.prog 58 [.agg (ec e),.s (idT w)] objs K:=by
 refine zaU is_cache_find_1 (by simp only [ec,zak,AV.plain,Bool.and_self]) fun C _ => ?_
 rw [c_cache_find_1]
 refine zaa fun Y hY => ?_
 have e1:AV.agg (ec e)=AV.agg [.i .i64 0,.i .i64 1,.s (idT e.k),.s zdc,.i .i64 0,.i .i64 0,.s [],.s [],.i .i64 0,.b true,.i .u64 e.s,.row 0 [],.i .u64 e.t,.i .u64 (e.t + e.s:Nat)]:=rfl
 rw [e1]
 simp only [sxZ,z6,z7,z8,j4,j5,j6,j7,j8,j9,x0,x3,x4,x5,x6,x7,reduceCtorEq,↓reduceIte]
 subst hY
 simp only [sxZ,z6,z7,z8,j4,j5,j6,j7,j8,j9,x0,x3,x4,x5,x6,x7,reduceCtorEq,↓reduceIte]
 rw [← e1]
 refine zap (zho e ?_)
 simp only [sxZ,z6,z7,z8,j4,j5,j6,j7,j8,j9,x0,x3,x4,x5,x6,x7,reduceCtorEq,↓reduceIte]
 refine zap (cmpT_k ha hb ?_)
 simp only [sxZ,z6,z7,z8,j4,j5,j6,j7,j8,j9,x0,x3,x4,x5,x6,x7,reduceCtorEq,↓reduceIte]
 exact hk
end
end
section
attribute [local irreducible] run
def plE (w:Nat) (L:List En):Nat:=(L.takeWhile fun e => decide (e.k < w)).length
def zdr (w:Nat) (L:List En):Bool:=L.any fun e => decide (e.k=w)
def zcy (L:List En):Prop:=L.Pairwise (fun a b => a.k < b.k) ∧ ∀ e ∈ L,e.k < 20
theorem zbR {L:List En} (h:zcy L) {i j:Nat} (hj:j < L.length) (hij:i < j):(L[i]'(by omega)).k < L[j].k:=List.pairwise_iff_getElem.1 h.1 i j (by omega) hj hij
theorem plE_le (w:Nat) (L:List En):plE w L ≤ L.length:=(List.takeWhile_sublist _).length_le
theorem zh0:∀ {L:List En} {i w:Nat},i ≤ L.length → (∀ j (h:j < L.length),j < i → L[j].k < w) → (∀ j (h:j < L.length),i ≤ j → w ≤ L[j].k) → plE w L=i
 | [],i,w,hi,_,_ => by simp at hi; subst hi; rfl
 | e :: L,0,w,_,_,h2 => by
  have:=h2 0 (by simp) (Nat.le_refl _)
  simp only [List.getElem_cons_zero] at this
  unfold plE
  rw [List.takeWhile_cons_of_neg (by simpa using this)]; rfl
 | e :: L,i + 1,w,hi,h1,h2 => by
  have h0:=h1 0 (by simp) (by omega)
  simp only [List.getElem_cons_zero] at h0
  have:=zh0 (L:=L) (i:=i) (w:=w) (by simpa using hi) (fun j h hj => h1 (j + 1) (Nat.succ_lt_succ h) (by omega)) (fun j h hj => h2 (j + 1) (Nat.succ_lt_succ h) (by omega))
  unfold plE at this ⊢
  rw [List.takeWhile_cons_of_pos (by simpa using h0),List.length_cons,this]
theorem hasE_eq {L:List En} (hs:zcy L) {i w:Nat} (h1:∀ j (h:j < L.length),j < i → L[j].k < w) (h2:∀ j (h:j < L.length),i ≤ j → w ≤ L[j].k):zdr w L=decide (∃ h:i < L.length,L[i].k=w):=by
 unfold zdr
 rw [Bool.eq_iff_iff,List.any_eq_true,decide_eq_true_eq]
 constructor
 ·rintro ⟨e,he,h⟩
  obtain ⟨j,hj,rfl⟩:=List.getElem_of_mem he
  have h:=of_decide_eq_true h
  rcases Nat.lt_trichotomy j i with c | rfl | c
  ·have:=h1 j hj c; omega
  ·exact ⟨hj,h⟩
  ·have a:=h2 i (by omega) (Nat.le_refl _)
   have b:=zbR hs hj c
   omega
 ·rintro ⟨hi,h⟩
  exact ⟨L[i],List.getElem_mem hi,decide_eq_true h⟩
theorem zdu:IsFn Tryz.prog 58:=⟨_,Tryz.func58,by kernel_rfl,of_decide_eq_true (by kernel_rfl)⟩
theorem u64_half {a b:Nat} (h:a + b ≤ 2000000):IntKind.i64.wrap ((IntKind.u64.wrap ((a:Int) + b)).fdiv (2 ^ min 1 IntKind.u64.bits))=((a + b) / 2:Nat):=by
 rw [show min 1 IntKind.u64.bits=1 from rfl]
 rw [IntKind.wrap_u64,IntKind.wrap_i64]
 rw [show ((a:Int) + b)=((a + b:Nat):Int) by omega]
 rw [Int.fdiv_eq_ediv_of_nonneg _ (by decide)]
 omega
section
variable [Tabs Tryz.prog] {objs:List OB} {K:List OB → AV → Prop}
theorem bs_k (L:List En) {w:Nat} (hs:zcy L) (hw:w < 20) (hn:L.length ≤ 1000000) (hk:K objs (.tup [.i .i64 (plE w L),.b (zdr w L)])):zae Tryz.prog 57 [.row L.length (ecs L),.s (idT w),.fn 58 [] []] objs K:=by
 have hel:=zaJ L
 refine zaU is_slices_BinarySearchFunc__api_Entry_api_Entry_string (by simp only [zak,AV.plain,zat,Bool.and_self]) fun C _ => ?_
 rw [c_slices_BinarySearchFunc__api_Entry_api_Entry_string]
 refine zaa fun Z hZ => ?_
 simp only [sxZ,z6,z7,z8,j4,j5,j6,j7,j8,j9,x0,x3,x4,x5,x6,x7,reduceCtorEq,↓reduceIte]
 subst hZ
 refine zaa fun Z hZ => ?_
 simp only [sxZ,z6,z7,z8,j4,j5,j6,j7,j8,j9,x0,x3,x4,x5,x6,x7,reduceCtorEq,↓reduceIte]
 subst hZ
 refine zaa fun Z hZ => ?_
 simp only [sxZ,z6,z7,z8,j4,j5,j6,j7,j8,j9,x0,x3,x4,x5,x6,x7,reduceCtorEq,↓reduceIte]
 subst hZ
 refine zaa fun Z hZ => ?_
 simp only [sxZ,z6,z7,z8,j4,j5,j6,j7,j8,j9,x0,x3,x4,x5,x6,x7,reduceCtorEq,↓reduceIte]
 refine zaF (fun m o tm => ∃ i j:Nat,m=j - i ∧ i ≤ j ∧ j ≤ L.length ∧ (∀ t (h:t < L.length),t < i → L[t].k < w) ∧ (∀ t (h:t < L.length),j ≤ t → w ≤ L[t].k) ∧ o=[] ∧ tm.length=49 ∧ tm[0]? = some (.row L.length (ecs L)) ∧ tm[1]? = some (.s (idT w)) ∧ tm[2]? = some (.fn 58 [] []) ∧ tm[8]? = some (.i .i64 L.length) ∧ tm[9]? = some (.i .i64 i) ∧ tm[10]? = some (.i .i64 j)) L.length ⟨0,L.length,rfl,Nat.zero_le _,Nat.le_refl _,fun t h h0 => absurd h0 (Nat.not_lt_zero _),fun t h h0 => by omega,rfl,rfl,rfl,rfl,rfl,rfl,rfl,rfl⟩ ?_
 rintro m _ tm ⟨i,j,rfl,hij,hjn,h1,h2,rfl,hlen,t0,t1,t2,t8,t9,t10⟩
 refine zaa fun Y hY => ?_
 by_cases hlt:i < j
 ·have hlt':(i:Int) < (j:Int):=by omega
  simp only [sxZ,z6,z7,z8,j4,j5,j6,j7,j8,j9,x0,x3,x4,x5,x6,x7,reduceCtorEq,↓reduceIte,List.getElem?_set,hlen,t9,t10,hlt']
  subst hY
  have hh:=u64_half (a:=i) (b:=j) (by omega)
  have hm:(i + j) / 2 < L.length:=by omega
  have hat:=zdv hm
  have hme:L[(i + j) / 2].k < 20:=hs.2 _ (List.getElem_mem hm)
  simp only [sxZ,z6,z7,z8,j4,j5,j6,j7,j8,j9,x0,x3,x4,x5,x6,x7,reduceCtorEq,↓reduceIte,List.getElem?_set,hlen,t0,t1,t2,t9,t10,hh,Int.toNat_natCast,hat]
  refine ⟨by omega,by omega,by omega,?_⟩
  refine zfO zdu (zjn _ hme hw ?_)
  generalize hmm:(i + j) / 2=m at *
  by_cases hc:L[m].k < w
  ·simp only [cmp3,if_pos hc,sxZ,z6,z7,z8,j4,j5,j6,j7,j8,j9,x0,x3,x4,x5,x6,x7,reduceCtorEq,↓reduceIte,List.getElem?_set,hlen,t0,t1,t2,t8,t9,t10]
   refine ⟨by omega,j - (m + 1),by omega,m + 1,j,rfl,by omega,hjn,fun t h ht => ?_,h2,rfl,rfl⟩
   rcases Nat.lt_or_ge t m with c | c
   ·have:=zbR hs hm c; omega
   ·obtain rfl:t=m:=by omega
    exact hc
  ·have hc3:¬ cmp3 L[m].k w < 0:=by unfold cmp3; rw [if_neg hc]; split <;> decide
   simp only [sxZ,z6,z7,z8,j4,j5,j6,j7,j8,j9,x0,x3,x4,x5,x6,x7,reduceCtorEq,↓reduceIte,List.getElem?_set,hlen,t0,t1,t2,t8,t9,t10,hc3]
   refine ⟨m - i,by omega,i,m,rfl,by omega,by omega,h1,fun t h ht => ?_,rfl,rfl⟩
   rcases Nat.eq_or_lt_of_le ht with rfl | c
   ·omega
   ·have:=zbR hs h c; omega
 ·have hlt':¬ (i:Int) < (j:Int):=by omega
  obtain rfl:i=j:=by omega
  simp only [sxZ,z6,z7,z8,j4,j5,j6,j7,j8,j9,x0,x3,x4,x5,x6,x7,reduceCtorEq,↓reduceIte,List.getElem?_set,hlen,t9,t10,hlt']
  subst hY
  subst hZ
  have hp:=zh0 (L:=L) (w:=w) hjn h1 h2
  have hha:=hasE_eq hs h1 h2
  by_cases hi:i < L.length
  ·have hi':(i:Int) < (L.length:Int):=by omega
   have hat:=zdv hi
   have hme:L[i].k < 20:=hs.2 _ (List.getElem_mem hi)
   simp only [sxZ,z6,z7,z8,j4,j5,j6,j7,j8,j9,x0,x3,x4,x5,x6,x7,reduceCtorEq,↓reduceIte,List.getElem?_set,hlen,t0,t1,t2,t8,t9,t10,hi',Int.toNat_natCast,hat]
   refine ⟨by omega,by omega,?_⟩
   refine zfO zdu (zjn _ hme hw ?_)
   simp only [sxZ,z6,z7,z8,j4,j5,j6,j7,j8,j9,x0,x3,x4,x5,x6,x7,reduceCtorEq,↓reduceIte,List.getElem?_set,hlen,t0,t1,t2,t8,t9,t10]
   have e:zdr w L=decide (cmp3 L[i].k w=0):=by
    rw [hha]
    have:(∃ h:i < L.length,L[i].k=w) ↔ cmp3 L[i].k w=0:=by
     unfold cmp3
     constructor
     ·rintro ⟨_,h⟩; rw [if_neg (by omega),if_neg (by omega)]
     ·intro h
      refine ⟨hi,?_⟩
      split at h
      ·cases h
      ·split at h
       ·cases h
       ·omega
    exact decide_eq_decide.2 this
   rw [hp,e] at hk
   exact hk
  ·have hi':¬ (i:Int) < (L.length:Int):=by omega
   have e:zdr w L=false:=by rw [hha]; exact decide_eq_false (fun ⟨h,_⟩ => hi h)
   rw [hp,e] at hk
   simp only [sxZ,z6,z7,z8,j4,j5,j6,j7,j8,j9,x0,x3,x4,x5,x6,x7,reduceCtorEq,↓reduceIte,List.getElem?_set,hlen,t0,t1,t2,t8,t9,t10,hi']
   exact hk
end
end
section
attribute [local irreducible] run
theorem zdV {L:List En} {i:Nat} (h:i < L.length):((ecs L).drop (i * 14)).take 12=vc L[i].k L[i].s (.row 0 []):=by
 rw [zbd,List.drop_eq_getElem_cons h,zaA]; rfl
theorem ecs_back {L:List En} {i:Nat} (h:i < L.length):(ecs L).take (i * 14) ++ vc L[i].k L[i].s (.row 0 []) ++ (ecs L).drop (i * 14 + 12)=ecs L:=by
 rw [← zdV h,← List.drop_drop,List.append_assoc,List.take_append_drop,List.take_append_drop]
theorem vc_len (k s:Nat) (tr:AV):(vc k s tr).length=12:=rfl
section
variable [Tabs Tryz.prog] {objs:List OB} {K:List OB → AV → Prop}
theorem zjm (L:List En) {w:Nat} (hs:zcy L) (hw:w < 20) (hn:L.length ≤ 1000000) (hk:K objs (.tup [.i .i64 (plE w L),.b (zdr w L)])):zae Tryz.prog 37 [.row L.length (ecs L),.s (idT w)] objs K:=by
 refine zaU is_cache_find (by simp only [zak,AV.plain,zat,Bool.and_self]) fun C _ => ?_
 rw [c_cache_find]
 simp only [sxZ,z6,z7,z8,j4,j5,j6,j7,j8,j9,x0,x3,x4,x5,x6,x7,reduceCtorEq,↓reduceIte]
 refine zap (bs_k L hs hw hn ?_)
 simp only [sxZ,z6,z7,z8,j4,j5,j6,j7,j8,j9,x0,x3,x4,x5,x6,x7,reduceCtorEq,↓reduceIte]
 exact hk
theorem add_k {a b:Nat} (h:a + b ≤ 18446744073709551615) (hk:K objs (.i .u64 (a + b:Nat))):zae Tryz.prog 29 [.i .u64 a,.i .u64 b] objs K:=by
 refine zaU is_number_Add rfl fun C _ => ?_
 rw [c_number_Add]
 have e1:IntKind.u64.wrap (18446744073709551615 - (b:Int))=((18446744073709551615 - b:Nat):Int):=by rw [IntKind.wrap_u64]; omega
 have e2:¬ (((18446744073709551615 - b:Nat):Int) < (a:Int)):=by omega
 have e3:IntKind.u64.wrap ((a:Int) + b)=((a + b:Nat):Int):=by rw [IntKind.wrap_u64]; omega
 simp only [sxZ,z6,z7,z8,j4,j5,j6,j7,j8,j9,x0,x3,x4,x5,x6,x7,reduceCtorEq,↓reduceIte,e1,e2,e3]
 exact hk
theorem zdZ (L:List En) (hn:L.length ≤ 1000000) (h0:L=[] → K objs .nil) (hk:K (objs ++ [.orow 43 14 1 L.length (ecs L)]) (.orow objs.length 1)):zae Tryz.prog 35 [.row L.length (ecs L)] objs K:=by
 have hel:=zaJ L
 refine za3 is_cache_cloneEntries fun C _ => ?_
 rw [c_cache_cloneEntries]
 refine zaa fun Z hZ => ?_
 simp only [sxZ,z6,z7,z8,j4,j5,j6,j7,j8,j9,x0,x3,x4,x5,x6,x7,reduceCtorEq,↓reduceIte]
 subst hZ
 refine zaa fun Z hZ => ?_
 have tail:∀ tm:List AV,tm.length=24 → tm[3]? = some (.orow objs.length 1) → run Tryz.prog C [.code Z] (objs ++ [.orow 43 14 1 L.length (ecs L)]) tm (endI [.tmp 2] K):=by
  intro tm hlen t3
  subst hZ
  refine zaa fun Z hZ => ?_
  simp only [sxZ,z6,z7,z8,j4,j5,j6,j7,j8,j9,x0,x3,x4,x5,x6,x7,reduceCtorEq,↓reduceIte,List.getElem?_set,hlen,t3,gn1]
  refine zaF (fun m o tm => ∃ i:Nat,m=L.length - i ∧ i ≤ L.length ∧ o=objs ++ [.orow 43 14 1 L.length (ecs L)] ∧ tm.length=24 ∧ tm[3]? = some (.orow objs.length 1) ∧ tm[8]? = some (.i .i64 L.length) ∧ tm[9]? = some (.i .i64 i)) L.length ⟨0,rfl,Nat.zero_le _,rfl,?_⟩ ?_
  ·simp only [sxZ,z6,z7,z8,j4,j5,j6,j7,j8,j9,x0,x3,x4,x5,x6,x7,reduceCtorEq,↓reduceIte,List.getElem?_set,hlen,t3,and_self,Int.cast_ofNat_Int]
  clear hlen t3
  rintro m _ tm ⟨i,rfl,hi,rfl,hlen,t3,t8,t9⟩
  refine zaa fun Y hY => ?_
  by_cases hlt:i < L.length
  ·have hlt':(i:Int) < (L.length:Int):=by omega
   have ha:=zdV hlt
   have hb:=ecs_back hlt
   simp only [sxZ,z6,z7,z8,j4,j5,j6,j7,j8,j9,x0,x3,x4,x5,x6,x7,reduceCtorEq,↓reduceIte,List.getElem?_set,hlen,t8,t9,hlt']
   subst hY
   simp only [sxZ,z6,z7,z8,j4,j5,j6,j7,j8,j9,x0,x3,x4,x5,x6,x7,reduceCtorEq,↓reduceIte,List.getElem?_set,hlen,t3,t8,t9,gn1,Int.toNat_natCast,Nat.add_zero,ha]
   refine ⟨by omega,by omega,?_⟩
   refine zap (zcG _ _ ?_)
   simp only [sxZ,z6,z7,z8,j4,j5,j6,j7,j8,j9,x0,x3,x4,x5,x6,x7,reduceCtorEq,↓reduceIte,List.getElem?_set,hlen,t3,t8,t9,gn1,sn1,Int.toNat_natCast,Nat.add_zero,vc_len,hb]
   exact ⟨by omega,by omega,by omega,L.length - (i + 1),by omega,i + 1,rfl,by omega,rfl⟩
  ·have hlt':¬ (i:Int) < (L.length:Int):=by omega
   simp only [sxZ,z6,z7,z8,j4,j5,j6,j7,j8,j9,x0,x3,x4,x5,x6,x7,reduceCtorEq,↓reduceIte,List.getElem?_set,hlen,t8,t9,hlt']
   subst hY
   subst hZ
   simp only [sxZ,z6,z7,z8,j4,j5,j6,j7,j8,j9,x0,x3,x4,x5,x6,x7,reduceCtorEq,↓reduceIte,List.getElem?_set,hlen,t3]
   exact hk
 cases L with
 | nil =>
  simp only [sxZ,z6,z7,z8,j4,j5,j6,j7,j8,j9,x0,x3,x4,x5,x6,x7,reduceCtorEq,↓reduceIte]
  refine zap (zjP ?_ ?_)
  ·simp only [sxZ,z6,z7,z8,j4,j5,j6,j7,j8,j9,x0,x3,x4,x5,x6,x7,reduceCtorEq,↓reduceIte]
   subst hZ
   refine zaa fun Z hZ => ?_
   simp only [sxZ,z6,z7,z8,j4,j5,j6,j7,j8,j9,x0,x3,x4,x5,x6,x7,reduceCtorEq,↓reduceIte]
   refine zaF (fun m o tm => m=0 ∧ o=objs ∧ tm.length=24 ∧ tm[3]? = some .nil ∧ tm[8]? = some (.i .i64 0) ∧ tm[9]? = some (.i .i64 0)) 0 ⟨rfl,rfl,rfl,rfl,rfl,rfl⟩ ?_
   rintro m _ tm ⟨rfl,rfl,hlen,t3,t8,t9⟩
   refine zaa fun Y hY => ?_
   simp only [sxZ,z6,z7,z8,j4,j5,j6,j7,j8,j9,x0,x3,x4,x5,x6,x7,reduceCtorEq,↓reduceIte,List.getElem?_set,hlen,t8,t9]
   subst hY
   subst hZ
   simp only [sxZ,z6,z7,z8,j4,j5,j6,j7,j8,j9,x0,x3,x4,x5,x6,x7,reduceCtorEq,↓reduceIte,List.getElem?_set,hlen,t3]
   exact h0 rfl
  ·simp only [sxZ,z6,z7,z8,j4,j5,j6,j7,j8,j9,x0,x3,x4,x5,x6,x7,reduceCtorEq,↓reduceIte]
   exact tail _ rfl rfl
 | cons e L =>
  simp only [sxZ,z6,z7,z8,j4,j5,j6,j7,j8,j9,x0,x3,x4,x5,x6,x7,reduceCtorEq,↓reduceIte]
  refine zap (cloneE_k e L hn ?_)
  simp only [sxZ,z6,z7,z8,j4,j5,j6,j7,j8,j9,x0,x3,x4,x5,x6,x7,reduceCtorEq,↓reduceIte]
  exact tail _ rfl rfl
end
end
section
attribute [local irreducible] run
def pc (f:Nat → Nat) (m:Nat):List AV:=(List.range m).map fun k => AV.i .i64 (f k:Int)
theorem zb2 (f:Nat → Nat) (m:Nat):(pc f m).length=m:=by simp [pc]
theorem zcq {f:Nat → Nat} {m k:Nat} (h:k < m):(pc f m)[k]? = some (.i .i64 (f k:Int)):=by
 simp [pc,h]
theorem pc_take {f:Nat → Nat} {m k:Nat} (h:k ≤ m):(pc f m).take k=pc f k:=by
 simp only [pc,← List.map_take,List.take_range,Nat.min_eq_left h]
theorem pc_snoc (f:Nat → Nat) (m:Nat):pc f m ++ [AV.i .i64 (f m:Int)]=pc f (m + 1):=by simp [pc,List.range_succ]
theorem pc_set {f:Nat → Nat} {m i v:Nat} (h:i < m):(pc f m).take i ++ [AV.i .i64 (v:Int)] ++ (pc f m).drop (i + 1)=pc (fun k => if k=i then v else f k) m:=by
 have e:(pc f m).take i ++ [AV.i .i64 (v:Int)] ++ (pc f m).drop (i + 1)=(pc f m).set i (AV.i .i64 (v:Int)):=by
  rw [List.set_eq_take_append_cons_drop,if_pos (by rw [zb2]; exact h)]; simp
 rw [e]
 apply List.ext_getElem?
 intro k
 rw [List.getElem?_set]
 rcases Nat.lt_or_ge k m with hk | hk
 ·rw [zcq hk,zb2]
  by_cases c:i=k
  ·subst c; rw [if_pos rfl,if_pos hk,zcq hk,if_pos rfl]
  ·rw [if_neg c,zcq hk,if_neg (show ¬ k=i from fun e => c e.symm)]
 ·rw [List.getElem?_eq_none (by rw [zb2]; exact hk),if_neg (by omega),List.getElem?_eq_none (by rw [zb2]; exact hk)]
def exE (L:List En) (a:Nat):Nat:=match L[a]? with
 | some e => e.t + e.s
 | none => 0
def ltE (L:List En) (a b:Nat):Bool:=if exE L a=exE L b then decide (a < b) else decide (exE L a < exE L b)
theorem ecs_ex {L:List En} {a:Nat} (h:a < L.length):(ecs L)[a * 14 + 13]? = some (.i .u64 (exE L a:Int)):=by
 have h1:((ecs L).drop (a * 14))[13]? = some (.i .u64 (exE L a:Int)):=by
  rw [zbd,List.drop_eq_getElem_cons h,zaA]
  unfold exE
  rw [List.getElem?_eq_getElem h]
  rfl
 rwa [List.getElem?_drop] at h1
def swF (f:Nat → Nat) (i j:Nat):Nat → Nat:=fun k => if k=j then f i else if k=i then f j else f k
def hO (L:List En) (f:Nat → Nat) (m g:Nat):List OB:=[.box 101 [.row L.length (ecs L),.orow 1 g],.orow 3 1 g m (pc f m)]
section
variable [Tabs Tryz.prog] {K:List OB → AV → Prop} {L:List En} {f:Nat → Nat} {m g:Nat}
theorem hLen_k (hk:K (hO L f m g) (.i .i64 m)):zae Tryz.prog 259 [.p 0 0] (hO L f m g) K:=by
 refine za3 is_cache_byExpiry_Len fun C _ => ?_
 rw [c_cache_byExpiry_Len]
 unfold hO at hk ⊢
 simp only [sxZ,z6,z7,z8,j4,j5,j6,j7,j8,j9,x0,x3,x4,x5,x6,x7,reduceCtorEq,↓reduceIte]
 exact hk
theorem zjc {i j:Nat} (hi:i < m) (hj:j < m) (hm:m ≤ 1000000) (hf:∀ k,k < m → f k < L.length) (hk:K (hO L f m g) (.b (ltE L (f i) (f j)))):zae Tryz.prog 260 [.p 0 0,.i .i64 i,.i .i64 j] (hO L f m g) K:=by
 have hel:=zaJ L
 have hpl:=zb2 f m
 have pi:=zcq (f:=f) hi
 have pj:=zcq (f:=f) hj
 have fi:=hf i hi
 have fj:=hf j hj
 have ei:=ecs_ex fi
 have ej:=ecs_ex fj
 refine za3 is_cache_byExpiry_Less fun C _ => ?_
 rw [c_cache_byExpiry_Less]
 unfold hO at hk ⊢
 refine zaa fun Y hY => ?_
 simp only [sxZ,z6,z7,z8,j4,j5,j6,j7,j8,j9,x0,x3,x4,x5,x6,x7,reduceCtorEq,↓reduceIte]
 subst hY
 refine zaa fun Y hY => ?_
 simp only [sxZ,z6,z7,z8,j4,j5,j6,j7,j8,j9,x0,x3,x4,x5,x6,x7,reduceCtorEq,↓reduceIte,Int.toNat_natCast,Nat.mul_one,pi,pj]
 refine ⟨by omega,by omega,?_⟩
 subst hY
 have hle:L.length * 14 ≤ (ecs L).length:=by omega
 unfold ltE at hk
 by_cases hc:exE L (f i)=exE L (f j)
 ·rw [if_pos hc] at hk
  have hc':((exE L (f i):Nat):Int)=((exE L (f j):Nat):Int):=by omega
  simp only [sxZ,z6,z7,z8,j4,j5,j6,j7,j8,j9,x0,x3,x4,x5,x6,x7,reduceCtorEq,↓reduceIte,Int.toNat_natCast,ei,ej,hc']
  refine ⟨by omega,by omega,?_⟩
  rw [show decide (((f i:Nat):Int) < ((f j:Nat):Int))=decide (f i < f j) from decide_eq_decide.2 (by omega)]
  exact hk
 ·rw [if_neg hc] at hk
  have hc':¬ ((exE L (f i):Nat):Int)=((exE L (f j):Nat):Int):=by omega
  simp only [sxZ,z6,z7,z8,j4,j5,j6,j7,j8,j9,x0,x3,x4,x5,x6,x7,reduceCtorEq,↓reduceIte,Int.toNat_natCast,ei,ej,hc',not_false_eq_true,decide_true]
  refine ⟨by omega,by omega,by omega,by omega,?_⟩
  rw [show decide (((exE L (f i):Nat):Int) < ((exE L (f j):Nat):Int))=decide (exE L (f i) < exE L (f j)) from decide_eq_decide.2 (by omega)]
  exact hk
theorem zjb {i j:Nat} (hi:i < m) (hj:j < m) (hm:m ≤ 1000000) (hk:K (hO L (swF f i j) m g) (.tup [])):zae Tryz.prog 262 [.p 0 0,.i .i64 i,.i .i64 j] (hO L f m g) K:=by
 have hpl:=zb2 f m
 have pi:=zcq (f:=f) hi
 have pj:=zcq (f:=f) hj
 have s1:=pc_set (f:=f) (v:=f j) hi
 have s2:=pc_set (f:=fun k => if k=i then f j else f k) (v:=f i) hj
 refine za3 is_cache_byExpiry_Swap fun C _ => ?_
 rw [c_cache_byExpiry_Swap]
 unfold hO at hk ⊢
 simp only [sxZ,z6,z7,z8,j4,j5,j6,j7,j8,j9,x0,x3,x4,x5,x6,x7,reduceCtorEq,↓reduceIte,Int.toNat_natCast,Nat.mul_one,pi,pj,s1,s2,zb2]
 exact ⟨by omega,by omega,by omega,by omega,by omega,by omega,hk⟩
theorem hPop_k (h0:0 < m) (hm:m ≤ 1000000) (hk:K (hO L f (m - 1) (g + 1)) (.o (.iface 3 (.int .i64 (f (m - 1):Nat))))):zae Tryz.prog 261 [.p 0 0] (hO L f m g) K:=by
 have hpl:=zb2 f m
 have pl:=zcq (f:=f) (show m - 1 < m by omega)
 have pt:=pc_take (f:=f) (show m - 1 ≤ m by omega)
 have e1:((m:Int) - 1).toNat=m - 1:=by omega
 refine za3 is_cache_byExpiry_Pop fun C _ => ?_
 rw [c_cache_byExpiry_Pop]
 unfold hO at hk ⊢
 simp only [sxZ,z6,z7,z8,j4,j5,j6,j7,j8,j9,x0,x3,x4,x5,x6,x7,reduceCtorEq,↓reduceIte,Nat.mul_one,e1,pl,pt]
 exact ⟨by omega,by omega,by omega,hk⟩
end
end
section
attribute [local irreducible] run
theorem zdO {L:List En} {a b:Nat} (h:ltE L a b=true):ltE L b a=false:=by
 unfold ltE at h ⊢
 by_cases c:exE L a=exE L b
 ·rw [if_pos c] at h; rw [if_pos c.symm]
  have:=of_decide_eq_true h
  exact decide_eq_false (by omega)
 ·rw [if_neg c] at h; rw [if_neg (fun e => c e.symm)]
  have:=of_decide_eq_true h
  exact decide_eq_false (by omega)
theorem zcX {L:List En} {a b c:Nat} (h:ltE L a b=false) (h':ltE L b c=false):ltE L a c=false:=by
 unfold ltE at h h' ⊢
 split at h <;> split at h' <;> split <;> simp only [decide_eq_false_iff_not] at * <;> omega
def Prm (m:Nat) (f f':Nat → Nat):Prop:=(∀ k,k < m → ∃ k',k' < m ∧ f' k=f k') ∧ ∀ k,k < m → ∃ k',k' < m ∧ f k=f' k'
theorem Prm.refl (m:Nat) (f:Nat → Nat):Prm m f f:=⟨fun k h => ⟨k,h,rfl⟩,fun k h => ⟨k,h,rfl⟩⟩
theorem Prm.trans {m:Nat} {f g h:Nat → Nat} (a:Prm m f g) (b:Prm m g h):Prm m f h:=by
 constructor
 ·intro k hk
  obtain ⟨k1,h1,e1⟩:=b.1 k hk
  obtain ⟨k2,h2,e2⟩:=a.1 k1 h1
  exact ⟨k2,h2,e1.trans e2⟩
 ·intro k hk
  obtain ⟨k1,h1,e1⟩:=a.2 k hk
  obtain ⟨k2,h2,e2⟩:=b.2 k1 h1
  exact ⟨k2,h2,e1.trans e2⟩
theorem Prm.sw {m:Nat} (f:Nat → Nat) {i j:Nat} (hi:i < m) (hj:j < m):Prm m f (swF f i j):=by
 constructor
 ·intro k hk
  unfold swF
  by_cases c:k=j
  ·exact ⟨i,hi,by rw [if_pos c]⟩
  ·by_cases c2:k=i
   ·exact ⟨j,hj,by rw [if_neg c,if_pos c2]⟩
   ·exact ⟨k,hk,by rw [if_neg c,if_neg c2]⟩
 ·intro k hk
  unfold swF
  by_cases c:k=i
  ·subst c; exact ⟨j,hj,by rw [if_pos rfl]⟩
  ·by_cases c2:k=j
   ·subst c2
    refine ⟨i,hi,?_⟩
    by_cases c3:i=k
    ·rw [if_pos c3,c3]
    ·rw [if_neg c3,if_pos rfl]
   ·exact ⟨k,hk,by rw [if_neg c2,if_neg c]⟩
theorem Prm.lt {m n:Nat} {f f':Nat → Nat} (h:Prm m f f') (hf:∀ k,k < m → f k < n):∀ k,k < m → f' k < n:=fun k hk => by
 obtain ⟨k',h1,e⟩:=h.1 k hk
 rw [e]; exact hf k' h1
def Hp (L:List En) (n a:Nat) (f:Nat → Nat):Prop:=∀ i,a ≤ i → ∀ c,c=2 * i + 1 ∨ c=2 * i + 2 → c < n → ltE L (f c) (f i)=false
def HpI (L:List En) (n a i:Nat) (f:Nat → Nat):Prop :=
 (∀ q,a ≤ q → q ≠ i → ∀ c,c=2 * q + 1 ∨ c=2 * q + 2 → c < n → ltE L (f c) (f q)=false) ∧
 (i ≠ a → ∀ p,a ≤ p → i=2 * p + 1 ∨ i=2 * p + 2 → ∀ c,c=2 * i + 1 ∨ c=2 * i + 2 → c < n → ltE L (f c) (f p)=false)
theorem hp_start {L:List En} {n a:Nat} {f:Nat → Nat} (h:Hp L n (a + 1) f):HpI L n a a f :=
 ⟨fun q hq hne c hc hn => h q (by omega) c hc hn,fun h => absurd rfl h⟩
theorem hp_end {L:List En} {n a i:Nat} {f:Nat → Nat} (h:HpI L n a i f) (hi:∀ c,c=2 * i + 1 ∨ c=2 * i + 2 → c < n → ltE L (f c) (f i)=false):Hp L n a f:=fun q hq c hc hn => by
 by_cases e:q=i
 ·subst e; exact hi c hc hn
 ·exact h.1 q hq e c hc hn
theorem hp_step {L:List En} {n a i j:Nat} {f:Nat → Nat} (ha:a ≤ i) (h:HpI L n a i f) (hj:j=2 * i + 1 ∨ j=2 * i + 2) (hjn:j < n) (hmin:∀ c,c=2 * i + 1 ∨ c=2 * i + 2 → c < n → ltE L (f c) (f j)=false) (hlt:ltE L (f j) (f i)=true):HpI L n a j (swF f i j):=by
 have eij:∀ k,k ≠ i → k ≠ j → swF f i j k=f k:=fun k h1 h2 => by unfold swF; rw [if_neg h2,if_neg h1]
 have ej:swF f i j j=f i:=by unfold swF; rw [if_pos rfl]
 have ei:swF f i j i=f j:=by unfold swF; rw [if_neg (by omega),if_pos rfl]
 constructor
 ·intro q hq hne c hc hn
  by_cases e:q=i
  ·subst e
   rw [ei]
   by_cases e2:c=j
   ·subst e2; rw [ej]; exact zdO hlt
   ·rw [eij c (by omega) e2]; exact hmin c hc hn
  ·rw [eij q e hne]
   by_cases e2:c=i
   ·subst e2
    rw [ei]
    exact h.2 (by omega) q hq hc j hj hjn
   ·by_cases e3:c=j
    ·omega
    ·rw [eij c e2 e3]; exact h.1 q hq e c hc hn
 ·intro hne p hp hjp c hc hn
  obtain rfl:p=i:=by omega
  rw [ei,eij c (by omega) (by omega)]
  exact h.1 j (by omega) (by omega) c hc hn
theorem hp_min {L:List En} {n:Nat} {f:Nat → Nat} (h:Hp L n 0 f):∀ k,k < n → ltE L (f k) (f 0)=false:=by
 intro k
 induction k using Nat.strongRecOn with
 | _ k ih =>
  intro hk
  rcases Nat.eq_zero_or_pos k with rfl | hp
  ·unfold ltE; rw [if_pos rfl]; exact decide_eq_false (by omega)
  ·have h1:=h ((k - 1) / 2) (Nat.zero_le _) k (by omega) hk
   exact zcX h1 (ih ((k - 1) / 2) (by omega) (by omega))
section
variable [Tabs Tryz.prog] {K:List OB → AV → Prop} {L:List En} {f:Nat → Nat} {m g:Nat}
theorem zjd {a n:Nat} (hn:n ≤ m) (ha:a ≤ m) (hm:m ≤ 1000000) (hf:∀ k,k < m → f k < L.length)
  (hk:∀ f' r,Prm m f f' → (∀ k,n ≤ k → f' k=f k) → (Hp L n (a + 1) f → Hp L n a f') → K (hO L f' m g) (.b r)):zae Tryz.prog 82 [.ip 98 0 0,.i .i64 a,.i .i64 n] (hO L f m g) K:=by
 refine za3 is_container_heap_down fun C _ => ?_
 rw [c_container_heap_down]
 refine zaa fun Z hZ => ?_
 simp only [sxZ,z6,z7,z8,j4,j5,j6,j7,j8,j9,x0,x3,x4,x5,x6,x7,reduceCtorEq,↓reduceIte]
 subst hZ
 refine zaa fun Z hZ => ?_
 simp only [sxZ,z6,z7,z8,j4,j5,j6,j7,j8,j9,x0,x3,x4,x5,x6,x7,reduceCtorEq,↓reduceIte]
 subst hZ
 refine zaa fun Z hZ => ?_
 simp only [sxZ,z6,z7,z8,j4,j5,j6,j7,j8,j9,x0,x3,x4,x5,x6,x7,reduceCtorEq,↓reduceIte]
 refine zaF (fun q o tm => ∃ (i:Nat) (f':Nat → Nat),q=m + 1 - i ∧ i ≤ m ∧ a ≤ i ∧ o=hO L f' m g ∧ Prm m f f' ∧ (∀ k,n ≤ k → f' k=f k) ∧ (Hp L n (a + 1) f → HpI L n a i f') ∧ tm.length=48 ∧ tm[0]? = some (.ip 98 0 0) ∧ tm[1]? = some (.i .i64 a) ∧ tm[2]? = some (.i .i64 n) ∧ tm[7]? = some (.i .i64 i)) (m + 1 - a) ⟨a,f,rfl,ha,Nat.le_refl _,rfl,Prm.refl m f,fun _ _ => rfl,hp_start,rfl,rfl,rfl,rfl,rfl⟩ ?_
 rintro q _ tm ⟨i,f',rfl,him,hai,rfl,hp,htop,hheap,hlen,t0,t1,t2,t7⟩
 have hf':=hp.lt hf
 rw [za2]
 refine zaa fun Y hY => ?_
 simp only [sxZ,z6,z7,z8,j4,j5,j6,j7,j8,j9,x0,x3,x4,x5,x6,x7,reduceCtorEq,↓reduceIte,List.getElem?_set,hlen,t7]
 refine ⟨by omega,by omega,?_⟩
 subst hY
 refine zaa fun Y hY => ?_
 by_cases h1:n ≤ 2 * i + 1
 ·have h1':(n:Int) ≤ 2 * (i:Int) + 1:=by omega
  simp only [sxZ,z6,z7,z8,j4,j5,j6,j7,j8,j9,x0,x3,x4,x5,x6,x7,reduceCtorEq,↓reduceIte,List.getElem?_set,hlen,t2,t7,h1']
  subst hZ
  simp only [sxZ,z6,z7,z8,j4,j5,j6,j7,j8,j9,x0,x3,x4,x5,x6,x7,reduceCtorEq,↓reduceIte,List.getElem?_set,hlen,t1,t7]
  exact hk f' _ hp htop fun h => hp_end (hheap h) fun c hc hcn => absurd hcn (by omega)
 have h1':¬ (n:Int) ≤ 2 * (i:Int) + 1:=by omega
 have h2':¬ 2 * (i:Int) + 1 < 0:=by omega
 simp only [sxZ,z6,z7,z8,j4,j5,j6,j7,j8,j9,x0,x3,x4,x5,x6,x7,reduceCtorEq,↓reduceIte,List.getElem?_set,hlen,t2,t7,h1',h2']
 subst hY
 refine zaa fun Y hY => ?_
 simp only [sxZ,z6,z7,z8,j4,j5,j6,j7,j8,j9,x0,x3,x4,x5,x6,x7,reduceCtorEq,↓reduceIte,List.getElem?_set,hlen,t2,t7]
 subst hY
 refine zaa fun Y hY => ?_
 refine zba (fun o tm => o=hO L f' m g ∧ tm.length=48 ∧ tm[0]? = some (.ip 98 0 0) ∧ tm[1]? = some (.i .i64 a) ∧ tm[2]? = some (.i .i64 n) ∧ tm[7]? = some (.i .i64 i) ∧ ∃ j:Nat,tm[9]? = some (.i .i64 j) ∧ (j=2 * i + 1 ∨ j=2 * i + 2) ∧ j < n ∧ ∀ c,c=2 * i + 1 ∨ c=2 * i + 2 → c < n → ltE L (f' c) (f' j)=false) ?_ ?_
 ·refine zaa fun W hW => ?_
  simp only [sxZ,z6,z7,z8,j4,j5,j6,j7,j8,j9,x0,x3,x4,x5,x6,x7,reduceCtorEq,↓reduceIte,List.getElem?_set,hlen,t0,t2,t7]
  refine ⟨by omega,?_⟩
  subst hW
  refine zaa fun W hW => ?_
  have lir:∀ x,ltE L x x=false:=fun x => by unfold ltE; rw [if_pos rfl]; exact decide_eq_false (by omega)
  by_cases h2:2 * i + 2 < n
  ·have h3:2 * (i:Int) + 1 + 1 < (n:Int):=by omega
   have e1:(2 * (i:Int) + 1 + 1)=((2 * i + 2:Nat):Int):=by omega
   have e2:(2 * (i:Int) + 1)=((2 * i + 1:Nat):Int):=by omega
   simp only [sxZ,z6,z7,z8,j4,j5,j6,j7,j8,j9,x0,x3,x4,x5,x6,x7,reduceCtorEq,↓reduceIte,List.getElem?_set,hlen,t0,t2,t7,h3]
   rw [e1,e2]
   refine kinv rfl (zjc (by omega) (by omega) hm hf' ?_)
   cases hl:ltE L (f' (2 * i + 2)) (f' (2 * i + 1)) with
   | true =>
    simp only [sxZ,z6,z7,z8,j4,j5,j6,j7,j8,j9,x0,x3,x4,x5,x6,x7,reduceCtorEq,↓reduceIte,List.getElem?_set,hlen,t0,t1,t2,t7]
    subst hW
    simp only [sxZ,z6,z7,z8,j4,j5,j6,j7,j8,j9,x0,x3,x4,x5,x6,x7,reduceCtorEq,↓reduceIte,List.getElem?_set,hlen,t0,t1,t2,t7,zai,List.length_set,and_self]
    exact ⟨2 * i + 2,rfl,.inr rfl,h2,fun c hc hcn => by
     rcases hc with rfl | rfl
     ·exact zdO hl
     ·exact lir _⟩
   | false =>
    simp only [sxZ,z6,z7,z8,j4,j5,j6,j7,j8,j9,x0,x3,x4,x5,x6,x7,reduceCtorEq,↓reduceIte,List.getElem?_set,hlen,t0,t1,t2,t7]
    subst hW
    simp only [sxZ,z6,z7,z8,j4,j5,j6,j7,j8,j9,x0,x3,x4,x5,x6,x7,reduceCtorEq,↓reduceIte,List.getElem?_set,hlen,t0,t1,t2,t7,zai,List.length_set,and_self]
    exact ⟨2 * i + 1,rfl,.inl rfl,by omega,fun c hc hcn => by
     rcases hc with rfl | rfl
     ·exact lir _
     ·exact hl⟩
  ·have h3:¬ 2 * (i:Int) + 1 + 1 < (n:Int):=by omega
   simp only [sxZ,z6,z7,z8,j4,j5,j6,j7,j8,j9,x0,x3,x4,x5,x6,x7,reduceCtorEq,↓reduceIte,List.getElem?_set,hlen,t0,t2,t7,h3]
   subst hW
   simp only [sxZ,z6,z7,z8,j4,j5,j6,j7,j8,j9,x0,x3,x4,x5,x6,x7,reduceCtorEq,↓reduceIte,List.getElem?_set,hlen,t0,t1,t2,t7,zai,List.length_set,and_self]
   exact ⟨2 * i + 1,rfl,.inl rfl,by omega,fun c hc hcn => by
    rcases hc with rfl | rfl
    ·exact lir _
    ·exact absurd hcn h2⟩
 clear hlen t0 t1 t2 t7
 rintro _ tm ⟨rfl,hlen,t0,t1,t2,t7,j,t9,hj,hjn,hmin⟩
 subst hY
 refine zaa fun Y hY => ?_
 simp only [sxZ,z6,z7,z8,j4,j5,j6,j7,j8,j9,x0,x3,x4,x5,x6,x7,reduceCtorEq,↓reduceIte,List.getElem?_set,hlen,t0,t7,t9]
 refine kinv rfl (zjc (by omega) (by omega) hm hf' ?_)
 cases hl:ltE L (f' j) (f' i) with
 | false =>
  simp only [sxZ,z6,z7,z8,j4,j5,j6,j7,j8,j9,x0,x3,x4,x5,x6,x7,reduceCtorEq,↓reduceIte,List.getElem?_set,hlen,t0,t1,t2,t7]
  subst hZ
  simp only [sxZ,z6,z7,z8,j4,j5,j6,j7,j8,j9,x0,x3,x4,x5,x6,x7,reduceCtorEq,↓reduceIte,List.getElem?_set,hlen,t0,t1,t2,t7]
  refine hk f' _ hp htop fun h => hp_end (hheap h) fun c hc hcn => ?_
  exact zcX (hmin c hc hcn) hl
 | true =>
  simp only [sxZ,z6,z7,z8,j4,j5,j6,j7,j8,j9,x0,x3,x4,x5,x6,x7,reduceCtorEq,↓reduceIte,List.getElem?_set,hlen,t0,t1,t2,t7]
  subst hY
  refine zaa fun Y hY => ?_
  simp only [sxZ,z6,z7,z8,j4,j5,j6,j7,j8,j9,x0,x3,x4,x5,x6,x7,reduceCtorEq,↓reduceIte,List.getElem?_set,hlen,t0,t1,t2,t7,t9]
  refine kinv rfl (zjb (by omega) (by omega) hm ?_)
  simp only [sxZ,z6,z7,z8,j4,j5,j6,j7,j8,j9,x0,x3,x4,x5,x6,x7,reduceCtorEq,↓reduceIte,List.getElem?_set,hlen,t0,t1,t2,t7,t9]
  subst hY
  simp only [sxZ,z6,z7,z8,j4,j5,j6,j7,j8,j9,x0,x3,x4,x5,x6,x7,reduceCtorEq,↓reduceIte,List.getElem?_set,hlen,t0,t1,t2,t7,t9,List.length_set,and_self]
  exact ⟨m + 1 - j,by omega,j,swF f' i j,rfl,by omega,by omega,rfl,hp.trans (Prm.sw f' (by omega) (by omega)),fun k hk => by
   unfold swF
   rw [if_neg (by omega),if_neg (by omega)]; exact htop k hk,fun h => hp_step hai (hheap h) hj hjn hmin hl,rfl⟩
end
end
section
attribute [local irreducible] run
def zc9 (L:List En) (p:Nat):Prop:=p < L.length ∧ ∀ a,a < L.length → ltE L a p=false
theorem zgU {L:List En} {p q:Nat} (hp:zc9 L p) (hq:zc9 L q):p=q:=by
 have h1:=hp.2 q hq.1
 have h2:=hq.2 p hp.1
 unfold ltE at h1 h2
 split at h1 <;> split at h2 <;> simp only [decide_eq_false_iff_not] at h1 h2 <;> omega
theorem zcY (L:List En):∀ n,n < L.length → ∃ p,p ≤ n ∧ ∀ a,a ≤ n → ltE L a p=false
 | 0,h => ⟨0,Nat.le_refl _,fun a ha => by
  obtain rfl:a=0:=by omega
  unfold ltE; rw [if_pos rfl]; exact decide_eq_false (by omega)⟩
 | n + 1,h => by
  obtain ⟨p,h1,h2⟩:=zcY L n (by omega)
  cases c:ltE L (n + 1) p with
  | true =>
   refine ⟨n + 1,Nat.le_refl _,fun a ha => ?_⟩
   rcases Nat.eq_or_lt_of_le ha with rfl | hlt
   ·unfold ltE; rw [if_pos rfl]; exact decide_eq_false (by omega)
   ·exact zcX (h2 a (by omega)) (zdO c)
  | false =>
   refine ⟨p,by omega,fun a ha => ?_⟩
   rcases Nat.eq_or_lt_of_le ha with rfl | hlt
   ·exact c
   ·exact h2 a (by omega)
noncomputable def zch (L:List En):Nat:=Classical.epsilon (zc9 L)
theorem zei {L:List En} (h:0 < L.length):zc9 L (zch L):=by
 obtain ⟨p,h1,h2⟩:=zcY L (L.length - 1) (by omega)
 exact Classical.epsilon_spec (p:=zc9 L) ⟨p,by omega,fun a ha => h2 a (by omega)⟩
theorem zik {L:List En} {p:Nat} (h:zc9 L p):zch L=p:=zgU (Classical.epsilon_spec (p:=zc9 L) ⟨p,h⟩) h
section
variable [Tabs Tryz.prog] {L:List En}
theorem hInit_k {K:List OB → AV → Prop} {f:Nat → Nat} {m g:Nat} (hm:m ≤ 1000000) (hf:∀ k,k < m → f k < L.length)
  (hk:∀ f',Prm m f f' → Hp L m 0 f' → K (hO L f' m g) (.tup [])):zae Tryz.prog 60 [.ip 98 0 0] (hO L f m g) K:=by
 refine za3 is_container_heap_Init fun C _ => ?_
 rw [c_container_heap_Init]
 refine zaa fun Z hZ => ?_
 simp only [sxZ,z6,z7,z8,j4,j5,j6,j7,j8,j9,x0,x3,x4,x5,x6,x7,reduceCtorEq,↓reduceIte]
 refine kinv rfl (hLen_k ?_)
 simp only [sxZ,z6,z7,z8,j4,j5,j6,j7,j8,j9,x0,x3,x4,x5,x6,x7,reduceCtorEq,↓reduceIte]
 subst hZ
 refine zaa fun Z hZ => ?_
 have ht:((m:Int).tdiv 2)=((m / 2:Nat):Int):=by
  rw [Int.tdiv_eq_ediv_of_nonneg (by omega)]; omega
 simp only [sxZ,z6,z7,z8,j4,j5,j6,j7,j8,j9,x0,x3,x4,x5,x6,x7,reduceCtorEq,↓reduceIte,ht]
 refine ⟨by omega,by omega,?_⟩
 subst hZ
 simp only [sxZ,z6,z7,z8,j4,j5,j6,j7,j8,j9,x0,x3,x4,x5,x6,x7,reduceCtorEq,↓reduceIte]
 refine zaF (fun q o tm => ∃ (k:Nat) (f':Nat → Nat),q=k ∧ k ≤ m ∧ o=hO L f' m g ∧ Prm m f f' ∧ Hp L m k f' ∧ tm.length=17 ∧ tm[0]? = some (.ip 98 0 0) ∧ tm[2]? = some (.i .i64 m) ∧ tm[3]? = some (.i .i64 ((k:Int) - 1))) (m / 2) ⟨m / 2,f,rfl,by omega,rfl,Prm.refl m f,fun i hi c hc hn => by omega,rfl,rfl,rfl,rfl⟩ ?_
 rintro k _ tm ⟨_,f',rfl,hkm,rfl,hp,hheap,hlen,t0,t2,t3⟩
 refine zaa fun Y hY => ?_
 by_cases h0:k=0
 ·subst h0
  have hn:¬ (0:Int) ≤ ((0:Nat):Int) - 1:=by omega
  simp only [sxZ,z6,z7,z8,j4,j5,j6,j7,j8,j9,x0,x3,x4,x5,x6,x7,reduceCtorEq,↓reduceIte,List.getElem?_set,hlen,t3,hn]
  exact hk f' hp hheap
 ·have hn:(0:Int) ≤ (k:Int) - 1:=by omega
  simp only [sxZ,z6,z7,z8,j4,j5,j6,j7,j8,j9,x0,x3,x4,x5,x6,x7,reduceCtorEq,↓reduceIte,List.getElem?_set,hlen,t0,t2,t3,hn]
  subst hY
  simp only [sxZ,z6,z7,z8,j4,j5,j6,j7,j8,j9,x0,x3,x4,x5,x6,x7,reduceCtorEq,↓reduceIte,List.getElem?_set,hlen,t0,t2,t3,hn]
  rw [show ((k:Int) - 1)=((k - 1:Nat):Int) by omega]
  refine zap (zjd (Nat.le_refl _) (by omega) hm (hp.lt hf) fun f2 r hp2 htop hh => ?_)
  simp only [sxZ,z6,z7,z8,j4,j5,j6,j7,j8,j9,x0,x3,x4,x5,x6,x7,reduceCtorEq,↓reduceIte,List.getElem?_set,hlen,t0,t2,t3,hn]
  exact ⟨by omega,k - 1,by omega,k - 1,f2,rfl,by omega,rfl,hp.trans hp2,hh (by rw [show k - 1 + 1=k by omega]; exact hheap),by rw [show ((k:Int) - 1 - 1)=(((k - 1:Nat):Int) - 1) by omega]⟩
theorem hPopH_k {K:List OB → AV → Prop} {f:Nat → Nat} {m g:Nat} (h0:0 < m) (hm:m ≤ 1000000) (hf:∀ k,k < m → f k < L.length)
  (hk:∀ f',K (hO L f' (m - 1) (g + 1)) (.o (.iface 3 (.int .i64 (f 0:Nat))))):zae Tryz.prog 61 [.ip 98 0 0] (hO L f m g) K:=by
 refine za3 is_container_heap_Pop fun C _ => ?_
 rw [c_container_heap_Pop]
 refine zaa fun Z hZ => ?_
 simp only [sxZ,z6,z7,z8,j4,j5,j6,j7,j8,j9,x0,x3,x4,x5,x6,x7,reduceCtorEq,↓reduceIte]
 subst hZ
 refine zaa fun Z hZ => ?_
 simp only [sxZ,z6,z7,z8,j4,j5,j6,j7,j8,j9,x0,x3,x4,x5,x6,x7,reduceCtorEq,↓reduceIte]
 refine kinv rfl (hLen_k ?_)
 simp only [sxZ,z6,z7,z8,j4,j5,j6,j7,j8,j9,x0,x3,x4,x5,x6,x7,reduceCtorEq,↓reduceIte]
 have e1:(m:Int) - 1=((m - 1:Nat):Int):=by omega
 rw [e1]
 refine ⟨by omega,?_⟩
 subst hZ
 refine zaa fun Z hZ => ?_
 simp only [sxZ,z6,z7,z8,j4,j5,j6,j7,j8,j9,x0,x3,x4,x5,x6,x7,reduceCtorEq,↓reduceIte]
 refine kinv rfl (zjb (i:=0) h0 (by omega) hm ?_)
 simp only [sxZ,z6,z7,z8,j4,j5,j6,j7,j8,j9,x0,x3,x4,x5,x6,x7,reduceCtorEq,↓reduceIte]
 subst hZ
 refine zaa fun Z hZ => ?_
 simp only [sxZ,z6,z7,z8,j4,j5,j6,j7,j8,j9,x0,x3,x4,x5,x6,x7,reduceCtorEq,↓reduceIte]
 refine zap (zjd (a:=0) (by omega) (Nat.zero_le _) hm ((Prm.sw f h0 (by omega)).lt hf) fun f2 r hp2 htop hh => ?_)
 simp only [sxZ,z6,z7,z8,j4,j5,j6,j7,j8,j9,x0,x3,x4,x5,x6,x7,reduceCtorEq,↓reduceIte]
 subst hZ
 simp only [sxZ,z6,z7,z8,j4,j5,j6,j7,j8,j9,x0,x3,x4,x5,x6,x7,reduceCtorEq,↓reduceIte]
 refine kinv rfl (hPop_k h0 hm ?_)
 have e2:f2 (m - 1)=f 0:=by
  rw [htop (m - 1) (Nat.le_refl _)]
  unfold swF
  rw [if_pos rfl]
 rw [e2]
 simp only [sxZ,z6,z7,z8,j4,j5,j6,j7,j8,j9,x0,x3,x4,x5,x6,x7,reduceCtorEq,↓reduceIte]
 exact hk f2
theorem firstX_k {objs:List OB} {K:List OB → AV → Prop} (h0:0 < L.length) (hn:L.length ≤ 1000000) (hk:K objs (.i .i64 (zch L:Nat))):zae Tryz.prog 38 [.row L.length (ecs L)] objs K:=by
 refine zaU is_cache_firstToExpire (by simp only [zak,AV.plain,zat,Bool.and_self]) fun C _ => ?_
 rw [c_cache_firstToExpire]
 refine zaa fun Z hZ => ?_
 simp only [sxZ,z6,z7,z8,j4,j5,j6,j7,j8,j9,x0,x3,x4,x5,x6,x7,reduceCtorEq,↓reduceIte]
 subst hZ
 refine zaa fun Z hZ => ?_
 simp only [sxZ,z6,z7,z8,j4,j5,j6,j7,j8,j9,x0,x3,x4,x5,x6,x7,reduceCtorEq,↓reduceIte]
 subst hZ
 refine zaa fun Z hZ => ?_
 refine zba (fun o tm => o=hO L (fun k => k) L.length (L.length - 1) ∧ tm.length=37 ∧ tm[3]? = some (.p 0 0)) ?_ ?_
 ·refine zaa fun Y hY => ?_
  simp only [sxZ,z6,z7,z8,j4,j5,j6,j7,j8,j9,x0,x3,x4,x5,x6,x7,reduceCtorEq,↓reduceIte]
  subst hY
  simp only [sxZ,z6,z7,z8,j4,j5,j6,j7,j8,j9,x0,x3,x4,x5,x6,x7,reduceCtorEq,↓reduceIte]
  refine zaF (fun q o tm => ∃ m:Nat,q=L.length - m ∧ m ≤ L.length ∧ o=(if m=0 then [.box 101 [.row L.length (ecs L),.nil]] else hO L (fun k => k) m (m - 1)) ∧ tm.length=37 ∧ tm[3]? = some (.p 0 0) ∧ tm[11]? = some (.i .i64 L.length) ∧ tm[12]? = some (.i .i64 m)) L.length ⟨0,rfl,Nat.zero_le _,rfl,rfl,rfl,rfl,rfl⟩ ?_
  rintro q o tm ⟨m,rfl,hm,ho,hlen,t3,t11,t12⟩
  refine zaa fun Y hY => ?_
  by_cases hlt:m < L.length
  ·have hlt':(m:Int) < (L.length:Int):=by omega
   simp only [sxZ,z6,z7,z8,j4,j5,j6,j7,j8,j9,x0,x3,x4,x5,x6,x7,reduceCtorEq,↓reduceIte,List.getElem?_set,hlen,t3,t11,t12,hlt']
   subst hY
   have hps:=pc_snoc (fun k => k) m
   have hpl:=zb2 (fun k => k) m
   by_cases h1:m=0
   ·subst h1
    rw [if_pos rfl] at ho
    subst ho
    simp only [sxZ,z6,z7,z8,j4,j5,j6,j7,j8,j9,x0,x3,x4,x5,x6,x7,reduceCtorEq,↓reduceIte,List.getElem?_set,hlen,t3,t11,t12]
    exact ⟨by omega,L.length - 1,by omega,1,rfl,by omega,rfl,rfl⟩
   ·rw [if_neg h1] at ho
    subst ho
    unfold hO
    simp only [sxZ,z6,z7,z8,j4,j5,j6,j7,j8,j9,x0,x3,x4,x5,x6,x7,reduceCtorEq,↓reduceIte,List.getElem?_set,hlen,t3,t11,t12,hps]
    exact ⟨by omega,by omega,L.length - (m + 1),by omega,m + 1,rfl,by omega,by rw [if_neg (by omega),show m - 1 + 1=m + 1 - 1 by omega],rfl⟩
  ·have hlt':¬ (m:Int) < (L.length:Int):=by omega
   obtain rfl:m=L.length:=by omega
   rw [if_neg (by omega)] at ho
   subst ho
   simp only [sxZ,z6,z7,z8,j4,j5,j6,j7,j8,j9,x0,x3,x4,x5,x6,x7,reduceCtorEq,↓reduceIte,List.getElem?_set,hlen,t3,t11,t12,hlt',zai,zeA,and_self]
   subst hY
   simp only [sxZ,z6,z7,z8,j4,j5,j6,j7,j8,j9,x0,x3,x4,x5,x6,x7,reduceCtorEq,↓reduceIte,List.getElem?_set,hlen,t3,t11,t12,hlt',zai,zeA,and_self]
 rintro _ tm ⟨rfl,hlen,t3⟩
 subst hZ
 refine zaa fun Z hZ => ?_
 simp only [sxZ,z6,z7,z8,j4,j5,j6,j7,j8,j9,x0,x3,x4,x5,x6,x7,reduceCtorEq,↓reduceIte,List.getElem?_set,hlen,t3]
 refine zap (hInit_k hn (fun k h => h) fun f' hp hheap => ?_)
 simp only [sxZ,z6,z7,z8,j4,j5,j6,j7,j8,j9,x0,x3,x4,x5,x6,x7,reduceCtorEq,↓reduceIte,List.getElem?_set,hlen,t3]
 subst hZ
 refine zaa fun Z hZ => ?_
 simp only [sxZ,z6,z7,z8,j4,j5,j6,j7,j8,j9,x0,x3,x4,x5,x6,x7,reduceCtorEq,↓reduceIte,List.getElem?_set,hlen,t3]
 refine zap (hPopH_k h0 hn (hp.lt fun k h => h) fun f2 => ?_)
 have e:zch L=f' 0:=zik ⟨hp.lt (fun k h => h) 0 h0,fun a ha => by
  obtain ⟨k,hk',e⟩:=hp.2 a ha
  rw [show a=f' k from e]
  exact hp_min hheap k hk'⟩
 rw [e] at hk
 simp only [sxZ,z6,z7,z8,j4,j5,j6,j7,j8,j9,x0,x3,x4,x5,x6,x7,reduceCtorEq,↓reduceIte,List.getElem?_set,hlen,t3]
 subst hZ
 simp only [sxZ,z6,z7,z8,j4,j5,j6,j7,j8,j9,x0,x3,x4,x5,x6,x7,reduceCtorEq,↓reduceIte,List.getElem?_set,hlen,t3]
 exact hk
end
end
end Go.Proofs.YtbeoijfmfkifeaaGreatDoor
namespace Go.Proofs.YtbeoijfmfkifeaaGreatDoor
open Go.RowKit Go.Shelf Sx
theorem zbZ {P:Program} (w:World) (dT sT ty elem:TypeId) (sz b o dLen dCap:Nat) (a:Addr) (sLen sCap n:Nat) (cs:List Value)
  (hu:P.underlying dT=some (.slice elem)) (hs:(P.info? elem).map (·.size)=some sz) (hn:Nat.min sLen dLen=n) (hl:cs.length=n * sz)
  (hsrc:∀ j v,cs[j]? = some v → w.cell? (a.add j)=some v) (hc:∀ j,j < cs.length → (w.cell? ⟨b,o + j,none⟩).isSome=true) (hf:∀ j,j < cs.length → w.frozen? ⟨b,o + j,none⟩=false) (h1:∀ v ∈ cs,v.oneCell'=true) :
  (Builtin.copy_ #[dT,sT] ty #[.slice (some ⟨b,o,none⟩) dLen dCap,.slice (some a) sLen sCap]).run P w=.ok (goInt n) (w.setCells b o cs):=by
 have hld:=run_loadCells_list (P:=P) w a cs hsrc
 have hst:=run_storeCells_cells (P:=P) b o cs 0 w (by simpa using hc) (by simpa using hf) h1
 cases hq:P.info? elem with
 | none => simp [hq] at hs
 | some i =>
  have hi:i.size=sz:=by simpa [hq] using hs
  simp [Builtin.copy_,run_underlying hu,Builtin.lenOf,Builtin.firstCells,sizeOf,typeInfo,hq,hi,hn,← hl,hld,hst]
theorem zcv {P:Program} (w:World) (tS tR e:TypeId) (ht:P.underlying tS=some (.slice e)) (size:Nat) (hz:∀ w,(Go.sizeOf e).run P w=.ok size w)
  (a b:Addr) (la ca lb cb:Nat) (hne:a.block ≠ b.block) (cA cB:Array Value) (tA tB:TypeId) (f:Nat × Nat)
  (hA:w.heap[a.block]? = some (.cells cA tA f)) (hB:w.heap[b.block]? = some (.cells cB tB (0,0))) (hB0:cB.size ≠ 0) (hA0:cA.size ≠ 0) :
  (Extern.SlicesOverlaps.overlaps #[tS,tS] #[tR] #[.slice (some a) la ca,.slice (some b) lb cb]).run P w=.ok (.bool false) w:=by
 have hnb:(a.block != b.block)=true:=by simpa using hne
 have hnb':(a.block == b.block)=false:=by simpa using hne
 have hsa:w.shape? a.block=some (tA,cA.size):=by simp only [World.shape?,hA]
 have hsb:w.shape? b.block=some (tB,cB.size):=by simp only [World.shape?,hB]
 have hfb:w.frozen? b=false:=by simp [World.frozen?,hB]
 have hfe:w.frozen? { block:=b.block,off:=cB.size } = false:=by simp [World.frozen?,hB]
 obtain ⟨kB,hkB⟩:∃ k,cB.size=k + 1:=⟨cB.size - 1,by omega⟩
 obtain ⟨kA,hkA⟩:∃ k,cA.size=k + 1:=⟨cA.size - 1,by omega⟩
 rw [hkB] at hsb hfe
 rw [hkA] at hsa
 change Sem.run P (α:=Value) (do
  let some t := (#[tS, tS] : Array TypeId)[0]? | stuck "slices.overlaps: no parameter types"
  let .slice elem ← underlying t | stuck "slices.overlaps: slice type expected"
  let size ← sizeOf elem
  match (some a:Option Addr),(some b:Option Addr) with
  | some a,some b =>
   if la=0 ∨ lb=0 ∨ size=0 then pure (Value.bool false)
   else if a.block != b.block && (← frozen a) && (← frozen b) then unsupported .addressObserved
   else do
    if a.block != b.block then do
     noView a; noView b
     if ← mayBeOne a b then return Value.bool ((← choose (.extern "sameAddr.stringBytes" 2)) == 1)
    pure (Value.bool (a.block == b.block && a.off < b.off + lb * size && b.off < a.off + la * size))
  | _,_ => pure (Value.bool false)) w=_
 by_cases h0:la=0 ∨ lb=0 ∨ size=0
 ·simp [run_underlying ht,hz,h0]
 ·cases hfa:w.frozen? a <;> cases hfc:w.frozen? { block:=a.block,off:=kA + 1 } <;>
   simp [run_underlying ht,hz,h0,hnb,hnb',frozen,noView,viewAt,mayBeOne,stringish,shape,Sem.run,hsa,hsb,hfa,hfb,hfe,hfc]
theorem ziT {α:Type} (cur us:List α) (I N S:Nat) (hN:N + S ≤ cur.length) (hI:I ≤ N) (hu:us.length=S) {A:List α} (hA:A=cur.take (I + S) ++ (cur.take N).drop I ++ cur.drop (I + S + ((cur.take N).drop I).length)) :
  (A.take I ++ us ++ A.drop (I + us.length)).take (N + S)=(cur.take N).take I ++ us ++ (cur.take N).drop I:=by
 have e1:A.take I=cur.take I:=by
  rw [hA,List.append_assoc,List.take_append_of_le_length (by rw [List.length_take]; omega),List.take_take,Nat.min_eq_left (by omega)]
 have e2:A.drop (I + us.length)=(cur.take N).drop I ++ cur.drop (I + S + ((cur.take N).drop I).length):=by
  rw [hA,List.append_assoc,List.drop_left' (by rw [List.length_take]; omega)]
 rw [e1,e2,← List.append_assoc,List.take_left' (by simp only [List.length_append,List.length_take,List.length_drop]; omega),List.take_take,Nat.min_eq_left hI]
theorem ziS {α:Type} (R ys us:List α) (I N S:Nat) (hN:N + S ≤ R.length) (hI:I ≤ N) (hu:us.length=S) (hy:ys.length=N) (hR:R.take I=ys.take I) {A:List α} (hA:A=R.take I ++ us ++ R.drop (I + us.length)) :
  (A.take (I + S) ++ ys.drop I ++ A.drop (I + S + (ys.drop I).length)).take (N + S)=ys.take I ++ us ++ ys.drop I:=by
 have e1:A.take (I + S)=ys.take I ++ us:=by
  rw [hA,List.take_left' (by simp only [List.length_append,List.length_take]; omega),hR]
 rw [e1,List.take_left' (by simp only [List.length_append,List.length_take,List.length_drop]; omega)]
theorem za0 (w:World):w.drew.heap=w.heap:=rfl
theorem Tryz.infoE2:∃ (i0:TypeInfo) (z:Value),Tryz.prog.info? 43=some i0 ∧ i0.zero=some z ∧ z.cells.size=14 ∧ i0.size=14 ∧ i0.bytes=160:=by
 have h:(Tryz.prog.info? 43).map (fun i => (i.zero.map (·.cells.size),i.size,i.bytes))=some (some 14,14,160):=by kernel_rfl
 cases hi:Tryz.prog.info? 43 with
 | none => rw [hi] at h; cases h
 | some i0 =>
  rw [hi] at h
  simp only [Option.map_some,Option.some.injEq,Prod.mk.injEq] at h
  cases hz:i0.zero with
  | none => rw [hz] at h; cases h.1
  | some z =>
   rw [hz] at h
   simp only [Option.map_some,Option.some.injEq] at h
   exact ⟨i0,z,rfl,hz,h.1,h.2.1,h.2.2⟩
theorem Tryz.infoE:(Tryz.prog.info? 43).map (fun i => (i.size,i.bytes))=some (14,160):=by kernel_rfl
set_option maxHeartbeats 4000000 in
theorem zeV (g n c i vb voff cv:Nat) (cur:Array Value) (ys us:List Value) (w:World) (cA:Array Value) (tA:TypeId) (f:Nat × Nat)
  (hh:w.heap[g]? = some (.cells cur 43 (0,0))) (hcur:cur.size=c * 14) (hys:cur.toList.take (n * 14)=ys) (hA:w.heap[vb]? = some (.cells cA tA f)) (hA0:cA.size ≠ 0) (hvb:vb ≠ g)
  (hi:i < n) (hroom:n + 1 ≤ c) (hc63:c ≤ 9223372036854775807) (hus:us.length=14) (hsrc:∀ j u,us[j]? = some u → w.cell? ⟨vb,voff + j,none⟩=some u) (h1c:∀ v ∈ ys,v.oneCell'=true) (h1v:∀ v ∈ us,v.oneCell'=true) :
  Calls Tryz.prog 40 #[.slice (some ⟨g,0,none⟩) n c,.int .i64 i,.slice (some ⟨vb,voff,none⟩) 1 cv] w fun e w' =>
   e=.returned (.slice (some ⟨g,0,none⟩) (n + 1) c) ∧ w'=(w.drew.setCells g ((i + 1) * 14) (ys.drop (i * 14))).setCells g (i * 14) us:=by
 have hyl:ys.length=n * 14:=by
  rw [← hys,List.length_take,Array.length_toList,hcur]
  have:n * 14 ≤ c * 14:=Nat.mul_le_mul_right _ (by omega)
  omega
 have hcell:∀ j,j < (n + 1) * 14 → (w.cell? ⟨g,j,none⟩).isSome=true:=fun j hj => by
  have h1:j < cur.size:=by
   have:(n + 1) * 14 ≤ c * 14:=Nat.mul_le_mul_right _ hroom
   omega
  simp [World.cell?,hh,h1]
 have hys':∀ j u,ys[j]? = some u → w.cell? ⟨g,j,none⟩=some u:=fun j u hj => by
  rw [← hys,List.getElem?_take] at hj
  split at hj
  ·simp only [World.cell?,hh]; simpa using hj
  ·cases hj
 have hfz:∀ j,w.frozen? ⟨g,j,none⟩=false:=fun j => by simp [World.frozen?,hh]
 have hdl:(ys.drop (i * 14)).length=(n - i) * 14:=by rw [List.length_drop,hyl,Nat.sub_mul]
 have hz2:¬ ((i:Int)=(n:Int)):=by omega
 have mixed:Tryz.prog.follows Departure.mixedOrders=true:=by kernel_rfl
 have hsz:(Tryz.prog.info? 43).map (·.size)=some 14:=by
  obtain ⟨i0,hi0⟩:∃ i0,Tryz.prog.info? 43=some i0:=by
   cases h:Tryz.prog.info? 43 with
   | none => have:=Tryz.infoE; rw [h] at this; cases this
   | some x => exact ⟨x,rfl⟩
  have:=Tryz.infoE
  rw [hi0] at this ⊢
  simp only [Option.map_some,Option.some.injEq,Prod.mk.injEq] at this ⊢
  exact this.1
 have hov:∀ lb cb,(callFunc 62 #[.slice (some ⟨vb,voff,none⟩) 1 cv,.slice (some ⟨g,(i + 1) * 14,none⟩) lb cb]).run Tryz.prog w=.ok (.value (.bool false)) w:=fun lb cb => by
  rw [run_callFunc_extern Tryz.func62 (by kernel_rfl) (by kernel_rfl) (by kernel_rfl) (e:=Extern.SlicesOverlaps.overlaps #[22,22] #[4]) (by kernel_rfl),
   zcv w 22 4 43 (by kernel_rfl) 14 (fun w => by kernel_rfl) ⟨vb,voff,none⟩ ⟨g,(i + 1) * 14,none⟩ 1 cv lb cb hvb cA cur tA _ f hA hh (by rw [hcur]; omega) hA0]
  rfl
 have hcp1:∀ ty dc sc,(Builtin.copy_ #[22,22] ty #[.slice (some ⟨g,(i + 1) * 14,none⟩) (n - i) dc,.slice (some ⟨g,i * 14,none⟩) (n + 1 - i) sc]).run Tryz.prog w.drew=.ok (goInt (n - i:Nat)) (w.drew.setCells g ((i + 1) * 14) (ys.drop (i * 14))):=fun ty dc sc =>
  zbZ w.drew _ _ ty 43 14 g ((i + 1) * 14) (n - i) dc ⟨g,i * 14,none⟩ (n + 1 - i) sc (n - i) (ys.drop (i * 14)) (by kernel_rfl) hsz (by simp only [Nat.min_def]; split <;> omega) hdl
   (fun j u hj => by rw [Addr.add_lit]; exact hys' _ u (by rwa [List.getElem?_drop] at hj)) (fun j hj => hcell _ (by rw [hdl,Nat.sub_mul] at hj; omega)) (fun j hj => hfz _) (fun u hu => h1c u (List.mem_of_mem_drop hu))
 obtain ⟨W1,hW1⟩:∃ W1,W1=w.drew.setCells g ((i + 1) * 14) (ys.drop (i * 14)):=⟨_,rfl⟩
 have hsp1:∀ k,k < (n + 1) * 14 → (W1.cell? ⟨g,k,none⟩).isSome=true:=fun k hk => by
  rw [hW1]
  exact isSome_setCells g (ys.drop (i * 14)) ((i + 1) * 14) w.drew (fun j hj => hcell _ (by rw [hdl,Nat.sub_mul] at hj; omega)) _ (hcell k hk)
 have hcp2:∀ (W:World),(∀ x,W.cell? x=W1.cell? x) → (∀ x,W.frozen? x=W1.frozen? x) → ∀ ty dc,(Builtin.copy_ #[22,22] ty #[.slice (some ⟨g,i * 14,none⟩) (n + 1 - i) dc,.slice (some ⟨vb,voff,none⟩) 1 cv]).run Tryz.prog W=.ok (goInt (1:Nat)) (W.setCells g (i * 14) us):=fun W hWc hWf ty dc =>
  zbZ W _ _ ty 43 14 g (i * 14) (n + 1 - i) dc ⟨vb,voff,none⟩ 1 cv 1 us (by kernel_rfl) hsz (by simp only [Nat.min_def]; split <;> omega) (by omega)
   (fun j u hj => by rw [Addr.add_lit,hWc,hW1,World.cell?_setCells_out g _ _ _ _ (fun h _ => absurd h hvb)]; exact hsrc j u hj)
   (fun j hj => by rw [hWc]; exact hsp1 _ (by omega)) (fun j hj => by rw [hWf,hW1,World.frozen?_setCells]; exact hfz _) h1v
 rw [← hW1] at hcp1
 have hw1:IntKind.i64.wrap ((i:Int) + 1)=(i:Int) + 1:=by rw [IntKind.wrap_i64]; omega
 have hin:i ≤ n:=by omega
 have hb1:(0:Int) ≤ (i:Int) + 1:=by omega
 have htn:((i:Int) + 1).toNat=i + 1:=by omega
 have hb2:¬ (c=i + 1):=by omega
 have hb3:(i:Int) ≤ (n:Int) + 1:=by omega
 have hb4:¬ (c=i):=by omega
 go_enter Tryz.func40,Tryz.ntmps40
 go_wp2_with (simp only [hov])
 go_region_law_o (refine step_copy_runI rfl _ _ 22 22 rfl _ _ (by simp [Act.eval,Act.put]) (by simp [Act.eval,Act.put]) (hcp1 _ _ _) ?_)
 go_wp2_with (at_builtin; refine wpList_copy_runI _ rfl _ _ 22 22 rfl _ _ rfl rfl (hcp2 _ (fun _ => rfl) (fun _ => rfl) _ _) ?_)
 go_ret
 first | exact ⟨rfl,rfl⟩ | exact ⟨rfl,by rw [hW1]⟩
theorem zbo (cs:Array Value) (n:Nat):(Builtin.zeroCells cs n).size=n * cs.size:=by simp [Builtin.zeroCells]
set_option maxHeartbeats 4000000 in
theorem zeW (g n c i vb voff cv:Nat) (cur:Array Value) (ys us:List Value) (w:World)
  (hh:w.heap[g]? = some (.cells cur 43 (0,0))) (hcur:cur.size=c * 14) (hys:cur.toList.take (n * 14)=ys) (hvw:vb < w.heap.size)
  (hi:i < n) (hnc:n ≤ c) (hroom:c < n + 1) (hn:n ≤ 1000000) (hus:us.length=14) (hsrc:∀ j u,us[j]? = some u → w.cell? ⟨vb,voff + j,none⟩=some u) (h1c:∀ v ∈ ys,v.oneCell'=true) (h1v:∀ v ∈ us,v.oneCell'=true) :
  Calls Tryz.prog 40 #[.slice (some ⟨g,0,none⟩) n c,.int .i64 i,.slice (some ⟨vb,voff,none⟩) 1 cv] w fun e w' =>
   ∃ (G:Nat) (ROW:Array Value),n + 1 ≤ G ∧ G ≤ maxLen ∧ ROW.size=G * 14 ∧ ROW.toList.take (i * 14)=ys.take (i * 14) ∧ e=.returned (.slice (some ⟨w.heap.size,0,none⟩) (n + 1) G) ∧
    w'=(((w.alloc (.cells ROW 43)).drew.setCells w.heap.size (i * 14) us).drew).setCells w.heap.size ((i + 1) * 14) (ys.drop (i * 14)):=by
 obtain ⟨i0,z,hi0,hz0,hzs,hz1,hz2'⟩:=Tryz.infoE2
 have hgw:g < w.heap.size:=(Array.getElem?_eq_some_iff.1 hh).1
 have hyl:ys.length=n * 14:=by
  rw [← hys,List.length_take,Array.length_toList,hcur]
  have:n * 14 ≤ c * 14:=Nat.mul_le_mul_right _ (by omega)
  omega
 have hys':∀ j u,ys[j]? = some u → w.cell? ⟨g,j,none⟩=some u:=fun j u hj => by
  rw [← hys,List.getElem?_take] at hj
  split at hj
  ·simp only [World.cell?,hh]; simpa using hj
  ·cases hj
 have hdl:(ys.drop (i * 14)).length=(n - i) * 14:=by rw [List.length_drop,hyl,Nat.sub_mul]
 have hz2:¬ ((i:Int)=(n:Int)):=by omega
 have hz3:(c:Int) < (n:Int) + 1:=by omega
 have mixed:Tryz.prog.follows Departure.mixedOrders=true:=by kernel_rfl
 have hsz:(Tryz.prog.info? 43).map (·.size)=some 14:=by rw [hi0,Option.map_some,hz1]
 have hkk:(n:Int) + 1 - (i:Int)=((n + 1 - i:Nat):Int):=by omega
 have hik:i + (n + 1 - i)=n + 1:=by omega
 have hold:(Builtin.firstCells i0.size i (.slice (some ⟨g,0,none⟩) i c)).run Tryz.prog w.drew=.ok (ys.take (i * 14)).toArray w.drew:=by
  rw [hz1]
  exact run_firstCells_some w.drew 14 i ⟨g,0,none⟩ i c (ys.take (i * 14)) (by rw [List.length_take,hyl]; omega) (fun j v hj => by
   rw [Addr.add_lit,Nat.zero_add]
   rw [List.getElem?_take] at hj
   split at hj
   ·exact hys' j v hj
   ·cases hj)
 have hrz:∀ ty,(Builtin.append_ #[22,3] ty #[.slice (some ⟨g,0,none⟩) i c,.int .i64 ((n:Int) + 1 - (i:Int))]).run Tryz.prog w =
   .ok (.slice (some ⟨w.heap.size,0,none⟩) (n + 1) (grownCap w (n + 1) c 43)) (w.drew.alloc (.cells ((ys.take (i * 14)).toArray ++ Builtin.zeroCells z.cells (n + 1 - i) ++ Builtin.zeroCells z.cells (grownCap w (n + 1) c 43 - (n + 1))) 43)):=fun ty => by
  have h:=Lib.run_append_grow_zeros (P:=Tryz.prog) w 22 3 ty 43 i0 z .i64 .i64 (by kernel_rfl) (by kernel_rfl) hi0 hz0 (some ⟨g,0,none⟩) i c (ys.take (i * 14)) hold (n + 1 - i) (by omega) (by omega) (by omega) (by omega) (by rw [hz2']; omega) (by rw [hz2',hik]; exact growslice_fits hroom (by omega))
  rw [hik] at h
  rw [hkk]
  exact h
 obtain ⟨G,hG⟩:∃ G,G=grownCap w (n + 1) c 43:=⟨_,rfl⟩
 obtain ⟨ROW,hROW⟩:∃ ROW:Array Value,ROW=(ys.take (i * 14)).toArray ++ Builtin.zeroCells z.cells (n + 1 - i) ++ Builtin.zeroCells z.cells (G - (n + 1)):=⟨_,rfl⟩
 rw [← hG] at hrz
 rw [← hROW] at hrz
 have hGn:n + 1 ≤ G:=by rw [hG]; exact grownCap_ge w _ _ _
 have hGm:G ≤ maxLen:=by rw [hG]; exact grownCap_le_maxLen w (n + 1) c 43 (by unfold maxLen; omega)
 have hG63:G ≤ 9223372036854775807:=by unfold maxLen at hGm; omega
 have hRs:ROW.size=G * 14:=by
  rw [hROW]
  simp only [Array.size_append,zbo,hzs,List.size_toArray,List.length_take,hyl]
  omega
 have hRt:ROW.toList.take (i * 14)=ys.take (i * 14):=by
  rw [hROW]
  simp only [Array.toList_append,List.append_assoc]
  rw [List.take_left' (by rw [List.length_take,hyl]; omega)]
 obtain ⟨W1,hW1⟩:∃ W1,W1=w.drew.alloc (.cells ROW 43):=⟨_,rfl⟩
 rw [← hW1] at hrz
 have hN:∀ j,j < (n + 1) * 14 → (W1.cell? ⟨w.heap.size,j,none⟩).isSome=true:=fun j hj => by
  rw [hW1,World.cell?_alloc_at (w:=w.drew) ROW _ w.heap.size j rfl,Array.getElem?_eq_getElem (by omega)]; rfl
 have hNf:∀ j,W1.frozen? ⟨w.heap.size,j,none⟩=false:=fun j => by rw [hW1]; exact World.frozen?_alloc_at (w:=w.drew) ROW _ w.heap.size j rfl
 have hOb:∀ j v,w.cell? ⟨g,j,none⟩=some v → W1.cell? ⟨g,j,none⟩=some v:=fun j v h => by rw [hW1,World.cell?_alloc_past (w:=w.drew) _ g j hgw]; exact h
 have hOv:∀ j v,w.cell? ⟨vb,j,none⟩=some v → W1.cell? ⟨vb,j,none⟩=some v:=fun j v h => by rw [hW1,World.cell?_alloc_past (w:=w.drew) _ vb j hvw]; exact h
 have hcpA:∀ (W:World),(∀ x,W.cell? x=W1.cell? x) → (∀ x,W.frozen? x=W1.frozen? x) → ∀ ty dc,(Builtin.copy_ #[22,22] ty #[.slice (some ⟨w.heap.size,i * 14,none⟩) (n + 1 - i) dc,.slice (some ⟨vb,voff,none⟩) 1 cv]).run Tryz.prog W=.ok (goInt (1:Nat)) (W.setCells w.heap.size (i * 14) us):=fun W hWc hWf ty dc =>
  zbZ W _ _ ty 43 14 w.heap.size (i * 14) (n + 1 - i) dc ⟨vb,voff,none⟩ 1 cv 1 us (by kernel_rfl) hsz (by simp only [Nat.min_def]; split <;> omega) (by omega)
   (fun j v hj => by rw [Addr.add_lit,hWc]; exact hOv _ v (hsrc j v hj))
   (fun j hj => by rw [hWc]; exact hN _ (by omega)) (fun j hj => by rw [hWf]; exact hNf _) h1v
 have hGi:¬ (G=i):=by omega
 have hGim:¬ (G=i + 1):=by omega
 have hci:¬ (c=i):=by omega
 have hbN:g ≠ w.heap.size:=by omega
 have hcpB:∀ (W:World),(∀ x,W.cell? x=(W1.setCells w.heap.size (i * 14) us).cell? x) → (∀ x,W.frozen? x=(W1.setCells w.heap.size (i * 14) us).frozen? x) → ∀ ty dc sc,(Builtin.copy_ #[22,22] ty #[.slice (some ⟨w.heap.size,(i + 1) * 14,none⟩) (n - i) dc,.slice (some ⟨g,i * 14,none⟩) (n - i) sc]).run Tryz.prog W=.ok (goInt (n - i:Nat)) (W.setCells w.heap.size ((i + 1) * 14) (ys.drop (i * 14))):=fun W hWc hWf ty dc sc =>
  zbZ W _ _ ty 43 14 w.heap.size ((i + 1) * 14) (n - i) dc ⟨g,i * 14,none⟩ (n - i) sc (n - i) (ys.drop (i * 14)) (by kernel_rfl) hsz (by simp only [Nat.min_def]; split <;> omega) hdl
   (fun j v hj => by
    rw [Addr.add_lit,hWc,World.cell?_setCells_out _ _ _ _ _ (fun h _ => absurd h hbN)]
    exact hOb _ v (hys' (i * 14 + j) v (by rwa [List.getElem?_drop] at hj)))
   (fun j hj => by rw [hWc]; exact isSome_setCells w.heap.size us (i * 14) W1 (fun t ht => hN _ (by omega)) _ (hN _ (by rw [hdl,Nat.sub_mul] at hj; omega)))
   (fun j hj => by rw [hWf,World.frozen?_setCells]; exact hNf _) (fun v hv => h1c v (List.mem_of_mem_drop hv))
 subst hW1
 have hE1:∀ x,((w.alloc (.cells ROW 43)).drew).cell? x=(w.drew.alloc (.cells ROW 43)).cell? x:=fun x => rfl
 have hE2:∀ x,((w.alloc (.cells ROW 43)).drew).frozen? x=(w.drew.alloc (.cells ROW 43)).frozen? x:=fun x => rfl
 have hF1:∀ x,(((w.alloc (.cells ROW 43)).drew.setCells w.heap.size (i * 14) us).drew).cell? x=((w.drew.alloc (.cells ROW 43)).setCells w.heap.size (i * 14) us).cell? x:=fun x => rfl
 have hF2:∀ x,(((w.alloc (.cells ROW 43)).drew.setCells w.heap.size (i * 14) us).drew).frozen? x=((w.drew.alloc (.cells ROW 43)).setCells w.heap.size (i * 14) us).frozen? x:=fun x => rfl
 have hw1:IntKind.i64.wrap ((i:Int) + 1)=(i:Int) + 1:=by rw [IntKind.wrap_i64]; omega
 have hb1:(0:Int) ≤ (i:Int) + 1:=by omega
 have hin:i ≤ n:=by omega
 have htn:((i:Int) + 1).toNat=i + 1:=by omega
 have hb3:(i:Int) ≤ (n:Int):=by omega
 clear hkk hik hold hROW hG
 go_enter Tryz.func40,Tryz.ntmps40
 go_wp2_with (first
  | (at_builtin; refine Lib.wpList_append_run _ rfl _ _ _ _ rfl _ _ rfl rfl _ _ (hrz _) ?_)
  | (at_builtin; refine wpList_copy_runI _ rfl _ _ 22 22 rfl _ _ rfl rfl (hcpA _ hE1 hE2 _ _) ?_)
  | (at_builtin; refine wpList_copy_runI _ rfl _ _ 22 22 rfl _ _ rfl rfl (hcpB _ (fun _ => rfl) (fun _ => rfl) _ _ _) ?_))
 go_region_law_o (refine step_copy_runI rfl _ _ 22 22 rfl (.slice (some ⟨w.heap.size,(i + 1) * 14,none⟩) (n - i) (G - (i + 1))) (.slice (some ⟨g,i * 14,none⟩) (n - i) (c - i)) (by simp [Act.eval,Act.put]) (by simp [Act.eval,Act.put]) (hcpB _ hF1 hF2 3 (G - (i + 1)) (c - i)) ?_)
 go_wp2
 go_ret
 exact ⟨G,ROW,hGn,hGm,hRs,hRt,rfl,rfl⟩
set_option maxHeartbeats 4000000 in
theorem zgW (v:Value) (n vb voff cv:Nat) (ys us:List Value) (w:World) (hown:w.ownsRow 0 43 14 v n ys) (hn:n ≤ 1000000) (hus:us.length=14)
  (hsrc:∀ j u,us[j]? = some u → w.cell? ⟨vb,voff + j,none⟩=some u) (h1v:∀ v ∈ us,v.oneCell'=true) :
  Calls Tryz.prog 40 #[v,.int .i64 n,.slice (some ⟨vb,voff,none⟩) 1 cv] w fun e w' =>
   ∃ v',e=.returned v' ∧ w'.ownsRow 0 43 14 v' (n + 1) (ys ++ us) ∧ w.grownBy w' v.ownBlock ∧ (v'.ownBlock=v.ownBlock ∨ v'.ownBlock=some w.heap.size):=by
 obtain ⟨i0,z,hi0,hz0,hzs,hz1,hz2'⟩:=Tryz.infoE2
 have mixed:Tryz.prog.follows Departure.mixedOrders=true:=by kernel_rfl
 have hap:∀ ty,∃ v' w',(Builtin.append_ #[22,22] ty #[v,.slice (some ⟨vb,voff,none⟩) 1 cv]).run Tryz.prog w=.ok v' w' ∧ w'.ownsRow 0 43 14 v' (n + 1) (ys ++ us) ∧ w.grownBy w' v.ownBlock ∧ (v'.ownBlock=v.ownBlock ∨ v'.ownBlock=some w.heap.size):=fun ty => by
  obtain ⟨v',w',r1,r2,r3,_,r5⟩:=run_append_own_at (P:=Tryz.prog) w 0 22 ty 43 i0 z 14 160 (by kernel_rfl) hi0 hz0 hz1 hz2' hzs (by decide) v n ys hown ⟨vb,voff,none⟩ 1 cv us (by omega) (fun j u hj => by rw [Addr.add_lit]; exact hsrc j u hj) h1v (by unfold maxLen; omega) (by omega) (Nat.zero_le _)
  exact ⟨v',w',r1,r2,r3,r5⟩
 obtain ⟨v',w1,hrun,r2,r3,r5⟩:=hap 22
 rcases hown.2 with ⟨rfl,rfl⟩ | ⟨g,cap,cur,rfl,_,hh,hnc,hcm,_,_⟩
 ·go_enter Tryz.func40,Tryz.ntmps40
  go_wp2_with (at_builtin; refine Lib.wpList_append_run _ rfl _ _ _ _ rfl _ _ rfl rfl _ _ hrun ?_)
  go_ret
  exact ⟨v',rfl,r2,r3,r5⟩
 ·have hc63:cap ≤ 9223372036854775807:=by unfold maxLen at hcm; omega
  go_enter Tryz.func40,Tryz.ntmps40
  go_wp2_with (at_builtin; refine Lib.wpList_append_run _ rfl _ _ _ _ rfl _ _ rfl rfl _ _ hrun ?_)
  all_goals (go_ret; exact ⟨v',rfl,r2,r3,r5⟩)
theorem zdq (v:Value) (n i vb voff cv:Nat) (ys us:List Value) (w:World) (cA:Array Value) (tA:TypeId) (f:Nat × Nat) (hown:w.ownsRow 0 43 14 v n ys) (hA:w.heap[vb]? = some (.cells cA tA f)) (hA0:cA.size ≠ 0) (hvb:v.ownBlock ≠ some vb)
  (hi:i ≤ n) (hn:n ≤ 1000000) (hus:us.length=14) (hsrc:∀ j u,us[j]? = some u → w.cell? ⟨vb,voff + j,none⟩=some u) (h1c:∀ v ∈ ys,v.oneCell'=true) (h1v:∀ v ∈ us,v.oneCell'=true) :
  Calls Tryz.prog 40 #[v,.int .i64 i,.slice (some ⟨vb,voff,none⟩) 1 cv] w fun e w' =>
   ∃ v',e=.returned v' ∧ w'.ownsRow 0 43 14 v' (n + 1) (ys.take (i * 14) ++ us ++ ys.drop (i * 14)) ∧ w.grownBy w' v.ownBlock ∧ (v'.ownBlock=v.ownBlock ∨ v'.ownBlock=some w.heap.size):=by
 have hyl:=hown.1
 rcases Nat.lt_or_ge i n with hlt | hge
 ·have hd14:i * 14 ≤ n * 14:=Nat.mul_le_mul_right _ hi
  rcases hown.2 with ⟨rfl,rfl⟩ | ⟨g,cap,cur,rfl,hb,hh,hnc,hcm,hcs,hcy⟩
  ·omega
  have hvb':vb ≠ g:=by intro e; exact hvb (by rw [e]; rfl)
  have hvw:vb < w.heap.size:=(Array.getElem?_eq_some_iff.1 hA).1
  have hgw:g < w.heap.size:=(Array.getElem?_eq_some_iff.1 hh).1
  have hc14:n * 14 ≤ cap * 14:=Nat.mul_le_mul_right _ hnc
  have hh':w.heap[g]? = some (.cells cur.toList.toArray 43 (0,0)):=by simpa using hh
  have hlt14:(i + 1) * 14 ≤ n * 14:=Nat.mul_le_mul_right _ hlt
  have hdl:(ys.drop (i * 14)).length=n * 14 - i * 14:=by rw [List.length_drop,hyl]
  have hlen:(ys.take (i * 14) ++ us ++ ys.drop (i * 14)).length=(n + 1) * 14:=by
   simp only [List.length_append,List.length_take,List.length_drop,hyl,hus]
   omega
  rcases Nat.lt_or_ge cap (n + 1) with hroom | hroom
  ·refine (zeW g n cap i vb voff cv cur ys us w hh hcs hcy hvw hlt hnc hroom hn hus hsrc h1c h1v).mono ?_
   rintro e w' ⟨G,ROW,hGn,hGm,hRs,hRt,rfl,rfl⟩
   have hG14:(n + 1) * 14 ≤ G * 14:=Nat.mul_le_mul_right _ hGn
   have e0:((w.alloc (.cells ROW 43)).drew).heap[w.heap.size]? = some (.cells ROW.toList.toArray 43 (0,0)):=by
    rw [za0,heap_alloc_new]
   obtain ⟨s1,s2,s3,s4,s5,s6⟩:=zau w.heap.size 43 us (i * 14) _ ROW.toList e0 (by rw [hus,Array.length_toList,hRs]; omega)
   obtain ⟨A,hAe⟩:∃ A,A=ROW.toList.take (i * 14) ++ us ++ ROW.toList.drop (i * 14 + us.length):=⟨_,rfl⟩
   rw [← hAe] at s1
   have hAl:A.length=G * 14:=by
    rw [hAe]
    simp only [List.length_append,List.length_take,List.length_drop,Array.length_toList,hRs,hus]
    omega
   obtain ⟨q1,q2,q3,q4,q5,q6⟩:=zau w.heap.size 43 (ys.drop (i * 14)) ((i + 1) * 14) (((w.alloc (.cells ROW 43)).drew.setCells w.heap.size (i * 14) us).drew) A (by rw [za0]; exact s1) (by rw [hdl,hAl]; omega)
   refine ⟨_,rfl,⟨hlen,.inr ⟨w.heap.size,G,_,rfl,Nat.zero_le _,q1,hGn,hGm,?_,?_⟩⟩,⟨q4.trans s4,q5.trans s5,q6.trans s6,?_,fun k hk _ => ?_⟩,.inr rfl⟩
   ·simp only [List.size_toArray,List.length_append,List.length_take,List.length_drop,hAl,hyl]
    omega
   ·rw [List.toList_toArray]
    have:=ziS ROW.toList ys us (i * 14) (n * 14) 14 (by rw [Array.length_toList,hRs]; omega) hd14 hus hyl hRt hAe
    rw [show (n + 1) * 14=n * 14 + 14 by omega,show (i + 1) * 14=i * 14 + 14 by omega]
    exact this
   ·rw [q3,za0,s3,za0,World.size_alloc]
    omega
   ·rw [q2 k (by omega),za0,s2 k (by omega),za0]
    exact Below.heap_alloc w _ k hk
  ·refine (zeV g n cap i vb voff cv cur ys us w cA tA f hh hcs hcy hA hA0 hvb' hlt hroom (by unfold maxLen at hcm; omega) hus hsrc h1c h1v).mono ?_
   rintro e w' ⟨rfl,rfl⟩
   have hr14:(n + 1) * 14 ≤ cap * 14:=Nat.mul_le_mul_right _ hroom
   obtain ⟨s1,s2,s3,s4,s5,s6⟩:=zau g 43 (ys.drop (i * 14)) ((i + 1) * 14) w.drew cur.toList (by rw [za0]; exact hh') (by rw [hdl,Array.length_toList,hcs]; omega)
   obtain ⟨A,hAe⟩:∃ A,A=cur.toList.take ((i + 1) * 14) ++ ys.drop (i * 14) ++ cur.toList.drop ((i + 1) * 14 + (ys.drop (i * 14)).length):=⟨_,rfl⟩
   rw [← hAe] at s1
   have hAl:A.length=cap * 14:=by
    rw [hAe]
    simp only [List.length_append,List.length_take,Array.length_toList,hcs,hdl,List.length_drop (i:=(i + 1) * 14 + (n * 14 - i * 14))]
    omega
   obtain ⟨q1,q2,q3,q4,q5,q6⟩:=zau g 43 us (i * 14) (w.drew.setCells g ((i + 1) * 14) (ys.drop (i * 14))) A s1 (by rw [hus,hAl]; omega)
   refine ⟨_,rfl,⟨hlen,.inr ⟨g,cap,_,rfl,Nat.zero_le _,q1,hroom,hcm,?_,?_⟩⟩,⟨q4.trans s4,q5.trans s5,q6.trans s6,?_,fun k hk hne => ?_⟩,.inl rfl⟩
   ·simp only [List.size_toArray,List.length_append,List.length_take,List.length_drop,hAl,hus]
    omega
   ·rw [List.toList_toArray]
    have:=ziT cur.toList us (i * 14) (n * 14) 14 (by rw [Array.length_toList,hcs]; omega) hd14 hus (A:=A) (by rw [hAe,hcy,show (i + 1) * 14=i * 14 + 14 by omega])
    rw [hcy] at this
    rw [show (n + 1) * 14=n * 14 + 14 by omega]
    exact this
   ·rw [q3,s3]; exact Nat.le_refl _
   ·have hkg:k ≠ g:=by rintro rfl; exact hne rfl
    rw [q2 k hkg,s2 k hkg]; rfl
 ·obtain rfl:i=n:=by omega
  have e1:ys.take (i * 14)=ys:=List.take_of_length_le (by omega)
  have e2:ys.drop (i * 14)=[]:=List.drop_of_length_le (by omega)
  rw [e1,e2,List.append_nil]
  exact zgW v i vb voff cv ys us w hown hn hus hsrc h1v
end Go.Proofs.YtbeoijfmfkifeaaGreatDoor
namespace Go.Proofs.YtbeoijfmfkifeaaGreatDoor
open Go.RowKit Go.Shelf Sx
theorem zdg {P:Program} (w:World) (t e ty:TypeId) (z:Value) (ht:P.underlying t=some (.slice e)) (hv:∀ w,(zeroValue e).run P w=.ok z w) (zs:List Value) (n b o c:Nat) (hn:0 < n) (hz:(Builtin.zeroCells z.cells n).toList=zs) (h1:∀ v ∈ zs,v.oneCell'=true)
  (hc:∀ j,j < zs.length → (w.cell? ⟨b,o + j,none⟩).isSome=true) (hf:∀ j,j < zs.length → w.frozen? ⟨b,o + j,none⟩=false) :
  (Builtin.clear_ #[t] ty #[.slice (some ⟨b,o,none⟩) n c]).run P w=.ok (.tuple #[]) (w.setCells b o zs):=by
 have hst:=run_storeCells_cells (P:=P) b o zs 0 w (by simpa using hc) (by simpa using hf) h1
 simp only [Nat.add_zero] at hst
 obtain ⟨m,rfl⟩:∃ m,n=m + 1:=⟨n - 1,by omega⟩
 simp [Builtin.clear_,run_underlying ht,hv,hz,hst]
theorem Tryz.zeroE:∃ (z:Value) (zs:List Value),(∀ w,(zeroValue 43).run Tryz.prog w=.ok z w) ∧ (Builtin.zeroCells z.cells 1).toList=zs ∧ zs.length=14 ∧ ∀ v ∈ zs,v.oneCell'=true:=by
 obtain ⟨i0,z,hi0,hz0,hzs,hz1,hz2'⟩:=Tryz.infoE2
 refine ⟨z,_,fun w => by simp [zeroValue,typeInfo,hi0,hz0],rfl,by rw [Array.length_toList,zbo,hzs],?_⟩
 have h:(Tryz.prog.info? 43).bind (·.zero)=some z:=by rw [hi0]; exact hz0
 have h2:((Tryz.prog.info? 43).bind (·.zero)).map (fun z => (Builtin.zeroCells z.cells 1).toList.all (·.oneCell'))=some true:=by kernel_rfl
 rw [h,Option.map_some,Option.some.injEq,List.all_eq_true] at h2
 exact h2
set_option maxHeartbeats 4000000 in
theorem zgX (g n c i:Nat) (cur:Array Value) (ys zs:List Value) (w:World) (z:Value) (hv:∀ w,(zeroValue 43).run Tryz.prog w=.ok z w) (hz:(Builtin.zeroCells z.cells 1).toList=zs) (hzl:zs.length=14) (hz1:∀ v ∈ zs,v.oneCell'=true)
  (hh:w.heap[g]? = some (.cells cur 43 (0,0))) (hcur:cur.size=c * 14) (hys:cur.toList.take (n * 14)=ys)
  (hi:i < n) (hnc:n ≤ c) (hc63:c ≤ 9223372036854775807) (h1c:∀ v ∈ ys,v.oneCell'=true) :
  Calls Tryz.prog 39 #[.slice (some ⟨g,0,none⟩) n c,.int .i64 i,.int .i64 ((i:Int) + 1)] w fun e w' =>
   e=.returned (.slice (some ⟨g,0,none⟩) (n - 1) c) ∧ w'=(w.drew.setCells g (i * 14) (ys.drop ((i + 1) * 14))).setCells g ((n - 1) * 14) zs:=by
 obtain ⟨i0,z0,hi0,_,_,hs0,_⟩:=Tryz.infoE2
 have mixed:Tryz.prog.follows Departure.mixedOrders=true:=by kernel_rfl
 have t22:Tryz.prog.underlying 22=some (.slice 43):=by kernel_rfl
 have hyl:ys.length=n * 14:=by
  rw [← hys,List.length_take,Array.length_toList,hcur]
  have:n * 14 ≤ c * 14:=Nat.mul_le_mul_right _ (by omega)
  omega
 have hcell:∀ j,j < n * 14 → (w.cell? ⟨g,j,none⟩).isSome=true:=fun j hj => by
  have h1:j < cur.size:=by
   have:n * 14 ≤ c * 14:=Nat.mul_le_mul_right _ hnc
   omega
  simp [World.cell?,hh,h1]
 have hys':∀ j u,ys[j]? = some u → w.cell? ⟨g,j,none⟩=some u:=fun j u hj => by
  rw [← hys,List.getElem?_take] at hj
  split at hj
  ·simp only [World.cell?,hh]; simpa using hj
  ·cases hj
 have hfz:∀ j,w.frozen? ⟨g,j,none⟩=false:=fun j => by simp [World.frozen?,hh]
 obtain ⟨news,hnews⟩:∃ news,news=ys.drop ((i + 1) * 14):=⟨_,rfl⟩
 have hdl:news.length=(n - (i + 1)) * 14:=by rw [hnews,List.length_drop,hyl,Nat.sub_mul]
 have hi14:(i + 1) * 14 ≤ n * 14:=Nat.mul_le_mul_right _ hi
 obtain ⟨A,hA,hsrc⟩:∃ A:Addr,(if c=i + 1 then some (⟨g,0,none⟩:Addr) else some ⟨g,(i + 1) * 14,none⟩)=some A ∧ Hid (∀ t u,news[t]? = some u → w.drew.cell? (A.add t)=some u):=by
  by_cases h:c=i + 1
  ·refine ⟨⟨g,0,none⟩,by simp [h],fun t u hu => ?_⟩
   have h0:news.length=0:=by rw [hdl]; omega
   rw [List.length_eq_zero_iff.1 h0] at hu
   simp at hu
  ·refine ⟨⟨g,(i + 1) * 14,none⟩,by simp [h],fun t u hu => ?_⟩
   rw [Addr.add_lit]
   exact hys' _ u (by rw [hnews,List.getElem?_drop] at hu; exact hu)
 have s1:Hid (news.length=(n - (i + 1)) * 14):=hdl
 have s2:Hid (∀ u ∈ news,u.oneCell'=true):=fun u hu => h1c u (by rw [hnews] at hu; exact List.mem_of_mem_drop hu)
 have s3:Hid (∀ t,t < news.length → (w.drew.cell? ⟨g,0 + i * 14 + t,none⟩).isSome=true ∧ w.drew.frozen? ⟨g,0 + i * 14 + t,none⟩=false):=by
  intro t ht
  rw [hdl,Nat.sub_mul] at ht
  exact ⟨hcell _ (by omega),hfz _⟩
 obtain ⟨W1,hW1⟩:∃ W1,W1=w.drew.setCells g (0 + i * 14) news:=⟨_,rfl⟩
 have hW1c:∀ k,k < n * 14 → (W1.cell? ⟨g,k,none⟩).isSome=true:=fun k hk => by
  rw [hW1]
  exact isSome_setCells g news (0 + i * 14) w.drew (fun t ht => (s3.out t ht).1) _ (hcell k hk)
 have hcl:∀ ty,(Builtin.clear_ #[22] ty #[.slice (some ⟨g,(i + (n - (i + 1))) * 14,none⟩) (n - (i + (n - (i + 1)))) (c - (i + (n - (i + 1))))]).run Tryz.prog W1=.ok (.tuple #[]) (W1.setCells g ((i + (n - (i + 1))) * 14) zs):=fun ty => by
  rw [show n - (i + (n - (i + 1)))=1 by omega]
  exact zdg W1 _ _ ty z t22 hv zs 1 g ((i + (n - (i + 1))) * 14) _ (by decide) hz hz1 (fun j hj => hW1c _ (by omega)) (fun j hj => by rw [hW1,World.frozen?_setCells]; exact hfz _)
 have hW:Hid (W1=w.drew.setCells g (0 + i * 14) news):=hW1
 have hlt:¬ ((i:Int)=(i:Int) + 1):=by omega
 have hic:i ≤ c:=by omega
 have hjc:i + 1 ≤ c:=by omega
 have hjn:(i:Int) + 1 ≤ (n:Int):=by omega
 have htn:((i:Int) + 1).toNat=i + 1:=by omega
 have hj0:(0:Int) ≤ (i:Int) + 1:=by omega
 clear hW1 hdl hcell hys' hW1c
 go_enter Tryz.func39,Tryz.ntmps39
 go_wp2_with fail
 go_region_law_o (refine step_append_room rfl (.tmp 22) (.tmp 25) 22 rfl 43 i0 14 t22 hi0 hs0 g 0 i c (by simp [Act.eval,Act.put]) A (n - (i + 1)) (c - (i + 1)) news (by simp [Act.eval,Act.put,hA]) s1.out hsrc.out s2.out (by omega) s3.out ?_; rw [← hW.out])
 go_wp2
 go_ret
 refine ⟨by rw [show n - 1=i + (n - (i + 1)) by omega]; rfl,?_⟩
 rw [show n - 1=i + (n - (i + 1)) by omega,hW.out,hnews,Nat.zero_add]
end Go.Proofs.YtbeoijfmfkifeaaGreatDoor
namespace Go.Proofs.YtbeoijfmfkifeaaGreatDoor.Sx
open Go.RowKit Go.WideShapes Go.ChangeShapes Go.ChangeAt
inductive TT where
 | s
 | b
 | i (k:IntKind)
 | st (ts:List TT)
 | sl (t:TT)
 | rv
inductive RV where
 | mk (k:Int) (t:List UInt8) (ks:List (List UInt8)) (its:List RV)
mutual
def zdi:RV → List AV
 | .mk k t ks its => [.i .i64 k,.s t,.row ks.length (ks.map .s),.row its.length (zcU its)]
def zcU:List RV → List AV
 | [] => []
 | v :: l => zdi v ++ zcU l
end
mutual
def RVok:RV → Prop
 | .mk k t ks its => (Lit.int .i64 k).wf=true ∧ t.length ≤ 140737488351232 ∧ ks.length ≤ 140737488351232 ∧ (∀ k ∈ ks,k.length ≤ 140737488351232) ∧ its.length ≤ 140737488351232 ∧ zj4 its
def zj4:List RV → Prop
 | [] => True
 | v :: l => RVok v ∧ zj4 l
end
mutual
def ShT:TT → List AV → Prop
 | .s,xs => ∃ l:List UInt8,xs=[.s l] ∧ l.length ≤ 140737488351232
 | .b,xs => ∃ b,xs=[.b b]
 | .i k,xs => ∃ n,xs=[.i k n] ∧ (Lit.int k n).wf=true
 | .st ts,xs => ShTs ts xs
 | .sl t,xs => ∃ gs:List (List AV),xs=[.row gs.length gs.flatten] ∧ gs.length ≤ 140737488351232 ∧ ∀ g ∈ gs,ShT t g
 | .rv,xs => ∃ r:RV,xs=zdi r ∧ RVok r
def ShTs:List TT → List AV → Prop
 | [],xs => xs=[]
 | t :: ts,xs => ∃ a b,xs=a ++ b ∧ ShT t a ∧ ShTs ts b
end
def ShA:TT → AV → Prop
 | .st ts,x => ∃ cs,x=.agg cs ∧ ShTs ts cs
 | .rv,x => ∃ r:RV,x=.agg (zdi r) ∧ RVok r
 | t,x => ShT t [x]
def ShAs:List TT → List AV → Prop
 | [],xs => xs=[]
 | t :: ts,xs => ∃ x ys,xs=x :: ys ∧ ShA t x ∧ ShAs ts ys
def trTs (P:Program) (rc:TypeId → Option TT):Nat → List Field → Option (List TT)
 | o,[] => some []
 | o,f :: fs => match rc f.type,trTs P rc (o + P.cellsOf f.type) fs with
  | some t,some ts => if f.offset=o then some (t :: ts) else none
  | _,_ => none
def zc7 (P:Program):List Field → Nat
 | [] => 0
 | f :: fs => P.cellsOf f.type + zc7 P fs
def isRV (P:Program) (t:TypeId):List Field → Bool
 | [a,b,c,d] => (a.offset == 0 && b.offset == 1 && c.offset == 2 && d.offset == 3) && (P.cellsOf t == 4 && P.cellsOf a.type == 1 && P.cellsOf b.type == 1 && P.cellsOf c.type == 1 && P.cellsOf d.type == 1) && decide (0 < P.bytesOf t) && (match P.underlying a.type,P.underlying b.type,P.underlying c.type,P.underlying d.type with
  | some (.int .i64),some .string,some (.slice e),some (.slice f) => f == t && P.cellsOf e == 1 && decide (0 < P.bytesOf e) && (match P.underlying e with | some .string => true | _ => false)
  | _,_,_,_ => false)
 | _ => false
def trT (P:Program):Nat → TypeId → Option TT
 | 0,_ => none
 | d + 1,t => match P.underlying t with
  | some .string => some .s
  | some .bool => some .b
  | some (.int k) => some (.i k)
  | some (.struct fs) => if isRV P t fs.toList=true then some .rv else if P.cellsOf t=zc7 P fs.toList then (trTs P (trT P d) 0 fs.toList).map .st else none
  | some (.slice e) => if 0 < P.cellsOf e ∧ 0 < P.bytesOf e then (trT P d e).map .sl else none
  | _ => none
theorem zby {H:Type} {P:Program} {e:TypeId}:∀ {ds:List (DataW H)} {d:DataW H},d ∈ ds → ∀ n ∈ d.weights P e,n ∈ DataW.weightsAll P e ds
 | [],d,hd,n,hn => by cases hd
 | d0 :: ds,d,hd,n,hn => by
  simp only [DataW.weightsAll,List.mem_append]
  rcases List.mem_cons.1 hd with rfl | hd
  ·exact .inl hn
  ·exact .inr (zby hd n hn)
theorem zfl {w:World} {G:Gh} {I:Imm} {t:TT} (a:Addr) (c:Nat) (hI:∀ g o v,w.cell? ⟨g,o,none⟩=some v → I g o v):∀ k:Nat,
  (∀ i,i < k → ∃ (g:List AV) (ys:List Value),ys.length=c ∧ (∀ j,j < c → w.cell? ((a.add (i * c)).add j)=ys[j]?) ∧ zac G I g ys ∧ ShT t g ∧ ∀ u ∈ ys,u.oneCell'=true) →
  ∃ (gs:List (List AV)) (ys:List Value),gs.length=k ∧ ys.length=k * c ∧ zac G I gs.flatten ys ∧ (∀ g ∈ gs,ShT t g) ∧ (∀ u ∈ ys,u.oneCell'=true) ∧ ∀ j,j < k * c → w.cell? (a.add j)=ys[j]?
 | 0,_ => ⟨[],[],rfl,by simp,zac.nil,by simp,by simp,fun j hj => by simp at hj⟩
 | k + 1,h => by
  obtain ⟨gs,ys,h1,h2,h3,h4,h5,h6⟩:=zfl a c hI k (fun i hi => h i (by omega))
  obtain ⟨g,zs,k1,k2,k3,k4,k5⟩:=h k (by omega)
  have hm:(k + 1) * c=k * c + c:=Nat.succ_mul k c
  refine ⟨gs ++ [g],ys ++ zs,by simp [h1],by rw [List.length_append,h2,k1,hm],?_,?_,?_,?_⟩
  ·rw [List.flatten_append,List.flatten_cons,List.flatten_nil,List.append_nil]
   exact zac.append h3 k3
  ·intro x hx
   rcases List.mem_append.1 hx with hx | hx
   ·exact h4 x hx
   ·rw [List.mem_singleton] at hx; subst hx; exact k4
  ·intro u hu
   rcases List.mem_append.1 hu with hu | hu
   ·exact h5 u hu
   ·exact k5 u hu
  ·intro j hj
   by_cases hjk:j < k * c
   ·rw [h6 j hjk,List.getElem?_append_left (by omega)]
   ·have:=k2 (j - k * c) (by omega)
    rw [Addr.add_add,show k * c + (j - k * c)=j by omega] at this
    rw [this,List.getElem?_append_right (by omega),h2]
theorem add_flat {a:Addr} {j:Nat} (ha:a.spot=none):a.add j=⟨a.block,a.off + j,none⟩:=by
 cases a
 simp only at ha
 subst ha
 unfold Addr.add
 split
 ·rename_i h; subst h; rfl
 ·rfl
section
variable {H:Type} {enc:TypeId × Value → H} {P:Program} {w:World} {base:Nat} {spare:Nat → Bool} {held:Bool} {G:Gh} {I:Imm}
theorem zdj (d:Nat) (ih:∀ (t:TypeId) (tt:TT) (fuel:Nat) (cs:List Value) (x:DataW H × List MemPlace),trT P d t=some tt → DataW.trod enc P w base spare held fuel t cs=some x → (∀ n ∈ x.1.weights P t,n ≤ reachBytes) → ∃ xs,zac G I xs cs ∧ ShT tt xs ∧ ∀ u ∈ cs,u.oneCell'=true) (n:Nat) :
  ∀ (fs:List Field) (ts:List TT) (o:Nat) (cs:List Value),trTs P (trT P d) o fs=some ts → cs.length=o + zc7 P fs → (∀ f ∈ fs,∃ x,DataW.trod enc P w base spare held n f.type ((cs.drop f.offset).take (P.cellsOf f.type))=some x ∧ ∀ m ∈ x.1.weights P f.type,m ≤ reachBytes) →
   ∃ xs,zac G I xs (cs.drop o) ∧ ShTs ts xs ∧ ∀ u ∈ cs.drop o,u.oneCell'=true
 | [],ts,o,cs,ht,hl,hf => by
  simp only [trTs,Option.some.injEq] at ht; subst ht
  have:cs.drop o=[]:=List.drop_eq_nil_of_le (by simp [zc7] at hl; omega)
  rw [this]
  exact ⟨[],zac.nil,rfl,by simp⟩
 | f :: fs,ts,o,cs,ht,hl,hf => by
  simp only [trTs] at ht
  split at ht
  ·rename_i t ts' h1 h2
   split at ht
   ·rename_i ho
    injection ht with ht; subst ht
    obtain ⟨x,hx,hxw⟩:=hf f (List.mem_cons_self ..)
    rw [ho] at hx
    obtain ⟨xs,k1,k2,k3⟩:=ih _ _ _ _ _ h1 hx hxw
    simp only [zc7] at hl
    obtain ⟨ys,m1,m2,m3⟩:=zdj d ih n fs ts' (o + P.cellsOf f.type) cs h2 (by omega) (fun f' hf' => hf f' (List.mem_cons_of_mem _ hf'))
    have e:cs.drop o=(cs.drop o).take (P.cellsOf f.type) ++ cs.drop (o + P.cellsOf f.type):=by
     rw [← List.drop_drop,List.take_append_drop]
    refine ⟨xs ++ ys,?_,?_,?_⟩
    ·rw [e]; exact zac.append k1 m1
    ·exact ⟨xs,ys,rfl,k2,m2⟩
    ·rw [e]; intro u hu
     rcases List.mem_append.1 hu with hu | hu
     ·exact k3 u hu
     ·exact m3 u hu
   ·cases ht
  ·cases ht
theorem zcg (hI:∀ g o v,w.cell? ⟨g,o,none⟩=some v → I g o v) (hspa:∀ b,spare b=true) {t e:TypeId} {te:TT} {fuel:Nat} {cs:List Value} {x:DataW H × List MemPlace} (hu:P.underlying t=some (.slice e)) (hc:0 < P.cellsOf e ∧ 0 < P.bytesOf e)
  (ih:∀ (n:Nat) (ys:List Value) (x:DataW H × List MemPlace),n < fuel → DataW.trod enc P w base spare held n e ys=some x → (∀ n ∈ x.1.weights P e,n ≤ reachBytes) → ∃ g,zac G I g ys ∧ ShT te g ∧ ∀ u ∈ ys,u.oneCell'=true)
  (h:DataW.trod enc P w base spare held fuel t cs=some x) (hwt:∀ n ∈ x.1.weights P t,n ≤ reachBytes):∃ xs,zac G I xs cs ∧ ShT (.sl te) xs ∧ ∀ u ∈ cs,u.oneCell'=true:=by
 rcases DataW.trod_slice hu h with ⟨rfl,rfl⟩ | ⟨a,len,cap,elems,rest,n,hfu,rfl,rfl,hb,hl,hm,hlen,hel,hsr,_⟩
 ·exact ⟨[.row 0 []],zac.cons (by simp only [Den]; exact ⟨none,0,[],rfl,⟨Nat.le_refl _,fun ad h => by cases h⟩,zac.nil,by simp,by simp⟩) zac.nil,⟨[],rfl,by simp,by simp⟩,by simp; rfl⟩
 ·have hw2:(elems.length + rest.length) * P.bytesOf e ≤ reachBytes:=by
   have:=hwt ((elems.map (·.1)).length + (rest.map (·.1)).length |> (· * P.bytesOf e)) (by simp [DataW.weights,hu])
   simpa using this
  have hel2:elems.length ≤ 140737488351232:=by
   have h1:elems.length * 1 ≤ (elems.length + rest.length) * P.bytesOf e:=Nat.mul_le_mul (by omega) hc.2
   have:reachBytes=140737488351232:=rfl
   omega
  have hel3:∀ i,i < len → ∃ (g:List AV) (ys:List Value),ys.length=P.cellsOf e ∧ (∀ j,j < P.cellsOf e → w.cell? ((a.add (i * P.cellsOf e)).add j)=ys[j]?) ∧ zac G I g ys ∧ ShT te g ∧ ∀ u ∈ ys,u.oneCell'=true:=by
   intro i hi
   have h1:=hel i hi
   have hil:i < elems.length:=by omega
   rw [List.getElem?_eq_getElem hil,Option.bind_eq_some_iff] at h1
   obtain ⟨ys,y1,y2⟩:=h1
   obtain ⟨_,z1,z2⟩:=World.cells?_some y1
   obtain ⟨g,g1,g2,g3⟩:=ih n ys _ (by omega) y2 (fun m hm => hwt m (by
    simp only [DataW.weights,hu,List.mem_cons,List.mem_append]
    exact .inr (.inl (zby (List.mem_map.2 ⟨_,List.getElem_mem hil,rfl⟩) m hm))))
   exact ⟨g,ys,z1,z2,g1,g2,g3⟩
  obtain ⟨gs,ys,k1,k2,k3,k4,k5,k6⟩:=zfl (G:=G) a (P.cellsOf e) hI len hel3
  have hsp0:cap ≠ 0 → a.spot=none:=by
   intro hcap
   by_cases hl0:0 < len
   ·have hp:0 < len * P.cellsOf e:=Nat.mul_pos hl0 hc.1
    have h2:=k6 0 hp
    rw [List.getElem?_eq_getElem (by omega)] at h2
    have:=World.cell?_spot h2
    simpa [Addr.add] using this
   ·have hr:=(hsr (hspa _)).2 0 (by omega)
    have hrl:=(hsr (hspa _)).1
    rw [List.getElem?_eq_getElem (by omega),Option.bind_eq_some_iff] at hr
    obtain ⟨zs,y1,_⟩:=hr
    obtain ⟨_,z1,z2⟩:=World.cells?_some y1
    have h2:=z2 0 hc.1
    rw [List.getElem?_eq_getElem (by omega)] at h2
    have:=World.cell?_spot h2
    have hl1:len=0:=by omega
    subst hl1
    simpa [Addr.add] using this
  refine ⟨[.row gs.length gs.flatten],zac.cons ?_ zac.nil,⟨gs,rfl,by omega,k4⟩,by simp; rfl⟩
  simp only [Den]
  refine ⟨some a,cap,ys,by rw [k1],⟨by omega,fun ad h hc0 => by injection h with h; subst h; exact hsp0 hc0⟩,k3,k5,fun j u hj => ?_⟩
  have hjl:=(List.getElem?_eq_some_iff.1 hj).1
  have hlp:len ≠ 0:=by rintro rfl; rw [k2,Nat.zero_mul] at hjl; omega
  have hs:=hsp0 (by omega)
  refine ⟨a.block,a.off,by cases a; simp only at hs; subst hs; rfl,hI _ _ _ ?_⟩
  have h2:=k6 j (k2 ▸ hjl)
  rw [add_flat hs] at h2
  rw [h2,hj]
theorem isRV_of {t:TypeId} {fs:List Field} (h:isRV P t fs=true):∃ a b c d e,fs=[a,b,c,d] ∧ (a.offset=0 ∧ b.offset=1 ∧ c.offset=2 ∧ d.offset=3) ∧ (P.cellsOf t=4 ∧ P.cellsOf a.type=1 ∧ P.cellsOf b.type=1 ∧ P.cellsOf c.type=1 ∧ P.cellsOf d.type=1) ∧ 0 < P.bytesOf t ∧
  P.underlying a.type=some (.int .i64) ∧ P.underlying b.type=some .string ∧ P.underlying c.type=some (.slice e) ∧ P.underlying d.type=some (.slice t) ∧ P.cellsOf e=1 ∧ 0 < P.bytesOf e ∧ P.underlying e=some .string:=by
 unfold isRV at h
 split at h
 ·rename_i a b c d
  simp only [Bool.and_eq_true,beq_iff_eq,decide_eq_true_eq] at h
  obtain ⟨⟨⟨h1,h2⟩,h3⟩,h4⟩:=h
  split at h4
  ·rename_i e f u1 u2 u3 u4
   simp only [Bool.and_eq_true,beq_iff_eq,decide_eq_true_eq] at h4
   obtain ⟨⟨⟨k1,k2⟩,k3⟩,k4⟩:=h4
   subst k1
   split at k4
   ·rename_i u5
    exact ⟨a,b,c,d,e,rfl,⟨h1.1.1.1,h1.1.1.2,h1.1.2,h1.2⟩,⟨h2.1.1.1.1,h2.1.1.1.2,h2.1.1.2,h2.1.2,h2.2⟩,h3,u1,u2,u3,u4,k2,k3,u5⟩
   ·cases k4
  ·cases h4
 ·cases h
theorem zhu:∀ gs:List (List AV),(∀ g ∈ gs,ShT .s g) → ∃ ks:List (List UInt8),gs.flatten=ks.map .s ∧ ks.length=gs.length ∧ ∀ k ∈ ks,k.length ≤ 140737488351232
 | [],_ => ⟨[],rfl,rfl,by simp⟩
 | g :: gs,h => by
  obtain ⟨ks,h1,h2,h3⟩:=zhu gs (fun g hg => h g (List.mem_cons_of_mem _ hg))
  obtain ⟨l,hl,hl2⟩:=h g (List.mem_cons_self ..)
  refine ⟨l :: ks,by rw [List.flatten_cons,hl,h1]; rfl,by simp [h2],fun k hk => ?_⟩
  rcases List.mem_cons.1 hk with rfl | hk
  ·exact hl2
  ·exact h3 k hk
theorem zfk:∀ gs:List (List AV),(∀ g ∈ gs,ShT .rv g) → ∃ rs:List RV,gs.flatten=zcU rs ∧ rs.length=gs.length ∧ zj4 rs
 | [],_ => ⟨[],by rw [zcU]; rfl,rfl,by rw [zj4]; trivial⟩
 | g :: gs,h => by
  obtain ⟨rs,h1,h2,h3⟩:=zfk gs (fun g hg => h g (List.mem_cons_of_mem _ hg))
  obtain ⟨r,hr,hr2⟩:=h g (List.mem_cons_self ..)
  exact ⟨r :: rs,by rw [List.flatten_cons,hr,h1,zcU],by simp [h2],by rw [zj4]; exact ⟨hr2,h3⟩⟩
theorem open_rv (hI:∀ g o v,w.cell? ⟨g,o,none⟩=some v → I g o v) (hspa:∀ b,spare b=true) {t:TypeId} {fs:Array Field} (hu:P.underlying t=some (.struct fs)) (hrv:isRV P t fs.toList=true):∀ (m fuel:Nat) (cs:List Value) (x:DataW H × List MemPlace),fuel < m → DataW.trod enc P w base spare held fuel t cs=some x → (∀ n ∈ x.1.weights P t,n ≤ reachBytes) → ∃ xs,zac G I xs cs ∧ ShT .rv xs ∧ ∀ u ∈ cs,u.oneCell'=true:=by
 intro m
 induction m with
 | zero => intro fuel cs x hm; omega
 | succ m ih =>
  intro fuel cs x hm h hwt
  obtain ⟨a,b,c,d,e,hfs,⟨o1,o2,o3,o4⟩,⟨c0,c1,c2,c3,c4⟩,hb,u1,u2,u3,u4,e1,e2,e3⟩:=isRV_of hrv
  obtain ⟨xs,n,hfu,rfl,hlen,hxl,hf⟩:=DataW.trod_struct hu h
  have hsz:fs.size=4:=by rw [← Array.length_toList,hfs]; rfl
  have gf:∀ j,fs[j]? = [a,b,c,d][j]?:=fun j => by rw [← hfs,Array.getElem?_toList]
  have hall:∀ (j:Nat) (f:Field),[a,b,c,d][j]? = some f → ∃ x,DataW.trod enc P w base spare held n f.type ((cs.drop f.offset).take (P.cellsOf f.type))=some x ∧ ∀ m ∈ x.1.weights P f.type,m ≤ reachBytes:=by
   intro j f hj
   have h1:=hf j f (by rw [gf]; exact hj)
   have hjl:j < xs.length:=by
    rw [hxl,hsz]
    exact (List.getElem?_eq_some_iff.1 hj).1
   rw [List.getElem?_eq_getElem hjl] at h1
   refine ⟨_,h1,fun m hm => hwt m ?_⟩
   have hj2:(fs.toList.map (·.type))[j]? = some f.type:=by rw [List.getElem?_map,hfs,hj]; rfl
   have:=DataW.weights_mem_each hj2 (show (xs.map (·.1))[j]? = some xs[j].1 by rw [List.getElem?_map,List.getElem?_eq_getElem hjl]; rfl) m hm
   simpa [DataW.weights,hu] using this
  obtain ⟨xa,ha,wa⟩:=hall 0 a rfl
  obtain ⟨xb,hb',wb⟩:=hall 1 b rfl
  obtain ⟨xc,hc',wc⟩:=hall 2 c rfl
  obtain ⟨xd,hd',wd⟩:=hall 3 d rfl
  rw [o1,c1] at ha
  rw [o2,c2] at hb'
  rw [o3,c3] at hc'
  rw [o4,c4] at hd'
  rw [c0] at hlen
  obtain ⟨v0,v1,v2,v3,rfl⟩:∃ v0 v1 v2 v3,cs=[v0,v1,v2,v3]:=by
   match cs,hlen with
   | [v0,v1,v2,v3],_ => exact ⟨v0,v1,v2,v3,rfl⟩
  simp only [List.drop_zero,List.drop_succ_cons,List.take_succ_cons,List.take_zero] at ha hb' hc' hd'
  obtain ⟨i0,r0,_,w0⟩:=DataW.trod_int u1 ha
  injection r0 with r0 _
  obtain ⟨s0,r1,rx1,_⟩:=DataW.trod_string u2 hb'
  injection r1 with r1 _
  subst r0 r1
  obtain ⟨ys2,d2,⟨g2,q2,l2,m2⟩,oc2⟩:=zcg (te:=.s) (G:=G) (I:=I) hI hspa u3 ⟨by omega,e2⟩ (fun n' ys y hn' hy hyw => by
   obtain ⟨s,rfl,rfl,hs⟩:=DataW.trod_string e3 hy
   exact ⟨[.s s.data.toList],zac.cons (by simp [Den]) zac.nil,⟨_,rfl,hyw _ (by simp [DataW.weights])⟩,by simp; rfl⟩) hc' wc
  obtain ⟨ys3,d3,⟨g3,q3,l3,m3⟩,oc3⟩:=zcg (te:=.rv) (G:=G) (I:=I) hI hspa u4 ⟨by omega,hb⟩ (fun n' ys y hn' hy hyw => ih n' ys y (by omega) hy hyw) hd' wd
  subst q2 q3
  obtain ⟨ks,k1,k2,k3⟩:=zhu g2 m2
  obtain ⟨rs,j1,j2,j3⟩:=zfk g3 m3
  refine ⟨zdi (.mk i0 s0.data.toList ks rs),?_,⟨_,rfl,?_⟩,?_⟩
  ·rw [zdi,k2,j2,← k1,← j1]
   exact zac.cons (by simp [Den]) (zac.cons (by simp [Den]) (zac.append d2 d3))
  ·rw [RVok]
   refine ⟨w0,?_,by omega,k3,by omega,j3⟩
   subst rx1
   exact wb _ (by simp [DataW.weights])
  ·intro u hu'
   simp only [List.mem_cons,List.not_mem_nil,or_false] at hu'
   rcases hu' with rfl | rfl | rfl | rfl
   ·rfl
   ·rfl
   ·exact oc2 _ (by simp)
   ·exact oc3 _ (by simp)
theorem zh4 (hI:∀ g o v,w.cell? ⟨g,o,none⟩=some v → I g o v) (hspa:∀ b,spare b=true):∀ (d:Nat) (t:TypeId) (tt:TT) (fuel:Nat) (cs:List Value) (x:DataW H × List MemPlace),trT P d t=some tt → DataW.trod enc P w base spare held fuel t cs=some x → (∀ n ∈ x.1.weights P t,n ≤ reachBytes) → ∃ xs,zac G I xs cs ∧ ShT tt xs ∧ ∀ u ∈ cs,u.oneCell'=true:=by
 intro d
 induction d with
 | zero => intro t tt fuel cs x ht; simp [trT] at ht
 | succ d ih =>
  intro t tt fuel cs x ht h hwt
  simp only [trT] at ht
  split at ht
  ·rename_i hu
   injection ht with ht; subst ht
   obtain ⟨s,rfl,rfl,hs⟩:=DataW.trod_string hu h
   refine ⟨[.s s.data.toList],zac.cons (by simp [Den]) zac.nil,⟨_,rfl,?_⟩,by simp; rfl⟩
   exact hwt _ (by simp [DataW.weights])
  ·rename_i hu
   injection ht with ht; subst ht
   obtain ⟨b,rfl,_⟩:=DataW.trod_bool hu h
   exact ⟨[.b b],zac.cons (by simp [Den]) zac.nil,⟨_,rfl⟩,by simp; rfl⟩
  ·rename_i k hu
   injection ht with ht; subst ht
   obtain ⟨n,rfl,_,hw⟩:=DataW.trod_int hu h
   exact ⟨[.i k n],zac.cons (by simp [Den]) zac.nil,⟨_,rfl,hw⟩,by simp; rfl⟩
  ·rename_i fs hu
   split at ht
   ·rename_i hrv
    injection ht with ht; subst ht
    exact open_rv hI hspa hu hrv (fuel + 1) fuel cs x (by omega) h hwt
   split at ht
   ·rename_i hc
    cases hts:trTs P (trT P d) 0 fs.toList with
    | none => rw [hts] at ht; cases ht
    | some ts =>
     rw [hts] at ht; injection ht with ht; subst ht
     obtain ⟨xs,n,_,rfl,hlen,hxl,hf⟩:=DataW.trod_struct hu h
     have hall:∀ f ∈ fs.toList,∃ x,DataW.trod enc P w base spare held n f.type ((cs.drop f.offset).take (P.cellsOf f.type))=some x ∧ ∀ m ∈ x.1.weights P f.type,m ≤ reachBytes:=by
      intro f hfm
      obtain ⟨j,hj⟩:=List.mem_iff_getElem?.1 hfm
      have h1:=hf j f (by simpa using hj)
      have hjl:j < xs.length:=by
       rw [hxl]
       have:=(List.getElem?_eq_some_iff.1 hj).1
       simpa using this
      rw [List.getElem?_eq_getElem hjl] at h1
      refine ⟨_,h1,fun m hm => hwt m ?_⟩
      have hj2:(fs.toList.map (·.type))[j]? = some f.type:=by rw [List.getElem?_map,hj]; rfl
      have:=DataW.weights_mem_each hj2 (show (xs.map (·.1))[j]? = some xs[j].1 by rw [List.getElem?_map,List.getElem?_eq_getElem hjl]; rfl) m hm
      simpa [DataW.weights,hu] using this
     obtain ⟨ys,k1,k2,k3⟩:=zdj d ih n fs.toList ts 0 cs hts (by rw [hlen,hc]; omega) hall
     exact ⟨ys,by simpa using k1,k2,by simpa using k3⟩
   ·cases ht
  ·rename_i e hu
   split at ht
   ·rename_i hc
    cases hte:trT P d e with
    | none => rw [hte] at ht; cases ht
    | some te =>
     rw [hte] at ht; injection ht with ht; subst ht
     exact zcg hI hspa hu hc (fun n ys y _ hy hyw => ih e te n ys y hte hy hyw) h hwt
   ·cases ht
  ·cases ht
theorem open_arg (hI:∀ g o v,w.cell? ⟨g,o,none⟩=some v → I g o v) (hspa:∀ b,spare b=true) {r:Reach} {b0:Nat} {t:TypeId} {tt:TT} {v:Value} {dd:DataW H} {ps:List MemPlace} (ht:trT P 20 t=some tt) (hv:Value.okWide P w r b0 t v) (h:DataW.Trod enc P w base spare held t v dd ps) (hwt:∀ n ∈ dd.weights P t,n ≤ reachBytes):∃ x,Den G I x v ∧ ShA tt x:=by
 obtain ⟨fuel,hf⟩:=h
 obtain ⟨xs,h1,h2,h3⟩:=zh4 hI hspa 20 t tt fuel _ _ ht hf hwt
 have ht':=ht
 unfold trT at ht
 cases tt with
 | st ts =>
  split at ht <;> first | (injection ht with ht; cases ht; done) | skip
  ·rename_i fs hu
   obtain ⟨cs,rfl,_⟩:=okWide_struct hu hv
   refine ⟨.agg xs,?_,⟨xs,rfl,h2⟩⟩
   simp only [Den]
   exact ⟨cs.toList,by simp,h1,h3⟩
  ·split at ht
   ·cases hq:trT P 19 _ with
    | none => rw [hq] at ht; cases ht
    | some q => rw [hq] at ht; injection ht with ht; cases ht
   ·cases ht
  ·cases ht
 | rv =>
  split at ht <;> first | (injection ht with ht; cases ht; done) | skip
  ·rename_i fs hu
   obtain ⟨cs,rfl,_⟩:=okWide_struct hu hv
   obtain ⟨r,rfl,hr⟩:=h2
   refine ⟨.agg (zdi r),?_,⟨r,rfl,hr⟩⟩
   simp only [Den]
   exact ⟨cs.toList,by simp,h1,h3⟩
  ·split at ht
   ·cases hq:trT P 19 _ with
    | none => rw [hq] at ht; cases ht
    | some q => rw [hq] at ht; injection ht with ht; cases ht
   ·cases ht
  ·cases ht
 | sl t =>
  split at ht <;> first | (injection ht with ht; cases ht; done) | skip
  ·split at ht
   ·injection ht with ht; cases ht
   split at ht
   ·cases hq:trTs P (trT P 19) 0 _ with
    | none => rw [hq] at ht; cases ht
    | some q => rw [hq] at ht; injection ht with ht; cases ht
   ·cases ht
  ·rename_i e hu
   obtain ⟨a,len,cap,rfl⟩:=okWide_slice hu hv
   obtain ⟨gs,rfl,hl,hg⟩:=h2
   simp only [zac] at h1
   obtain ⟨y,ys,e1,k1,k2⟩:=h1
   subst k2
   have e2:[Value.slice a len cap]=[y]:=e1
   injection e2 with e2 _
   subst e2
   exact ⟨.row gs.length gs.flatten,k1,⟨gs,rfl,hl,hg⟩⟩
  ·cases ht
 | s =>
  split at ht <;> first | (injection ht with ht; cases ht; done) | skip
  ·rename_i hu
   obtain ⟨s,rfl⟩:=okWide_string hu hv
   obtain ⟨l,rfl,hl⟩:=h2
   simp only [zac] at h1
   obtain ⟨y,ys,e,k1,k2⟩:=h1
   subst k2
   have e2:[Value.string s]=[y]:=e
   injection e2 with e2 _
   subst e2
   exact ⟨.s l,k1,⟨l,rfl,hl⟩⟩
  ·split at ht
   ·injection ht with ht; cases ht
   split at ht
   ·cases hq:trTs P (trT P 19) 0 _ with
    | none => rw [hq] at ht; cases ht
    | some q => rw [hq] at ht; injection ht with ht; cases ht
   ·cases ht
  ·split at ht
   ·cases hq:trT P 19 _ with
    | none => rw [hq] at ht; cases ht
    | some q => rw [hq] at ht; injection ht with ht; cases ht
   ·cases ht
  ·cases ht
 | b =>
  split at ht <;> first | (injection ht with ht; cases ht; done) | skip
  ·rename_i hu
   obtain ⟨s,rfl⟩:=okWide_bool hu hv
   obtain ⟨l,rfl⟩:=h2
   simp only [zac] at h1
   obtain ⟨y,ys,e,k1,k2⟩:=h1
   subst k2
   have e2:[Value.bool s]=[y]:=e
   injection e2 with e2 _
   subst e2
   exact ⟨.b l,k1,⟨l,rfl⟩⟩
  ·split at ht
   ·injection ht with ht; cases ht
   split at ht
   ·cases hq:trTs P (trT P 19) 0 _ with
    | none => rw [hq] at ht; cases ht
    | some q => rw [hq] at ht; injection ht with ht; cases ht
   ·cases ht
  ·split at ht
   ·cases hq:trT P 19 _ with
    | none => rw [hq] at ht; cases ht
    | some q => rw [hq] at ht; injection ht with ht; cases ht
   ·cases ht
  ·cases ht
 | i k =>
  split at ht <;> first | (injection ht with ht; cases ht; done) | skip
  ·rename_i k' hu
   injection ht with ht; injection ht with ht; subst ht
   obtain ⟨s,rfl⟩:=okWide_int hu hv
   obtain ⟨l,rfl,hl⟩:=h2
   simp only [zac] at h1
   obtain ⟨y,ys,e,k1,k2⟩:=h1
   subst k2
   have e2:[Value.int _ s]=[y]:=e
   injection e2 with e2 _
   subst e2
   exact ⟨.i _ l,k1,⟨l,rfl,hl⟩⟩
  ·split at ht
   ·injection ht with ht; cases ht
   split at ht
   ·cases hq:trTs P (trT P 19) 0 _ with
    | none => rw [hq] at ht; cases ht
    | some q => rw [hq] at ht; injection ht with ht; cases ht
   ·cases ht
  ·split at ht
   ·cases hq:trT P 19 _ with
    | none => rw [hq] at ht; cases ht
    | some q => rw [hq] at ht; injection ht with ht; cases ht
   ·cases ht
  ·cases ht
theorem open_args (hI:∀ g o v,w.cell? ⟨g,o,none⟩=some v → I g o v) (hspa:∀ b,spare b=true) {r:Reach} {b0:Nat}:∀ (ts:List TypeId) (tts:List TT) (vs:List Value) (ds:List (DataW H)) (ps:List MemPlace),ts.mapM (trT P 20)=some tts → (∀ (j:Nat) t v,ts[j]? = some t → vs[j]? = some v → Value.okWide P w r b0 t v) → DataW.TrodAll enc P w base spare held ts vs ds ps → (∀ n ∈ DataW.weightsEach P ts ds,n ≤ reachBytes) → ∃ xs,zac G I xs vs ∧ ShAs tts xs
 | [],tts,vs,ds,ps,ht,hv,h,hwt => by
  simp at ht; subst ht
  obtain ⟨rfl,_,_⟩:=trodAll_nil h
  exact ⟨[],zac.nil,rfl⟩
 | t :: ts,tts,vs,ds,ps,ht,hv,h,hwt => by
  simp only [List.mapM_cons,Option.bind_eq_bind,Option.pure_def] at ht
  cases h1:trT P 20 t with
  | none => simp [h1] at ht
  | some tt =>
   cases h2:ts.mapM (trT P 20) with
   | none => simp [h1,h2] at ht
   | some tts' =>
    simp [h1,h2] at ht
    subst ht
    obtain ⟨v,vs',d,ds',p,q,rfl,rfl,rfl,k1,k2⟩:=trodAll_cons h
    obtain ⟨x,x1,x2⟩:=open_arg (G:=G) (I:=I) hI hspa h1 (hv 0 t v rfl rfl) k1 (fun n hn => hwt n (by simp only [DataW.weightsEach,List.mem_append]; exact .inl hn))
    obtain ⟨xs,y1,y2⟩:=open_args hI hspa ts tts' vs' ds' q h2 (fun j t v hj hv' => hv (j + 1) t v (by simpa using hj) (by simpa using hv')) k2 (fun n hn => hwt n (by simp only [DataW.weightsEach,List.mem_append]; exact .inr hn))
    exact ⟨x :: xs,zac.cons x1 y1,⟨x,xs,rfl,x2,y2⟩⟩
theorem zbX (hl:laidOutB P=true) {W W':World} {sp':Nat → Bool}:∀ (ts:List TypeId) (vs:List Value) (ds:List (DataW H)) (ps:List MemPlace),(∀ t ∈ ts,P.readableRec t=true ∧ t < P.types.size) → DataW.TrodAll enc P W 0 (fun _ => true) true ts vs ds ps → Below W.heap.size W W' → (∀ p ∈ ps,p.block < W.heap.size) → (∀ p ∈ ps,sp' p.block=true) → DataW.TrodAll enc P W' 0 sp' true ts vs ds ps
 | [],vs,ds,ps,hr,h,hb,hlt,hs => by
  obtain ⟨rfl,rfl,rfl⟩:=trodAll_nil h
  exact trodAll_mk0
 | t :: ts,vs,ds,ps,hr,h,hb,hlt,hs => by
  obtain ⟨v,vs',d,ds',p,q,rfl,rfl,rfl,k1,k2⟩:=trodAll_cons h
  have h1:=hr t (List.mem_cons_self ..)
  exact trodAll_cons_mk (WideElems.Trod_stays hl h1.1 h1.2 k1 (fun x hx => hb.same (hlt x (List.mem_append_left _ hx))) (fun x hx => hs x (List.mem_append_left _ hx)))
   (zbX hl ts vs' ds' q (fun t ht => hr t (List.mem_cons_of_mem _ ht)) k2 hb (fun x hx => hlt x (List.mem_append_right _ hx)) (fun x hx => hs x (List.mem_append_right _ hx)))
end
theorem post_true {H:Type} {enc:TypeId × Value → H} {P:Program} {f:Func} {s:ChangeSpec} {apart fresh handsOn again:Bool} {W W':World} {args:Array Value} {ds gs:List (DataW H)} {before:List MemPlace}
  (hl:laidOutB P=true) (hts:∀ t ∈ f.params.toList,P.readableRec t=true ∧ t < P.types.size) {tb:TypeId} (hrt:f.resultTypes=#[tb]) (hub:P.underlying tb=some .bool) (hsv:s.vars=[])
  (hW:DataW.Whole enc P f.params.toList s.vars apart W args.toList ds gs before) (hfn:s.fn H (ds ++ gs)={ results:=[.lit (.bool true)],args:=ds }) (hb:Below W.heap.size W W'):s.post enc P f apart fresh handsOn again W args (.bool true) W':=by
 have hlt:∀ p ∈ before,p.block < W.heap.size:=fun p hp => hW.lt p hp
 have hold:∀ p ∈ before,(fun b => decide (b < W.heap.size)) p.block=true:=fun p hp => by simpa using hlt p hp
 have hW':=hW
 obtain ⟨p,q,hA,hV,rfl,hz,hn⟩:=hW'
 rw [hsv] at hV
 have hvars:gs=[] ∧ q=[]:=by
  cases gs with
  | nil => exact ⟨rfl,hV⟩
  | cons g gs => exact hV.elim
 obtain ⟨rfl,rfl⟩:=hvars
 simp only [List.append_nil] at *
 have hres:∀ (b:Nat) (sp:Nat → Bool) (hd:Bool),DataW.TrodAll enc P W' b sp hd f.resultTypes.toList ((Value.bool true).resultList f.resultTypes.size) (s.fn H ds).results []:=by
  intro b sp hd
  rw [hfn,hrt]
  exact trodAll_cons_mk (shut_bool hub _) trodAll_mk0
 have hargs:∀ sp:Nat → Bool,(∀ x ∈ p,sp x.block=true) → DataW.TrodAll enc P W' 0 sp true f.params.toList args.toList (s.fn H ds).args p:=by
  intro sp hsp
  rw [hfn]
  exact zbX hl _ _ _ _ hts hA hb hlt hsp
 have hvs:∀ sp:Nat → Bool,DataW.TrodVars enc P W' sp s.vars (s.fn H ds).vars []:=by
  intro sp
  rw [hsv,hfn]; rfl
 refine ⟨ds,[],p,[],p,[],hW,by simpa using hres _ _ _,by simpa using hargs _ hold,by simpa using hvs _,World.keptBut_mono (fun x hx => ⟨hx,?_⟩) (hb.frame (· ∈ p)),fun _ => ?_⟩
 ·exact Or.inr (Or.inl hx)
 ·refine ⟨?_,_,_,([] ++ p) ++ [],⟨[] ++ p,[],trodAll_append (by simpa using hargs _ (fun _ _ => rfl)) (by simpa using hres _ _ _),by simpa using hvs _,rfl,?_,?_⟩,?_⟩
  ·intro j t r hj hr
   rw [hrt] at hj hr
   cases j with
   | zero =>
    simp at hj; subst hj
    have:r=.bool true:=by simpa [Value.resultList] using hr.symm
    subst this
    exact okWide_bool_mk hub _
   | succ j => simp at hj
  ·intro b off hp
   have hin:MemPlace.cell b off ∈ p:=by simpa using hp
   rw [hb.frozen (hlt _ hin)]
   exact hz b off hin
  ·intro ha
   simpa using hn ha
  ·intro x hx _
   simpa using hx
section
variable {H:Type} {enc:TypeId × Value → H}
end
end Go.Proofs.YtbeoijfmfkifeaaGreatDoor.Sx
namespace Go.Proofs.YtbeoijfmfkifeaaGreatDoor
open Go.RowKit Sx
theorem zg0 {w:World} {g o:Nat} {v:Value} (h:w.cell? ⟨g,o,none⟩=some v):∃ c T f,w.heap[g]? = some (.cells c T f) ∧ c.size ≠ 0:=by
 unfold World.cell? at h
 split at h
 ·rename_i c T f hc
  refine ⟨c,T,f,hc,fun e => ?_⟩
  have:c[o]? = some v:=by simpa using h
  have:=(Array.getElem?_eq_some_iff.1 this).1
  omega
 ·cases h
theorem zhv {G:Gh} {I:Imm} {objs:List OB} {w:World} (hm:MemOk G I objs w) {n:Nat} {vs:List AV} (hv:vs.length ≠ 0) {y:Value} (h:Den G I (.row n vs) y) :
  ∃ g off c us,y=.slice (some ⟨g,off,none⟩) n c ∧ zac G I vs us ∧ us.length=vs.length ∧ (∀ u ∈ us,u.oneCell'=true) ∧ (∀ j u,us[j]? = some u → w.cell? ⟨g,off + j,none⟩=some u) ∧ (∃ cA tA f,w.heap[g]? = some (.cells cA tA f) ∧ cA.size ≠ 0) ∧ ∀ b,G.own b ≠ some g:=by
 simp only [Den] at h
 obtain ⟨a,c,us,rfl,hc,dus,hone,himm⟩:=h
 have hl:=dus.length
 obtain ⟨u0,hu0⟩:∃ u0,us[0]? = some u0:=⟨us[0]'(by omega),List.getElem?_eq_getElem _⟩
 obtain ⟨g,off,rfl,hI⟩:=himm 0 u0 hu0
 refine ⟨g,off,c,us,rfl,dus,hl.symm,hone,fun j u hj => ?_,?_,fun b hb => hm.apart b g _ _ hb hI⟩
 ·obtain ⟨g',off',e,hI'⟩:=himm j u hj
  injection e with e; injection e with e1 e2 _; subst e1 e2
  exact hm.imm _ _ _ hI'
 ·exact zg0 (hm.imm _ _ _ hI)
section
variable [Tabs Tryz.prog] {objs:List OB} {K:List OB → AV → Prop}
theorem zf4 (q gen n:Nat) (xs vs:List AV) (i:Nat) (hb:objs[q]? = some (.orow 43 14 gen n xs)) (hi:i ≤ n) (hn:n ≤ 1000000) (hv:vs.length=14)
  (hk:K (objs.set q (.orow 43 14 (gen + 1) (n + 1) (xs.take (i * 14) ++ vs ++ xs.drop (i * 14)))) (.orow q (gen + 1))):zae Tryz.prog 40 [.orow q gen,.i .i64 i,.row 1 vs] objs K:=by
 intro C _ G I w hin hm ys hd
 simp only [zac] at hd
 obtain ⟨y0,l0,rfl,d0,y1,l1,rfl,d1,y2,l2,rfl,d2,rfl⟩:=hd
 simp only [Den] at d0 d1
 subst d1
 obtain ⟨g',v,hcur,_,heq,_⟩:=d0
 obtain ⟨v',zs,m1,m2,m3,m4,m5⟩:=hm.row q _ _ gen n xs hb
 rw [hcur] at m1; injection m1 with m1; injection m1 with m1 m6
 have hv0:=heq m1.symm
 subst m1 m6 hv0
 obtain ⟨g,off,c,us,rfl,dus,hul,hone,hcell,⟨cA,tA,f,hA,hA0⟩,hne⟩:=zhv hm (by omega) d2
 have hob:G.own q=y0.ownBlock:=zaH m5 hcur
 refine (zdq y0 n i g off c zs us w cA tA f m2 hA hA0 (fun e => hne q (hob.trans e)) hi hn (by omega) hcell m4 hone).mono ?_
 rintro e w' ⟨v',rfl,r2,r3,r4⟩
 obtain ⟨G',s1,s2,s3,s4⟩:=zc0 hin hm q _ _ g' n (n + 1) xs (xs.take (i * 14) ++ vs ++ xs.drop (i * 14)) y0 v' _ hb hcur r3 r2 (zac.append (zac.append (zac.take _ m3) dus) (zac.drop _ m3)) (by
  intro u hu
  rcases List.mem_append.1 hu with hu | hu
  ·rcases List.mem_append.1 hu with hu | hu
   ·exact m4 u (List.mem_of_mem_take hu)
   ·exact hone u hu
  ·exact m4 u (List.mem_of_mem_drop hu)) r4
 exact ⟨v',_,_,G',I,rfl,hk,s1,Imm.le.refl I,s2,s3,s4⟩
theorem ziQ (vs:List AV) (hv:vs.length=14) (hk:K (objs ++ [.orow 43 14 0 1 vs]) (.orow objs.length 0)):zae Tryz.prog 40 [.nil,.i .i64 0,.row 1 vs] objs K:=by
 intro C _ G I w hin hm ys hd
 simp only [zac] at hd
 obtain ⟨y0,l0,rfl,d0,y1,l1,rfl,d1,y2,l2,rfl,d2,rfl⟩:=hd
 simp only [Den] at d0 d1
 subst d1 d0
 obtain ⟨g,off,c,us,rfl,dus,hul,hone,hcell,⟨cA,tA,f,hA,hA0⟩,hne⟩:=zhv hm (by omega) d2
 refine (zdq (.slice none 0 0) 0 0 g off c [] us w cA tA f (World.ownsRow_nil w 0 _ _) hA hA0 (by intro e; cases e) (Nat.le_refl _) (by decide) (by omega) hcell (by simp) hone).mono ?_
 rintro e w' ⟨v',rfl,r2,r3,r4⟩
 obtain ⟨G',s1,s2,s3,s4⟩:=zcr hin hm r3 43 14 1 vs v' us (by simpa using r2) dus hone (by
  intro k hk
  rcases r4 with r4 | r4
  ·rw [r4] at hk; cases hk
  ·rw [r4] at hk; injection hk with hk; omega)
 exact ⟨v',_,_,G',I,rfl,hk,s1,Imm.le.refl I,s2,s3,s4⟩
end
end Go.Proofs.YtbeoijfmfkifeaaGreatDoor
namespace Go.Proofs.YtbeoijfmfkifeaaGreatDoor
open Go.RowKit Sx
section
variable [Tabs Tryz.prog] {objs:List OB} {K:List OB → AV → Prop}
theorem delete_k (q gen n:Nat) (xs:List AV) (i:Nat) (hb:objs[q]? = some (.orow 43 14 gen n xs)) (hi:i < n)
  (hk:K (objs.set q (.orow 43 14 (gen + 1) (n - 1) (xs.take (i * 14) ++ xs.drop ((i + 1) * 14)))) (.orow q (gen + 1))):zae Tryz.prog 39 [.orow q gen,.i .i64 i,.i .i64 ((i:Int) + 1)] objs K:=by
 intro C _ G I w hin hm ys hd
 simp only [zac] at hd
 obtain ⟨y0,l0,rfl,d0,y1,l1,rfl,d1,y2,l2,rfl,d2,rfl⟩:=hd
 simp only [Den] at d0 d1 d2
 subst d1 d2
 obtain ⟨g',v,hcur,_,heq,_⟩:=d0
 obtain ⟨v',zs,m1,m2,m3,m4,m5⟩:=hm.row q _ _ gen n xs hb
 rw [hcur] at m1; injection m1 with m1; injection m1 with m1 m6
 have hv0:=heq m1.symm
 subst m1 m6 hv0
 obtain ⟨z,zc,hv,hz,hzl,hz1⟩:=Tryz.zeroE
 have hyl:=m2.1
 have m2':=m2
 rcases m2.2 with ⟨rfl,rfl⟩ | ⟨g,cap,cur,rfl,hb0,hh,hnc,hcm,hcs,hcy⟩
 ·omega
 refine (zgX g n cap i cur zs zc w z hv hz hzl hz1 hh hcs hcy hi hnc (by unfold maxLen at hcm; omega) m4).mono ?_
 rintro e w' ⟨rfl,rfl⟩
 have hh':w.heap[g]? = some (.cells cur.toList.toArray 43 (0,0)):=by simpa using hh
 have hi14:(i + 1) * 14 ≤ n * 14:=Nat.mul_le_mul_right _ hi
 have hc14:n * 14 ≤ cap * 14:=Nat.mul_le_mul_right _ hnc
 have hdl:(zs.drop ((i + 1) * 14)).length=n * 14 - (i + 1) * 14:=by rw [List.length_drop,hyl]
 obtain ⟨s1,s2,s3,s4,s5,s6⟩:=zau g 43 (zs.drop ((i + 1) * 14)) (i * 14) w.drew cur.toList (by rw [za0]; exact hh') (by rw [hdl,Array.length_toList,hcs]; omega)
 obtain ⟨A,hAe⟩:∃ A,A=cur.toList.take (i * 14) ++ zs.drop ((i + 1) * 14) ++ cur.toList.drop (i * 14 + (zs.drop ((i + 1) * 14)).length):=⟨_,rfl⟩
 rw [← hAe] at s1
 have hAl:A.length=cap * 14:=by
  rw [hAe,List.length_append,List.length_append,hdl,List.length_take,List.length_drop,Array.length_toList,hcs]
  omega
 obtain ⟨q1,q2,q3,q4,q5,q6⟩:=zau g 43 zc ((n - 1) * 14) (w.drew.setCells g (i * 14) (zs.drop ((i + 1) * 14))) A s1 (by rw [hzl,hAl]; omega)
 have hg:w.grownBy ((w.drew.setCells g (i * 14) (zs.drop ((i + 1) * 14))).setCells g ((n - 1) * 14) zc) (some g):=⟨q4.trans s4,q5.trans s5,q6.trans s6,by rw [q3,s3]; exact Nat.le_refl _,fun k hk hne => by
  have hkg:k ≠ g:=by rintro rfl; exact hne rfl
  rw [q2 k hkg,s2 k hkg]; rfl⟩
 have hrow:((w.drew.setCells g (i * 14) (zs.drop ((i + 1) * 14))).setCells g ((n - 1) * 14) zc).ownsRow 0 43 14 (.slice (some ⟨g,0,none⟩) (n - 1) cap) (n - 1) (zs.take (i * 14) ++ zs.drop ((i + 1) * 14)):=by
  refine ⟨?_,.inr ⟨g,cap,_,rfl,Nat.zero_le _,q1,by omega,hcm,?_,?_⟩⟩
  ·rw [List.length_append,hdl,List.length_take,hyl]; omega
  ·simp only [List.size_toArray,List.length_append,List.length_take,List.length_drop,hAl,hzl]
   omega
  ·rw [List.toList_toArray,List.append_assoc,List.take_append_of_le_length (by rw [List.length_take,hAl]; omega),List.take_take,Nat.min_self,hAe]
   rw [List.take_left' (by rw [List.length_append,hdl,List.length_take,Array.length_toList,hcs]; omega),← hcy,List.take_take,Nat.min_eq_left (by omega)]
 obtain ⟨G',s1,s2,s3,s4⟩:=zc0 hin hm q _ _ g' n (n - 1) xs (xs.take (i * 14) ++ xs.drop ((i + 1) * 14)) _ _ _ hb hcur hg hrow (zac.append (zac.take _ m3) (zac.drop _ m3)) (by
  intro u hu
  rcases List.mem_append.1 hu with hu | hu
  ·exact m4 u (List.mem_of_mem_take hu)
  ·exact m4 u (List.mem_of_mem_drop hu)) (.inl rfl)
 exact ⟨_,_,_,G',I,rfl,hk,s1,Imm.le.refl I,s2,s3,s4⟩
end
end Go.Proofs.YtbeoijfmfkifeaaGreatDoor
namespace Go.Proofs.YtbeoijfmfkifeaaGreatDoor
open Nat renaming reduceAdd → z6, reduceSub → z7, reduceLeDiff → z8, reduceLT → j4, reduceMul → j5, reduceEqDiff → j6
open Int renaming reduceToNat → j7, reduceAdd → j8, reduceSub → j9, reduceMul → x0, reduceNeg → x3, reduceLT → x4, reduceLE → x5, reduceEq → x6, reduceNe → x7
open Go.RowKit Sx
section
attribute [local irreducible] run
theorem zbC (o:List OB) (d:Nat):∀ L:List En,zcf o (d + 1) (ecs L)=some (ecs L)
 | [] => by simp only [zdU,zcf]
 | e :: L => by
  rw [zaA]
  simp only [ec,List.cons_append,List.nil_append,zcf,pub,AV.plain,zak,Option.map_some,if_true,zbC o d L]
theorem zjr (L:List En) (e:En) (p:Nat):(ecs L).take (p * 14) ++ ec e ++ (ecs L).drop (p * 14)=ecs (L.take p ++ [e] ++ L.drop p):=by
 rw [zcF,zbd,zc4,zc4,zaA,zdU,List.append_nil]
theorem ecs_del (L:List En) (i:Nat):(ecs L).take (i * 14) ++ (ecs L).drop ((i + 1) * 14)=ecs (L.eraseIdx i):=by
 rw [zcF,zbd,← zc4,List.eraseIdx_eq_take_drop_succ]
theorem zjq {L:List En} {i:Nat} (h:i < L.length) (e:En):(ecs L).take (i * 14) ++ ec e ++ (ecs L).drop (i * 14 + 14)=ecs (L.set i e):=by
 rw [show i * 14 + 14=(i + 1) * 14 by omega,zcF,zbd,List.set_eq_take_append_cons_drop,if_pos h,zc4,zaA,List.append_assoc]
theorem ec_eq (k s t:Nat):ec ⟨k,s,t⟩=[.i .i64 0,.i .i64 1,.s (idT k),.s zdc,.i .i64 0,.i .i64 0,.s [],.s [],.i .i64 0,.b true,.i .u64 s,.row 0 [],.i .u64 t,.i .u64 (t + s:Nat)]:=rfl
theorem zf6 {L:List En} {w:Nat} (h:zdr w L=true) (hs:zcy L):plE w L < L.length:=by
 unfold zdr at h
 rw [List.any_eq_true] at h
 obtain ⟨e,he,hk⟩:=h
 have hk:=of_decide_eq_true hk
 rcases Nat.lt_or_ge (plE w L) L.length with c | c
 ·exact c
 ·have:(L.takeWhile fun e => decide (e.k < w))=L:=(List.takeWhile_sublist _).eq_of_length_le c
  have h2:=List.all_eq_true.1 (List.all_takeWhile (p:=fun e:En => decide (e.k < w)) (l:=L)) e (by rw [this]; exact he)
  simp only [decide_eq_true_eq] at h2
  omega
theorem vden {k s:Nat} {G:Gh} {I:Imm} {y:Value} (hy:Den G I (.agg (vc k s .nil)) y):Den G I (.agg (vc k s (.row 0 []))) y:=by
 simp only [Den,zac,vc] at hy ⊢
 obtain ⟨ys,rfl,hd,h1⟩:=hy
 refine ⟨ys,rfl,?_,h1⟩
 obtain ⟨y0,r0,rfl,q0,y1,r1,rfl,q1,y2,r2,rfl,q2,y3,r3,rfl,q3,y4,r4,rfl,q4,y5,r5,rfl,q5,y6,r6,rfl,q6,y7,r7,rfl,q7,y8,r8,rfl,q8,y9,r9,rfl,q9,ya,ra,rfl,qa,yb,rb,rfl,qb,rfl⟩:=hd
 exact ⟨_,_,rfl,q0,_,_,rfl,q1,_,_,rfl,q2,_,_,rfl,q3,_,_,rfl,q4,_,_,rfl,q5,_,_,rfl,q6,_,_,rfl,q7,_,_,rfl,q8,_,_,rfl,q9,_,_,rfl,qa,_,_,rfl,⟨none,0,[],qb,⟨Nat.le_refl _,fun ad h => by cases h⟩,rfl,by simp,by simp⟩,rfl⟩
section
variable [Tabs Tryz.prog] {objs:List OB} {K:List OB → AV → Prop}
theorem zcW {k s:Nat} (hk20:k < 20) (h1:1 ≤ s) (h2:s ≤ 86400) (hk:K objs (.b true)):zae Tryz.prog 28 [.agg (vc k s (.row 0 []))] objs K:=by
 refine zaU is_cache_mayBeKept (by simp only [vc,zak,AV.plain,Bool.and_self]) fun C _ => ?_
 rw [c_cache_mayBeKept]
 have e1:¬ ((s:Int) < 1):=by omega
 have e2:(s:Int) ≤ 86400:=by omega
 have e3:(1:Int) ≤ (s:Int):=by omega
 simp only [vc,sxZ,z6,z7,z8,j4,j5,j6,j7,j8,j9,x0,x3,x4,x5,x6,x7,reduceCtorEq,↓reduceIte,e1,e2,e3]
 refine zap (ziV hk20 ?_)
 simp only [sxZ,z6,z7,z8,j4,j5,j6,j7,j8,j9,x0,x3,x4,x5,x6,x7,reduceCtorEq,↓reduceIte]
 exact hk
theorem zfd {k s:Nat} (hk20:k < 20) (h1:1 ≤ s) (h2:s ≤ 86400) (hk:K objs (.b true)):zae Tryz.prog 30 [.agg (vc k s (.row 0 []))] objs K:=by
 refine zaU is_ref31_cacheable (by simp only [vc,zak,AV.plain,Bool.and_self]) fun C _ => ?_
 rw [c_ref31_cacheable]
 have e1:¬ ((s:Int) < 1):=by omega
 have e2:(s:Int) ≤ 86400:=by omega
 have e3:(1:Int) ≤ (s:Int):=by omega
 simp only [vc,sxZ,z6,z7,z8,j4,j5,j6,j7,j8,j9,x0,x3,x4,x5,x6,x7,reduceCtorEq,↓reduceIte,e1,e2,e3]
 refine zap (zgO hk20 ?_)
 simp only [sxZ,z6,z7,z8,j4,j5,j6,j7,j8,j9,x0,x3,x4,x5,x6,x7,reduceCtorEq,↓reduceIte]
 exact hk
theorem zbg (n s:Nat) (hn:n < 1000) (hk:K objs (.agg (vc (n % 20) s (.row 0 [])))):zae Tryz.prog 17 [.i .i64 n,.i .u64 s] objs K:=by
 refine cres (.agg (vc (n % 20) s (.row 0 []))) ?_
 refine zaU is_law31_verdict rfl fun C _ => ?_
 rw [c_law31_verdict]
 have e1:((n:Int).tmod 20)=((n % 20:Nat):Int):=by
  rw [Int.tmod_eq_emod_of_nonneg (by omega)]; omega
 have hm:n % 20 < 20:=Nat.mod_lt _ (by decide)
 generalize n % 20=k at e1 hm hk ⊢
 have e2:IntKind.u8.wrap (97 + (k:Int))=(((UInt8.ofNat (97 + k)).toNat:Nat):Int):=by
  rw [UInt8.toNat_ofNat']; rw [IntKind.wrap_u8]; omega
 refine zaa fun Y hY => ?_
 simp only [sxZ,z6,z7,z8,j4,j5,j6,j7,j8,j9,x0,x3,x4,x5,x6,x7,reduceCtorEq,↓reduceIte]
 subst hY
 refine zaa fun Y hY => ?_
 simp only [sxZ,z6,z7,z8,j4,j5,j6,j7,j8,j9,x0,x3,x4,x5,x6,x7,reduceCtorEq,↓reduceIte,e1,e2]
 refine ⟨by omega,kCb_row [UInt8.ofNat (97 + k)] 1 rfl ?_⟩
 simp only [sxZ,z6,z7,z8,j4,j5,j6,j7,j8,j9,x0,x3,x4,x5,x6,x7,reduceCtorEq,↓reduceIte]
 refine zap (zgP hm ?_)
 simp only [idC,sxZ,z6,z7,z8,j4,j5,j6,j7,j8,j9,x0,x3,x4,x5,x6,x7,reduceCtorEq,↓reduceIte]
 subst hY
 simp only [sxZ,z6,z7,z8,j4,j5,j6,j7,j8,j9,x0,x3,x4,x5,x6,x7,reduceCtorEq,↓reduceIte]
 exact ⟨fun G I y hy => vden hy,hk⟩
noncomputable def zeH (cap:Nat) (e:En) (L:List En):List En :=
 if zdr e.k L=true then L.set (plE e.k L) e
 else if cap ≤ L.length then ((L.eraseIdx (zch L)).take (if zch L < plE e.k L then plE e.k L - 1 else plE e.k L)) ++ [e] ++ (L.eraseIdx (zch L)).drop (if zch L < plE e.k L then plE e.k L - 1 else plE e.k L)
 else L.take (plE e.k L) ++ [e] ++ L.drop (plE e.k L)
def zaW (cap:Nat) (L:List En):AV:=.agg [.i .i64 cap,.row L.length (ecs L)]
theorem put_k (cap k s t:Nat) (L:List En) (hs:zcy L) (hk20:k < 20) (h1:1 ≤ s) (h2:s ≤ 86400) (ht:t + s ≤ 18446744073709551615) (hc:0 < cap) (hn:L.length ≤ 1000)
  (hk:K objs (zaW cap (zeH cap ⟨k,s,t⟩ L))):zae Tryz.prog 18 [zaW cap L,.agg (vc k s (.row 0 [])),.i .u64 t] objs K:=by
 refine zaU is_cache_Put (by simp only [zaW,vc,zak,AV.plain,zat,Bool.and_self]) fun C _ => ?_
 rw [c_cache_Put]
 refine zaa fun Y hY => ?_
 simp only [zaW,vc,sxZ,z6,z7,z8,j4,j5,j6,j7,j8,j9,x0,x3,x4,x5,x6,x7,reduceCtorEq,↓reduceIte]
 subst hY
 refine zaa fun Y hY => ?_
 simp only [sxZ,z6,z7,z8,j4,j5,j6,j7,j8,j9,x0,x3,x4,x5,x6,x7,reduceCtorEq,↓reduceIte]
 refine zap (zdZ L (by omega) (fun hL => ?_) ?_)
 ·subst hL
  simp only [sxZ,z6,z7,z8,j4,j5,j6,j7,j8,j9,x0,x3,x4,x5,x6,x7,reduceCtorEq,↓reduceIte]
  subst hY
  refine zaa fun Y hY => ?_
  refine zaa fun X hX => ?_
  simp only [sxZ,z6,z7,z8,j4,j5,j6,j7,j8,j9,x0,x3,x4,x5,x6,x7,reduceCtorEq,↓reduceIte]
  refine zap (zcW hk20 h1 h2 ?_)
  have hc':¬ (cap:Int) ≤ 0:=by omega
  simp only [sxZ,z6,z7,z8,j4,j5,j6,j7,j8,j9,x0,x3,x4,x5,x6,x7,reduceCtorEq,↓reduceIte,hc']
  subst hX
  simp only [sxZ,z6,z7,z8,j4,j5,j6,j7,j8,j9,x0,x3,x4,x5,x6,x7,reduceCtorEq,↓reduceIte]
  subst hY
  refine zaa fun Y hY => ?_
  simp only [sxZ,z6,z7,z8,j4,j5,j6,j7,j8,j9,x0,x3,x4,x5,x6,x7,reduceCtorEq,↓reduceIte]
  refine zbl (v:=.agg (vc k s (.row 0 []))) (zcG k s rfl) rfl rfl ?_
  simp only [vc,sxZ,z6,z7,z8,j4,j5,j6,j7,j8,j9,x0,x3,x4,x5,x6,x7,reduceCtorEq,↓reduceIte]
  refine zbl (v:=.i .u64 (t + s:Nat)) (add_k ht rfl) rfl rfl ?_
  simp only [sxZ,z6,z7,z8,j4,j5,j6,j7,j8,j9,x0,x3,x4,x5,x6,x7,reduceCtorEq,↓reduceIte]
  subst hY
  refine zaa fun Y hY => ?_
  simp only [sxZ,z6,z7,z8,j4,j5,j6,j7,j8,j9,x0,x3,x4,x5,x6,x7,reduceCtorEq,↓reduceIte]
  refine zap (zfc (zjm [] ⟨List.Pairwise.nil,by simp⟩ hk20 (by decide) ?_))
  rw [show zdr k []=false from rfl,show plE k []=0 from rfl]
  simp only [sxZ,z6,z7,z8,j4,j5,j6,j7,j8,j9,x0,x3,x4,x5,x6,x7,reduceCtorEq,↓reduceIte]
  subst hY
  refine zaa fun Y hY => ?_
  simp only [sxZ,z6,z7,z8,j4,j5,j6,j7,j8,j9,x0,x3,x4,x5,x6,x7,reduceCtorEq,↓reduceIte]
  subst hY
  refine zaa fun Y hY => ?_
  simp only [sxZ,z6,z7,z8,j4,j5,j6,j7,j8,j9,x0,x3,x4,x5,x6,x7,reduceCtorEq,↓reduceIte,hc']
  subst hY
  refine zaa fun Y hY => ?_
  simp only [sxZ,z6,z7,z8,j4,j5,j6,j7,j8,j9,x0,x3,x4,x5,x6,x7,reduceCtorEq,↓reduceIte]
  refine zap (ziQ _ rfl ?_)
  simp only [sxZ,z6,z7,z8,j4,j5,j6,j7,j8,j9,x0,x3,x4,x5,x6,x7,reduceCtorEq,↓reduceIte]
  subst hY
  simp only [sxZ,z6,z7,z8,j4,j5,j6,j7,j8,j9,x0,x3,x4,x5,x6,x7,reduceCtorEq,↓reduceIte]
  unfold zaW zeH at hk
  rw [show zdr k []=false from rfl,show plE k []=0 from rfl,if_neg Bool.false_ne_true,if_neg (show ¬ cap ≤ ([]:List En).length from by simp; omega)] at hk
  exact hk
 ·simp only [sxZ,z6,z7,z8,j4,j5,j6,j7,j8,j9,x0,x3,x4,x5,x6,x7,reduceCtorEq,↓reduceIte]
  subst hY
  refine zaa fun Y hY => ?_
  refine zaa fun X hX => ?_
  simp only [sxZ,z6,z7,z8,j4,j5,j6,j7,j8,j9,x0,x3,x4,x5,x6,x7,reduceCtorEq,↓reduceIte]
  refine zap (zcW hk20 h1 h2 ?_)
  have hc':¬ (cap:Int) ≤ 0:=by omega
  simp only [sxZ,z6,z7,z8,j4,j5,j6,j7,j8,j9,x0,x3,x4,x5,x6,x7,reduceCtorEq,↓reduceIte,hc']
  subst hX
  simp only [sxZ,z6,z7,z8,j4,j5,j6,j7,j8,j9,x0,x3,x4,x5,x6,x7,reduceCtorEq,↓reduceIte]
  subst hY
  refine zaa fun Y hY => ?_
  simp only [sxZ,z6,z7,z8,j4,j5,j6,j7,j8,j9,x0,x3,x4,x5,x6,x7,reduceCtorEq,↓reduceIte]
  refine zbl (v:=.agg (vc k s (.row 0 []))) (zcG k s rfl) rfl rfl ?_
  simp only [vc,sxZ,z6,z7,z8,j4,j5,j6,j7,j8,j9,x0,x3,x4,x5,x6,x7,reduceCtorEq,↓reduceIte]
  refine zbl (v:=.i .u64 (t + s:Nat)) (add_k ht rfl) rfl rfl ?_
  simp only [sxZ,z6,z7,z8,j4,j5,j6,j7,j8,j9,x0,x3,x4,x5,x6,x7,reduceCtorEq,↓reduceIte]
  subst hY
  refine zaa fun Y hY => ?_
  simp only [sxZ,z6,z7,z8,j4,j5,j6,j7,j8,j9,x0,x3,x4,x5,x6,x7,reduceCtorEq,↓reduceIte]
  have hpl:=zat L
  have hel:=zaJ L
  have hple:=plE_le k L
  refine zap (zc8 (.tup [.i .i64 (plE k L),.b (zdr k L)]) rfl hpl rfl rfl ?_ (zjm L hs hk20 (by omega) rfl))
  simp only [sxZ,z6,z7,z8,j4,j5,j6,j7,j8,j9,x0,x3,x4,x5,x6,x7,reduceCtorEq,↓reduceIte]
  subst hY
  refine zaa fun Y hY => ?_
  unfold zaW zeH at hk
  dsimp only at hk
  cases hh:zdr k L with
  | true =>
   rw [hh,if_pos rfl] at hk
   have hlt:=zf6 hh hs
   have hset:=zjq hlt ⟨k,s,t⟩
   rw [ec_eq] at hset
   simp only [sxZ,z6,z7,z8,j4,j5,j6,j7,j8,j9,x0,x3,x4,x5,x6,x7,reduceCtorEq,↓reduceIte,Int.toNat_natCast,hset]
   have hpp:∀ o,zcf o 4 (ecs (L.set (plE k L) ⟨k,s,t⟩))=some (ecs (L.set (plE k L) ⟨k,s,t⟩)):=fun o => zbC o 3 _
   simp only [hpp,sxZ,z6,z7,z8,j4,j5,j6,j7,j8,j9,x0,x3,x4,x5,x6,x7,reduceCtorEq,↓reduceIte]
   rw [List.length_set] at hk
   exact ⟨by omega,by omega,hk⟩
  | false =>
   rw [hh,if_neg Bool.false_ne_true] at hk
   simp only [sxZ,z6,z7,z8,j4,j5,j6,j7,j8,j9,x0,x3,x4,x5,x6,x7,reduceCtorEq,↓reduceIte]
   subst hY
   refine zaa fun Y hY => ?_
   by_cases hcl:cap ≤ L.length
   ·have hcl':(cap:Int) ≤ (L.length:Int):=by omega
    rw [if_pos hcl] at hk
    have h0:0 < L.length:=by omega
    have hmin:=(zei h0).1
    simp only [sxZ,z6,z7,z8,j4,j5,j6,j7,j8,j9,x0,x3,x4,x5,x6,x7,reduceCtorEq,↓reduceIte,hcl']
    refine zap (zc8 (.i .i64 (zch L:Nat)) rfl hpl rfl rfl ?_ (firstX_k h0 (by omega) rfl))
    simp only [sxZ,z6,z7,z8,j4,j5,j6,j7,j8,j9,x0,x3,x4,x5,x6,x7,reduceCtorEq,↓reduceIte]
    refine ⟨by omega,?_⟩
    refine zap (delete_k 3 1 L.length (ecs L) (zch L) rfl hmin ?_)
    rw [ecs_del]
    simp only [sxZ,z6,z7,z8,j4,j5,j6,j7,j8,j9,x0,x3,x4,x5,x6,x7,reduceCtorEq,↓reduceIte]
    have hlen:(L.eraseIdx (zch L)).length=L.length - 1:=by rw [List.length_eraseIdx,if_pos hmin]
    have fin:∀ p:Nat,p ≤ L.length - 1 → K objs (.agg [.i .i64 cap,.row ((L.eraseIdx (zch L)).take p ++ [(⟨k,s,t⟩:En)] ++ (L.eraseIdx (zch L)).drop p).length (ecs ((L.eraseIdx (zch L)).take p ++ [(⟨k,s,t⟩:En)] ++ (L.eraseIdx (zch L)).drop p))]) →
      ∀ tm:List AV,tm.length=78 → tm[3]? = some (.p 0 0) → tm[6]? = some (.p 2 0) → tm[7]? = some (.p 4 0) → tm[8]? = some (.i .i64 p) → run Tryz.prog C [.code Y] [OB.box 24 [AV.i IntKind.i64 cap,AV.orow 3 2],
       OB.box 41 [.i .i64 0,.i .i64 1,.s (idT k),.s zdc,.i .i64 0,.i .i64 0,.s [],.s [],.i .i64 0,.b true,.i .u64 s,.row 0 []],OB.box 24 [AV.i IntKind.i64 0,AV.nil],OB.orow 43 14 2 (L.length - 1) (ecs (L.eraseIdx (zch L))),
       OB.box 43 [.i .i64 0,.i .i64 1,.s (idT k),.s zdc,.i .i64 0,.i .i64 0,.s [],.s [],.i .i64 0,.b true,.i .u64 s,.row 0 [],.i .u64 t,.i .u64 (t + s:Nat)]] tm (endK [.celln 6 2] fun r => K objs r):=by
     intro p hp hK tm htl t3 t6 t7 t8
     subst hY
     refine zaa fun Y hY => ?_
     simp only [sxZ,z6,z7,z8,j4,j5,j6,j7,j8,j9,x0,x3,x4,x5,x6,x7,reduceCtorEq,↓reduceIte,List.getElem?_set,htl,t3,t6,t7,t8]
     refine zap (zf4 3 2 (L.length - 1) (ecs (L.eraseIdx (zch L))) _ p rfl hp (by omega) rfl ?_)
     have hins:=zjr (L.eraseIdx (zch L)) ⟨k,s,t⟩ p
     rw [ec_eq] at hins
     rw [hins]
     have e:((L.eraseIdx (zch L)).take p ++ [(⟨k,s,t⟩:En)] ++ (L.eraseIdx (zch L)).drop p).length=L.length - 1 + 1:=by
      simp only [List.length_append,List.length_take,List.length_drop,List.length_cons,List.length_nil,hlen]; omega
     rw [e] at hK
     generalize (L.eraseIdx (zch L)).take p ++ [(⟨k,s,t⟩:En)] ++ (L.eraseIdx (zch L)).drop p=M at hK ⊢
     have hpp:∀ o,zcf o 4 (ecs M)=some (ecs M):=fun o => zbC o 3 _
     simp only [sxZ,z6,z7,z8,j4,j5,j6,j7,j8,j9,x0,x3,x4,x5,x6,x7,reduceCtorEq,↓reduceIte,List.getElem?_set,htl,t3,t6,t7,t8]
     subst hY
     simp only [hpp,sxZ,z6,z7,z8,j4,j5,j6,j7,j8,j9,x0,x3,x4,x5,x6,x7,reduceCtorEq,↓reduceIte,List.getElem?_set,htl,t3,t6,t7,t8]
     exact hK
    by_cases hmp:zch L < plE k L
    ·have hmp':((zch L:Nat):Int) < ((plE k L:Nat):Int):=by omega
     rw [if_pos hmp] at hk
     simp only [sxZ,z6,z7,z8,j4,j5,j6,j7,j8,j9,x0,x3,x4,x5,x6,x7,reduceCtorEq,↓reduceIte,hmp']
     refine ⟨by omega,?_⟩
     exact fin (plE k L - 1) (by omega) hk _ rfl rfl rfl rfl (by rw [show ((plE k L:Nat):Int) - 1=((plE k L - 1:Nat):Int) by omega]; rfl)
    ·have hmp':¬ ((zch L:Nat):Int) < ((plE k L:Nat):Int):=by omega
     rw [if_neg hmp] at hk
     simp only [sxZ,z6,z7,z8,j4,j5,j6,j7,j8,j9,x0,x3,x4,x5,x6,x7,reduceCtorEq,↓reduceIte,hmp']
     exact fin (plE k L) (by omega) hk _ rfl rfl rfl rfl rfl
   ·have hcl':¬ (cap:Int) ≤ (L.length:Int):=by omega
    rw [if_neg hcl] at hk
    simp only [sxZ,z6,z7,z8,j4,j5,j6,j7,j8,j9,x0,x3,x4,x5,x6,x7,reduceCtorEq,↓reduceIte,hcl']
    subst hY
    refine zaa fun Y hY => ?_
    simp only [sxZ,z6,z7,z8,j4,j5,j6,j7,j8,j9,x0,x3,x4,x5,x6,x7,reduceCtorEq,↓reduceIte]
    refine zap (zf4 3 1 L.length (ecs L) _ (plE k L) rfl hple (by omega) rfl ?_)
    have hins:=zjr L ⟨k,s,t⟩ (plE k L)
    rw [ec_eq] at hins
    rw [hins]
    simp only [sxZ,z6,z7,z8,j4,j5,j6,j7,j8,j9,x0,x3,x4,x5,x6,x7,reduceCtorEq,↓reduceIte]
    subst hY
    simp only [sxZ,z6,z7,z8,j4,j5,j6,j7,j8,j9,x0,x3,x4,x5,x6,x7,reduceCtorEq,↓reduceIte]
    have e:(L.take (plE k L) ++ [(⟨k,s,t⟩:En)] ++ L.drop (plE k L)).length=L.length + 1:=by
     simp only [List.length_append,List.length_take,List.length_drop,List.length_cons,List.length_nil]; omega
    rw [e] at hk
    generalize L.take (plE k L) ++ [(⟨k,s,t⟩:En)] ++ L.drop (plE k L)=M at hk ⊢
    have hpp:∀ o,zcf o 4 (ecs M)=some (ecs M):=fun o => zbC o 3 _
    simp only [hpp,sxZ,z6,z7,z8,j4,j5,j6,j7,j8,j9,x0,x3,x4,x5,x6,x7,reduceCtorEq,↓reduceIte]
    exact hk
end
end
section
attribute [local irreducible] run
theorem dtup1 {a b b':AV} {G:Gh} {I:Imm} {y:Value} (hb:∀ y,Den G I b y → Den G I b' y) (h:Den G I (.tup [.agg [a,b],.i .i64 0]) y):Den G I (.tup [.agg [a,b'],.i .i64 0]) y:=by
 simp only [Den,zac] at h ⊢
 obtain ⟨ys,rfl,y0,r0,rfl,⟨zs,rfl,⟨z0,s0,rfl,q0,z1,s1,rfl,q1,q2⟩,q3⟩,hr⟩:=h
 exact ⟨_,rfl,_,_,rfl,⟨_,rfl,⟨_,_,rfl,q0,_,_,rfl,hb _ q1,q2⟩,q3⟩,hr⟩
section
variable [Tabs Tryz.prog] {objs:List OB} {K:List OB → AV → Prop}
theorem new_k (cap:Nat) (hc:cap ≤ 1024) (hk:K objs (.tup [zaW cap [],.i .i64 0])):zae Tryz.prog 10 [.i .i64 cap] objs K:=by
 refine cres (.tup [zaW cap [],.i .i64 0]) ?_
 refine zaU is_cache_New rfl fun C _ => ?_
 rw [c_cache_New]
 have e1:¬ (cap:Int) < 0:=by omega
 have e2:¬ (1024:Int) < (cap:Int):=by omega
 refine zaa fun Y hY => ?_
 simp only [sxZ,z6,z7,z8,j4,j5,j6,j7,j8,j9,x0,x3,x4,x5,x6,x7,reduceCtorEq,↓reduceIte]
 subst hY
 simp only [sxZ,z6,z7,z8,j4,j5,j6,j7,j8,j9,x0,x3,x4,x5,x6,x7,reduceCtorEq,↓reduceIte,e1,e2]
 exact ⟨fun G I y hy => dtup1 (fun y => dnil) hy,hk⟩
theorem sameT_k (hk:K objs (.b true)):zae Tryz.prog 41 [.row 0 [],.row 0 []] objs K:=by
 refine zaU is_ref26_SameTrace rfl fun C _ => ?_
 rw [c_ref26_SameTrace]
 refine zaa fun Y hY => ?_
 simp only [sxZ,z6,z7,z8,j4,j5,j6,j7,j8,j9,x0,x3,x4,x5,x6,x7,reduceCtorEq,↓reduceIte]
 subst hY
 refine zaa fun Y hY => ?_
 simp only [sxZ,z6,z7,z8,j4,j5,j6,j7,j8,j9,x0,x3,x4,x5,x6,x7,reduceCtorEq,↓reduceIte]
 subst hY
 refine zaa fun Y hY => ?_
 simp only [sxZ,z6,z7,z8,j4,j5,j6,j7,j8,j9,x0,x3,x4,x5,x6,x7,reduceCtorEq,↓reduceIte]
 refine zaF (fun m o tm => o=[] ∧ tm.length=26 ∧ tm[12]? = some (.i .i64 0) ∧ tm[13]? = some (.i .i64 0)) 0 ⟨rfl,rfl,rfl,rfl⟩ ?_
 rintro m _ tm ⟨rfl,hlen,t12,t13⟩
 refine zaa fun Z hZ => ?_
 simp only [sxZ,z6,z7,z8,j4,j5,j6,j7,j8,j9,x0,x3,x4,x5,x6,x7,reduceCtorEq,↓reduceIte,List.getElem?_set,hlen,t12,t13]
 subst hZ
 subst hY
 simp only [sxZ,z6,z7,z8,j4,j5,j6,j7,j8,j9,x0,x3,x4,x5,x6,x7,reduceCtorEq,↓reduceIte,List.getElem?_set,hlen,t12,t13]
 exact hk
theorem zhs (k s:Nat) (hk:K objs (.b true)):zae Tryz.prog 22 [.agg (vc k s (.row 0 [])),.agg (vc k s (.row 0 []))] objs K:=by
 refine zaU is_ref30_Same (by simp only [vc,zak,AV.plain,Bool.and_self]) fun C _ => ?_
 rw [c_ref30_Same]
 refine zaa fun Y hY => ?_
 simp only [vc,sxZ,z6,z7,z8,j4,j5,j6,j7,j8,j9,x0,x3,x4,x5,x6,x7,reduceCtorEq,↓reduceIte]
 subst hY
 simp only [sxZ,z6,z7,z8,j4,j5,j6,j7,j8,j9,x0,x3,x4,x5,x6,x7,reduceCtorEq,↓reduceIte]
 refine zap (sameT_k ?_)
 simp only [sxZ,z6,z7,z8,j4,j5,j6,j7,j8,j9,x0,x3,x4,x5,x6,x7,reduceCtorEq,↓reduceIte]
 exact hk
omit [Tabs Tryz.prog] in
theorem ecs_st {L:List En} {a:Nat} (h:a < L.length):(ecs L)[a * 14 + 12]? = some (.i .u64 (L[a].t:Int)):=by
 have h1:((ecs L).drop (a * 14))[12]? = some (.i .u64 (L[a].t:Int)):=by
  rw [zbd,List.drop_eq_getElem_cons h,zaA]; rfl
 rwa [List.getElem?_drop] at h1
omit [Tabs Tryz.prog] in
theorem ecs_xp {L:List En} {a:Nat} (h:a < L.length):(ecs L)[a * 14 + 13]? = some (.i .u64 ((L[a].t + L[a].s:Nat):Int)):=by
 have h1:((ecs L).drop (a * 14))[13]? = some (.i .u64 ((L[a].t + L[a].s:Nat):Int)):=by
  rw [zbd,List.drop_eq_getElem_cons h,zaA]; rfl
 rwa [List.getElem?_drop] at h1
def zg9 (w now:Nat) (L:List En):AV :=
 if zdr w L=true then match L[plE w L]? with
  | some e => if now < e.t ∨ e.t + e.s ≤ now then .tup [.agg [.i .i64 0,.i .i64 0,.s [],.s [],.i .i64 0,.i .i64 0,.s [],.s [],.i .i64 0,.b false,.i .u64 0,.nil],.b false] else .tup [.agg (vc e.k e.s (.row 0 [])),.b true]
  | none => .u
 else .tup [.agg [.i .i64 0,.i .i64 0,.s [],.s [],.i .i64 0,.i .i64 0,.s [],.s [],.i .i64 0,.b false,.i .u64 0,.nil],.b false]
theorem zjg (cap w now:Nat) (L:List En) (hs:zcy L) (hw:w < 20) (hn:L.length ≤ 1000) (hk:K objs (zg9 w now L)):zae Tryz.prog 20 [zaW cap L,.s (idT w),.i .u64 now] objs K:=by
 have hel:=zaJ L
 refine zaU is_cache_Get (by simp only [zaW,zak,AV.plain,zat,Bool.and_self]) fun C _ => ?_
 rw [c_cache_Get]
 refine zaa fun Y hY => ?_
 simp only [zaW,sxZ,z6,z7,z8,j4,j5,j6,j7,j8,j9,x0,x3,x4,x5,x6,x7,reduceCtorEq,↓reduceIte]
 subst hY
 refine zaa fun Y hY => ?_
 simp only [sxZ,z6,z7,z8,j4,j5,j6,j7,j8,j9,x0,x3,x4,x5,x6,x7,reduceCtorEq,↓reduceIte]
 refine zap (zjm L hs hw (by omega) ?_)
 simp only [sxZ,z6,z7,z8,j4,j5,j6,j7,j8,j9,x0,x3,x4,x5,x6,x7,reduceCtorEq,↓reduceIte]
 subst hY
 refine zaa fun Y hY => ?_
 unfold zg9 at hk
 cases hh:zdr w L with
 | false =>
  rw [hh,if_neg Bool.false_ne_true] at hk
  simp only [sxZ,z6,z7,z8,j4,j5,j6,j7,j8,j9,x0,x3,x4,x5,x6,x7,reduceCtorEq,↓reduceIte]
  exact hk
 | true =>
  rw [hh,if_pos rfl] at hk
  have hlt:=zf6 hh hs
  rw [List.getElem?_eq_getElem hlt] at hk
  dsimp only at hk
  have a1:=zdV hlt
  have a2:=ecs_st hlt
  have a3:=ecs_xp hlt
  generalize L[plE w L]=e at *
  by_cases c1:now < e.t
  ·have c1':(now:Int) < (e.t:Int):=by omega
   rw [if_pos (.inl c1)] at hk
   simp only [sxZ,z6,z7,z8,j4,j5,j6,j7,j8,j9,x0,x3,x4,x5,x6,x7,reduceCtorEq,↓reduceIte,Int.toNat_natCast,a2,c1']
   exact ⟨by omega,hk⟩
  ·have c1':¬ (now:Int) < (e.t:Int):=by omega
   by_cases c2:e.t + e.s ≤ now
   ·have c2':((e.t + e.s:Nat):Int) ≤ (now:Int):=by omega
    rw [if_pos (.inr c2)] at hk
    simp only [sxZ,z6,z7,z8,j4,j5,j6,j7,j8,j9,x0,x3,x4,x5,x6,x7,reduceCtorEq,↓reduceIte,Int.toNat_natCast,a2,a3,c1',c2']
    exact ⟨by omega,by omega,hk⟩
   ·have c2':¬ ((e.t + e.s:Nat):Int) ≤ (now:Int):=by omega
    rw [if_neg (fun h => h.elim c1 c2)] at hk
    simp only [sxZ,z6,z7,z8,j4,j5,j6,j7,j8,j9,x0,x3,x4,x5,x6,x7,reduceCtorEq,↓reduceIte,Int.toNat_natCast,a2,a3,c1',c2']
    refine ⟨by omega,by omega,?_⟩
    subst hY
    simp only [sxZ,z6,z7,z8,j4,j5,j6,j7,j8,j9,x0,x3,x4,x5,x6,x7,reduceCtorEq,↓reduceIte,Int.toNat_natCast,Nat.add_zero,a1]
    refine ⟨by omega,by omega,?_⟩
    refine zap (zcG _ _ ?_)
    simp only [vc,sxZ,z6,z7,z8,j4,j5,j6,j7,j8,j9,x0,x3,x4,x5,x6,x7,reduceCtorEq,↓reduceIte]
    exact hk
end
end
section
attribute [local irreducible] run
structure OkC (cap:Nat) (L:List En):Prop where
 top:cap ≤ 1024
 len:L.length ≤ cap
 srt:zcy L
 ent:∀ e ∈ L,1 ≤ e.s ∧ e.s ≤ 86400 ∧ e.t + e.s ≤ 18446744073709551615
theorem at0 {N:List OB} {B X:OB} (h:N[0]? = some B):(N ++ [X])[0]? = some B:=by
 cases N with
 | nil => simp at h
 | cons a N => simpa using h
section
variable [Tabs Tryz.prog] {objs:List OB} {K:List OB → AV → Prop}
theorem zcO (cap:Nat) (L:List En) (hs:OkC cap L) (hk:K objs (.b true)):zae Tryz.prog 14 [zaW cap L] objs K:=by
 have hel:=zaJ L
 have hcap:=hs.top
 have hlen0:=hs.len
 refine zaU is_cache_Sound (by simp only [zaW,zak,AV.plain,zat,Bool.and_self]) fun C _ => ?_
 rw [c_cache_Sound]
 refine zaa fun Y hY => ?_
 simp only [zaW,sxZ,z6,z7,z8,j4,j5,j6,j7,j8,j9,x0,x3,x4,x5,x6,x7,reduceCtorEq,↓reduceIte]
 subst hY
 refine zaa fun Y hY => ?_
 have e1:¬ (cap:Int) < 0:=by omega
 have e2:¬ (1024:Int) < (cap:Int):=by omega
 have e3:¬ (cap:Int) < (L.length:Int):=by omega
 simp only [sxZ,z6,z7,z8,j4,j5,j6,j7,j8,j9,x0,x3,x4,x5,x6,x7,reduceCtorEq,↓reduceIte,e1,e2,e3]
 subst hY
 refine zaa fun Y hY => ?_
 simp only [sxZ,z6,z7,z8,j4,j5,j6,j7,j8,j9,x0,x3,x4,x5,x6,x7,reduceCtorEq,↓reduceIte]
 refine zaF (fun m o tm => ∃ i:Nat,m=L.length - i ∧ i ≤ L.length ∧ o[0]? = some (.box 24 [.i .i64 cap,.row L.length (ecs L)]) ∧ tm.length=60 ∧ tm[1]? = some (.p 0 0) ∧ tm[22]? = some (.row L.length (ecs L)) ∧ tm[23]? = some (.i .i64 L.length) ∧ tm[24]? = some (.i .i64 i)) L.length ⟨0,rfl,Nat.zero_le _,rfl,rfl,rfl,rfl,rfl,rfl⟩ ?_
 rintro m N tm ⟨i,rfl,hi,hN,hlen,t1,t22,t23,t24⟩
 refine zaa fun Z hZ => ?_
 by_cases hlt:i < L.length
 ·have hlt':(i:Int) < (L.length:Int):=by omega
  have a1:=zdv hlt
  have hent:=hs.ent _ (List.getElem_mem hlt)
  have h20:=hs.srt.2 _ (List.getElem_mem hlt)
  simp only [sxZ,z6,z7,z8,j4,j5,j6,j7,j8,j9,x0,x3,x4,x5,x6,x7,reduceCtorEq,↓reduceIte,List.getElem?_set,hlen,t23,t24,hlt']
  subst hZ
  refine zaa fun Z hZ => ?_
  simp only [sxZ,z6,z7,z8,j4,j5,j6,j7,j8,j9,x0,x3,x4,x5,x6,x7,reduceCtorEq,↓reduceIte,List.getElem?_set,hlen,t23,t24,hlt']
  subst hZ
  refine zaa fun Z hZ => ?_
  refine zba (fun o t => o[0]? = some (.box 24 [.i .i64 cap,.row L.length (ecs L)]) ∧ t.length=60 ∧ t[1]? = some (.p 0 0) ∧ t[22]? = some (.row L.length (ecs L)) ∧ t[23]? = some (.i .i64 L.length) ∧ t[24]? = some (.i .i64 i)) ?_ ?_
  ·rw [za2]
   refine zaa fun X hX => ?_
   have a1':(List.drop (i * 14) (ecs L)).take 14=[.i .i64 0,.i .i64 1,.s (idT L[i].k),.s zdc,.i .i64 0,.i .i64 0,.s [],.s [],.i .i64 0,.b true,.i .u64 L[i].s,.row 0 [],.i .u64 L[i].t,.i .u64 (L[i].t + L[i].s:Nat)]:=a1
   simp only [sxZ,z6,z7,z8,j4,j5,j6,j7,j8,j9,x0,x3,x4,x5,x6,x7,reduceCtorEq,↓reduceIte,List.getElem?_set,hlen,t22,t24,Int.toNat_natCast,a1',gn1,sn1]
   refine ⟨by omega,by omega,?_⟩
   generalize hE:L[i]=e at *
   have hN1:(N ++ [OB.box 43 [.i .i64 0,.i .i64 1,.s (idT e.k),.s zdc,.i .i64 0,.i .i64 0,.s [],.s [],.i .i64 0,.b true,.i .u64 e.s,.row 0 [],.i .u64 e.t,.i .u64 (e.t + e.s:Nat)]])[0]? = some (.box 24 [.i .i64 cap,.row L.length (ecs L)]):=at0 hN
   have hN2:(N ++ [OB.box 43 [.i .i64 0,.i .i64 1,.s (idT e.k),.s zdc,.i .i64 0,.i .i64 0,.s [],.s [],.i .i64 0,.b true,.i .u64 e.s,.row 0 [],.i .u64 e.t,.i .u64 (e.t + e.s:Nat)]])[N.length]? = some (OB.box 43 [.i .i64 0,.i .i64 1,.s (idT e.k),.s zdc,.i .i64 0,.i .i64 0,.s [],.s [],.i .i64 0,.b true,.i .u64 e.s,.row 0 [],.i .u64 e.t,.i .u64 (e.t + e.s:Nat)]):=gn1 _ _
   generalize N ++ [OB.box 43 [.i .i64 0,.i .i64 1,.s (idT e.k),.s zdc,.i .i64 0,.i .i64 0,.s [],.s [],.i .i64 0,.b true,.i .u64 e.s,.row 0 [],.i .u64 e.t,.i .u64 (e.t + e.s:Nat)]]=M at hN1 hN2 ⊢
   subst hX
   refine zaa fun X hX => ?_
   refine zba (fun o t => o=M ∧ t.length=60 ∧ t[1]? = some (.p 0 0) ∧ t[4]? = some (.p N.length 0) ∧ t[22]? = some (.row L.length (ecs L)) ∧ t[23]? = some (.i .i64 L.length) ∧ t[24]? = some (.i .i64 i)) ?_ ?_
   ·by_cases h0:i=0
    ·have h0':¬ (0:Int) < (i:Int):=by omega
     refine zaa fun W hW => ?_
     simp only [sxZ,z6,z7,z8,j4,j5,j6,j7,j8,j9,x0,x3,x4,x5,x6,x7,reduceCtorEq,↓reduceIte,List.getElem?_set,hlen,t1,t22,t23,t24,h0']
     subst hW
     simp only [sxZ,z6,z7,z8,j4,j5,j6,j7,j8,j9,x0,x3,x4,x5,x6,x7,reduceCtorEq,↓reduceIte,List.getElem?_set,hlen,t1,t22,t23,t24,zai,List.length_set,and_self]
    ·have h0':(0:Int) < (i:Int):=by omega
     have hp:i - 1 < L.length:=by omega
     have a2:=zdv hp
     refine zaa fun W hW => ?_
     have ei:((i:Int) - 1).toNat=i - 1:=by omega
     have hlt2:=zen (hs.srt.2 _ (List.getElem_mem hp)) h20
     have hord:L[i - 1].k < e.k:=by rw [← hE]; exact zbR hs.srt hlt (by omega)
     rw [decide_eq_true hord] at hlt2
     simp only [sxZ,z6,z7,z8,j4,j5,j6,j7,j8,j9,x0,x3,x4,x5,x6,x7,reduceCtorEq,↓reduceIte,List.getElem?_set,hlen,t1,t22,t23,t24,h0',hN1,ei,a2]
     refine ⟨by omega,by omega,by omega,?_⟩
     refine zdo (v:=.s (idT L[i - 1].k)) (zho _ ⟨rfl,rfl⟩) ?_
     simp only [sxZ,z6,z7,z8,j4,j5,j6,j7,j8,j9,x0,x3,x4,x5,x6,x7,reduceCtorEq,↓reduceIte,List.getElem?_set,hlen,t1,t22,t23,t24,h0',hN1,hN2]
     refine zdo (v:=.s (idT e.k)) (zho e ⟨rfl,rfl⟩) ?_
     simp only [sxZ,z6,z7,z8,j4,j5,j6,j7,j8,j9,x0,x3,x4,x5,x6,x7,reduceCtorEq,↓reduceIte,List.getElem?_set,hlen,t1,t22,t23,t24,h0',hN1,hN2,hlt2]
     subst hW
     simp only [sxZ,z6,z7,z8,j4,j5,j6,j7,j8,j9,x0,x3,x4,x5,x6,x7,reduceCtorEq,↓reduceIte,List.getElem?_set,hlen,t1,t22,t23,t24,zai,List.length_set,and_self]
   clear hlen t1 t22 t23 t24
   rintro _ tm ⟨rfl,hlen,t1,t4,t22,t23,t24⟩
   subst hX
   have w1:IntKind.u64.wrap ((e.t:Int) + e.s)=((e.t + e.s:Nat):Int):=by rw [IntKind.wrap_u64]; omega
   refine zaa fun X hX => ?_
   simp only [sxZ,z6,z7,z8,j4,j5,j6,j7,j8,j9,x0,x3,x4,x5,x6,x7,reduceCtorEq,↓reduceIte,List.getElem?_set,hlen,t1,t4,t22,t23,t24,hN1,hN2]
   refine zdo (v:=.b true) (zcW h20 hent.1 hent.2.1 ⟨rfl,rfl⟩) ?_
   simp only [sxZ,z6,z7,z8,j4,j5,j6,j7,j8,j9,x0,x3,x4,x5,x6,x7,reduceCtorEq,↓reduceIte,List.getElem?_set,hlen,t1,t4,t22,t23,t24,hN1,hN2]
   refine zdo (v:=.i .u64 (e.t + e.s:Nat)) (add_k hent.2.2 ⟨rfl,rfl⟩) ?_
   simp only [sxZ,z6,z7,z8,j4,j5,j6,j7,j8,j9,x0,x3,x4,x5,x6,x7,reduceCtorEq,↓reduceIte,List.getElem?_set,hlen,t1,t4,t22,t23,t24,hN1,hN2]
   subst hX
   simp only [sxZ,z6,z7,z8,j4,j5,j6,j7,j8,j9,x0,x3,x4,x5,x6,x7,reduceCtorEq,↓reduceIte,List.getElem?_set,hlen,t1,t4,t22,t23,t24,hN1,zai,List.length_set,and_self]
  clear hlen t1 t22 t23 t24 hN
  rintro N2 tm ⟨hN,hlen,t1,t22,t23,t24⟩
  subst hZ
  simp only [sxZ,z6,z7,z8,j4,j5,j6,j7,j8,j9,x0,x3,x4,x5,x6,x7,reduceCtorEq,↓reduceIte,List.getElem?_set,hlen,t1,t22,t23,t24]
  exact ⟨by omega,L.length - (i + 1),by omega,i + 1,rfl,by omega,hN,rfl⟩
 ·have hlt':¬ (i:Int) < (L.length:Int):=by omega
  simp only [sxZ,z6,z7,z8,j4,j5,j6,j7,j8,j9,x0,x3,x4,x5,x6,x7,reduceCtorEq,↓reduceIte,List.getElem?_set,hlen,t23,t24,hlt']
  subst hZ
  subst hY
  simp only [sxZ,z6,z7,z8,j4,j5,j6,j7,j8,j9,x0,x3,x4,x5,x6,x7,reduceCtorEq,↓reduceIte,List.getElem?_set,hlen,t23,t24,hlt']
  exact hk
omit [Tabs Tryz.prog] in
theorem zfi:zcy []:=⟨List.Pairwise.nil,by simp⟩
omit [Tabs Tryz.prog] in
theorem zcB (e:En) (h:e.k < 20):zcy [e]:=⟨List.pairwise_singleton _ _,by simpa using h⟩
omit [Tabs Tryz.prog] in
theorem minE_one (e:En):zch [e]=0:=zik ⟨by simp,fun a ha => by
 obtain rfl:a=0:=by simpa using ha
 unfold ltE; rw [if_pos rfl]; exact decide_eq_false (by omega)⟩
omit [Tabs Tryz.prog] in
theorem zhQ (cap:Nat) (hc:0 < cap) (e:En):zeH cap e []=[e]:=by
 unfold zeH
 rw [show zdr e.k []=false from rfl,show plE e.k []=0 from rfl,if_neg Bool.false_ne_true,if_neg (by simp; omega)]
 rfl
omit [Tabs Tryz.prog] in
theorem zhR (e d:En) (h:d.k < e.k):zeH 1 e [d]=[e]:=by
 have h1:zdr e.k [d]=false:=by simp [zdr]; omega
 have h2:plE e.k [d]=1:=by simp [plE,h]
 unfold zeH
 rw [h1,h2,minE_one,if_neg Bool.false_ne_true,if_pos (by simp)]
 rfl
theorem sane31_k (hk:K objs (.b true)):zae Tryz.prog 8 [] objs K:=by
 refine zaU is_law31_sane rfl fun C _ => ?_
 rw [c_law31_sane]
 refine zaa fun Y hY => ?_
 simp only [sxZ,z6,z7,z8,j4,j5,j6,j7,j8,j9,x0,x3,x4,x5,x6,x7,reduceCtorEq,↓reduceIte]
 subst hY
 refine zaa fun Y hY => ?_
 simp only [sxZ,z6,z7,z8,j4,j5,j6,j7,j8,j9,x0,x3,x4,x5,x6,x7,reduceCtorEq,↓reduceIte]
 refine zap (new_k 1 (by decide) ?_)
 simp only [zaW,sxZ,z6,z7,z8,j4,j5,j6,j7,j8,j9,x0,x3,x4,x5,x6,x7,reduceCtorEq,↓reduceIte]
 subst hY
 refine zaa fun Y hY => ?_
 simp only [sxZ,z6,z7,z8,j4,j5,j6,j7,j8,j9,x0,x3,x4,x5,x6,x7,reduceCtorEq,↓reduceIte]
 refine zdo (v:=.agg (vc 0 100 (.row 0 []))) (zbg 0 100 (by decide) ⟨rfl,rfl⟩) ?_
 simp only [sxZ,z6,z7,z8,j4,j5,j6,j7,j8,j9,x0,x3,x4,x5,x6,x7,reduceCtorEq,↓reduceIte]
 refine zdo (v:=zaW 1 [⟨0,100,0⟩]) (put_k 1 0 100 0 [] zfi (by decide) (by decide) (by decide) (by decide) (by decide) (by decide) (by rw [zhQ _ (by decide)]; exact ⟨rfl,rfl⟩)) ?_
 simp only [zaW,sxZ,z6,z7,z8,j4,j5,j6,j7,j8,j9,x0,x3,x4,x5,x6,x7,reduceCtorEq,↓reduceIte]
 subst hY
 refine zaa fun Y hY => ?_
 simp only [sxZ,z6,z7,z8,j4,j5,j6,j7,j8,j9,x0,x3,x4,x5,x6,x7,reduceCtorEq,↓reduceIte]
 refine zbl (v:=.agg (vc 1 5 (.row 0 []))) (zbg 1 5 (by decide) rfl) rfl rfl ?_
 simp only [sxZ,z6,z7,z8,j4,j5,j6,j7,j8,j9,x0,x3,x4,x5,x6,x7,reduceCtorEq,↓reduceIte]
 refine zbl (v:=zaW 1 [⟨1,5,0⟩]) (put_k 1 1 5 0 [⟨0,100,0⟩] (zcB _ (by decide)) (by decide) (by decide) (by decide) (by decide) (by decide) (by decide) (by rw [zhR _ _ (by decide)])) rfl rfl ?_
 simp only [zaW,sxZ,z6,z7,z8,j4,j5,j6,j7,j8,j9,x0,x3,x4,x5,x6,x7,reduceCtorEq,↓reduceIte]
 subst hY
 refine zaa fun Y hY => ?_
 simp only [sxZ,z6,z7,z8,j4,j5,j6,j7,j8,j9,x0,x3,x4,x5,x6,x7,reduceCtorEq,↓reduceIte]
 refine zbl (v:=.agg (vc 0 1 (.row 0 []))) (zbg 0 1 (by decide) rfl) rfl rfl ?_
 simp only [vc,sxZ,z6,z7,z8,j4,j5,j6,j7,j8,j9,x0,x3,x4,x5,x6,x7,reduceCtorEq,↓reduceIte]
 refine zbl (v:=zg9 0 0 [⟨1,5,0⟩]) (zjg 1 0 0 [⟨1,5,0⟩] (zcB _ (by decide)) (by decide) (by decide) rfl) rfl rfl ?_
 rw [show zg9 0 0 [⟨1,5,0⟩]=.tup [.agg [.i .i64 0,.i .i64 0,.s [],.s [],.i .i64 0,.i .i64 0,.s [],.s [],.i .i64 0,.b false,.i .u64 0,.nil],.b false] from rfl]
 simp only [sxZ,z6,z7,z8,j4,j5,j6,j7,j8,j9,x0,x3,x4,x5,x6,x7,reduceCtorEq,↓reduceIte]
 subst hY
 refine zaa fun Y hY => ?_
 simp only [sxZ,z6,z7,z8,j4,j5,j6,j7,j8,j9,x0,x3,x4,x5,x6,x7,reduceCtorEq,↓reduceIte]
 refine zbl (v:=.agg (vc 1 1 (.row 0 []))) (zbg 1 1 (by decide) rfl) rfl rfl ?_
 simp only [vc,sxZ,z6,z7,z8,j4,j5,j6,j7,j8,j9,x0,x3,x4,x5,x6,x7,reduceCtorEq,↓reduceIte]
 refine zbl (v:=zg9 1 4 [⟨1,5,0⟩]) (zjg 1 1 4 [⟨1,5,0⟩] (zcB _ (by decide)) (by decide) (by decide) rfl) rfl rfl ?_
 rw [show zg9 1 4 [⟨1,5,0⟩]=.tup [.agg (vc 1 5 (.row 0 [])),.b true] from rfl]
 simp only [vc,sxZ,z6,z7,z8,j4,j5,j6,j7,j8,j9,x0,x3,x4,x5,x6,x7,reduceCtorEq,↓reduceIte]
 subst hY
 have e1:(((1:Nat):Int)=1)=True:=eq_true rfl
 simp only [sxZ,z6,z7,z8,j4,j5,j6,j7,j8,j9,x0,x3,x4,x5,x6,x7,reduceCtorEq,↓reduceIte,e1,decide_true]
 refine zap (zcO 1 [⟨1,5,0⟩] ⟨by decide,by decide,zcB _ (by decide),by simp⟩ ?_)
 simp only [sxZ,z6,z7,z8,j4,j5,j6,j7,j8,j9,x0,x3,x4,x5,x6,x7,reduceCtorEq,↓reduceIte]
 exact hk
end
end
end Go.Proofs.YtbeoijfmfkifeaaGreatDoor
namespace Go.Proofs.YtbeoijfmfkifeaaGreatDoor
open Go.RowKit Sx
end Go.Proofs.YtbeoijfmfkifeaaGreatDoor
namespace Go.Proofs.YtbeoijfmfkifeaaGreatDoor.Sx
open Go.RowKit
section
variable {P:Program} [Tabs P] {C:Cx} [On P C] {F:zas} {objs:List OB} {tm:List AV}
def Part (P:Program) (C:Cx) (sc:SCode) (F:zas) (objs:List OB) (tm:List AV):Prop:=WPS P C sc (ngK F) objs tm
theorem ptc_run {sc:SCode} (h:run P C [.code sc] objs tm F):Part P C sc F objs tm:=fun c ht => zbW c sc F objs tm ht h
end
section
variable {P:Program} [Tabs P]
end
end Go.Proofs.YtbeoijfmfkifeaaGreatDoor.Sx
