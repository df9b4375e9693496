/- The texts that the proofs of these statements reach, in their order, as few files. -/
import Derived.Test.YtceenajkieomoaaProg
import Derived.Laws.BitsAllLaws
import Derived.Laws.BitsLemmas
import Derived.Lib.IndexAny
import Derived.Shelf.Strings.IndexAnyAll
import Derived.Lib.OthersKept
import Derived.Test.YtceenajkieomoaaJu4
set_option linter.unusedVariables false
set_option linter.unusedSimpArgs false
set_option maxRecDepth 100000
namespace Go.Proofs.Ytceenajkieomoaa.Sx
open Go.RowKit
open Option renaming some -> Sa, none -> Sb
def c_law16_JrdLimits:SCode :=.seq (.reg [⟨Sa 4,.mv (.c (.b false)),Sb⟩]) (.seq (.seq (.reg [⟨Sa 13,.call 8 [],Sb⟩,⟨Sa 14,.not (.t 13),Sb⟩]) (.cond (.t 14) (.seq (.reg [⟨Sa 4,.mv (.c (.b false)),Sb⟩]) (.ret)) (.skip))) (.seq (.reg [⟨Sa 15,.mv (.t 0),Sb⟩,⟨Sa 16,.bin .rem (.t 15) (.c (.i .u8 5)),Sb⟩,⟨Sa 17,.cvi .i64 (.t 16),Sb⟩,⟨Sa 18,.bin .add (.c (.i .i64 62)) (.t 17),Sb⟩,⟨Sa 5,.mv (.t 18),Sb⟩]) (.seq (.reg [⟨Sa 19,.build [.i .i64 0,.s [],.nil,.nil] [(0,(1,.c (.i .i64 6)))],Sb⟩,⟨Sa 20,.build [.i .i64 0,.s [],.nil,.nil] [(0,(1,.c (.i .i64 7)))],Sb⟩,⟨Sa 6,.alloc 25 [.i .i64 0,.s [],.nil,.nil],Sb⟩,⟨Sa 7,.alloc 25 [.i .i64 0,.s [],.nil,.nil],Sb⟩,⟨Sb,.store 4 (.t 6) (.t 19),Sb⟩,⟨Sb,.store 4 (.t 7) (.t 20),Sb⟩]) (.seq (.seq (.reg [⟨Sa 8,.mv (.c (.i .i64 0)),Sb⟩]) (.blk 0 (.loop (.seq (.seq (.reg [⟨Sa 21,.mv (.t 8),Sb⟩,⟨Sa 22,.mv (.t 5),Sb⟩,⟨Sa 23,.bin .lss (.t 21) (.t 22),Sb⟩]) (.cond (.t 23) (.skip) (.exit 0))) (.seq (.blk 1 (.seq (.reg [⟨Sa 26,.mv (.t 8),Sb⟩,⟨Sa 27,.bin .quo (.t 26) (.c (.i .i64 26)),Sb⟩,⟨Sa 28,.bin .add (.c (.i .i64 97)) (.t 27),Sb⟩,⟨Sa 29,.cvi .u8 (.t 28),Sb⟩,⟨Sa 30,.mv (.t 8),Sb⟩,⟨Sa 31,.bin .rem (.t 30) (.c (.i .i64 26)),Sb⟩,⟨Sa 32,.bin .add (.c (.i .i64 97)) (.t 31),Sb⟩,⟨Sa 33,.cvi .u8 (.t 32),Sb⟩,⟨Sa 34,.bslice 2 [.i .u8 0,.i .u8 0] [(0,(1,.t 29)),(1,(1,.t 33))],Sb⟩,⟨Sa 35,.cvbs (.t 34),Sb⟩,⟨Sa 36,.call 21 [.t 35],Sb⟩,⟨Sa 9,.alloc 25 [.i .i64 0,.s [],.nil,.nil],Sb⟩,⟨Sb,.store 4 (.t 9) (.t 36),Sb⟩]) (.seq (.drw [⟨Sa 37,.fad 2 (.t 7),Sb⟩,⟨Sa 38,.load1 (.t 37),Sb⟩,⟨Sa 39,.fad 1 (.t 9),Sb⟩,⟨Sa 40,.load1 (.t 39),Sb⟩,⟨Sa 41,.bslice 1 [.s []] [(0,(1,.t 40))],Sb⟩,⟨Sa 42,.app 9 1 16 (.t 38) (.t 41),Sb⟩,⟨Sa 43,.fad 3 (.t 7),Sb⟩,⟨Sa 44,.load1 (.t 43),Sb⟩,⟨Sa 45,.loadn 4 (.t 9),Sb⟩,⟨Sa 46,.bslice 1 [.i .i64 0,.s [],.nil,.nil] [(0,(4,.t 45))],Sb⟩,⟨Sa 47,.app 25 4 72 (.t 44) (.t 46),Sb⟩,⟨Sa 48,.fad 2 (.t 7),Sb⟩,⟨Sb,.store 1 (.t 48) (.t 42),Sb⟩,⟨Sa 49,.fad 3 (.t 7),Sb⟩,⟨Sb,.store 1 (.t 49) (.t 47),Sb⟩] 15 [(43,(42,none)),(9,(42,none))]) (.seq (.seq (.reg [⟨Sa 50,.mv (.t 1),Sb⟩,⟨Sa 51,.bin .rem (.t 50) (.c (.i .u8 4)),Sb⟩,⟨Sa 52,.bin .eql (.t 51) (.c (.i .u8 2)),Sb⟩]) (.cond (.t 52) (.reg [⟨Sa 53,.bslice 1 [.s []] [(0,(1,.c (.s [114,101,108])))],Sb⟩,⟨Sa 54,.loadn 4 (.t 9),Sb⟩,⟨Sa 55,.bslice 1 [.i .i64 0,.s [],.nil,.nil] [(0,(4,.t 54))],Sb⟩,⟨Sa 56,.build [.i .i64 0,.s [],.nil,.nil] [(0,(1,.c (.i .i64 7))),(2,(1,.t 53)),(3,(1,.t 55))],Sb⟩,⟨Sb,.store 4 (.t 9) (.t 56),Sb⟩]) (.skip))) (.reg [⟨Sa 57,.fad 3 (.t 6),Sb⟩,⟨Sa 58,.load1 (.t 57),Sb⟩,⟨Sa 59,.loadn 4 (.t 9),Sb⟩,⟨Sa 60,.bslice 1 [.i .i64 0,.s [],.nil,.nil] [(0,(4,.t 59))],Sb⟩,⟨Sa 61,.app 25 4 72 (.t 58) (.t 60),Sb⟩,⟨Sa 62,.fad 3 (.t 6),Sb⟩,⟨Sb,.store 1 (.t 62) (.t 61),Sb⟩]))))) (.reg [⟨Sa 24,.mv (.t 8),Sb⟩,⟨Sa 25,.bin .add (.t 24) (.c (.i .i64 1)),Sb⟩,⟨Sa 8,.mv (.t 25),Sb⟩])))))) (.seq (.cra 10 25 [.i .i64 0,.s [],.nil,.nil] [([⟨Sa 63,.bslice 4 [.s [],.s [],.s [],.s []] [(0,(1,.c (.s [97,108,105,97,115,101,115]))),(1,(1,.c (.s [112,114,111,112,101,114,116,105,101,115]))),(2,(1,.c (.s [108,105,110,107,115]))),(3,(1,.c (.s [108,105,110,107,115])))],Sb⟩,⟨Sa 64,.mv (.t 1),Sb⟩,⟨Sa 65,.bin .rem (.t 64) (.c (.i .u8 4)),Sb⟩,⟨Sa 66,.iad 1 (.t 63) (.t 65),Sb⟩,⟨Sa 67,.load1 (.t 66),Sb⟩,⟨Sa 68,.bslice 1 [.s []] [(0,(1,.t 67))],Sb⟩,⟨Sa 69,.loadn 4 (.t 6),Sb⟩,⟨Sa 1000003,.mv (.c .nil),Sb⟩],⟨Sa 70,.bslo 25 4 1 [.i .i64 0,.s [],.nil,.nil] [(0,(4,.t 69))],Sb⟩)] [⟨Sa 71,.build [.i .i64 0,.s [],.nil,.nil] [(0,(1,.c (.i .i64 7))),(2,(1,.t 68)),(3,(1,.t 70))],Sb⟩] ⟨Sb,.store 4 (.t 10) (.t 71),Sb⟩) (.seq (.seq (.reg [⟨Sa 72,.mv (.t 1),Sb⟩,⟨Sa 73,.bin .rem (.t 72) (.c (.i .u8 4)),Sb⟩]) (.blk 2 (.seq (.reg [⟨Sa 75,.bin .eql (.t 73) (.c (.i .u8 1)),Sb⟩,⟨Sa 74,.mv (.t 75),Sb⟩]) (.cond (.t 74) (.reg [⟨Sa 76,.fad 3 (.t 10),Sb⟩,⟨Sa 77,.load1 (.t 76),Sb⟩,⟨Sa 78,.loadn 4 (.t 7),Sb⟩,⟨Sa 79,.iad 4 (.t 77) (.c (.i .i64 0)),Sb⟩,⟨Sb,.store 4 (.t 79) (.t 78),Sb⟩]) (.seq (.reg [⟨Sa 81,.bin .eql (.t 73) (.c (.i .u8 3)),Sb⟩,⟨Sa 80,.mv (.t 81),Sb⟩]) (.cond (.t 80) (.drw [⟨Sa 82,.fad 3 (.t 10),Sb⟩,⟨Sa 83,.load1 (.t 82),Sb⟩,⟨Sa 84,.bslice 2 [.s [],.s []] [(0,(1,.c (.s [116,105,116,108,101,115]))),(1,(1,.c (.s [114,101,108])))],Sb⟩,⟨Sa 85,.loadn 4 (.t 7),Sb⟩,⟨Sa 86,.call 21 [.c (.s [120])],Sb⟩,⟨Sa 87,.bslice 2 [.i .i64 0,.s [],.nil,.nil,.i .i64 0,.s [],.nil,.nil] [(0,(4,.t 85)),(4,(4,.t 86))],Sb⟩,⟨Sa 88,.build [.i .i64 0,.s [],.nil,.nil] [(0,(1,.c (.i .i64 7))),(2,(1,.t 84)),(3,(1,.t 87))],Sb⟩,⟨Sa 89,.bslice 1 [.i .i64 0,.s [],.nil,.nil] [(0,(4,.t 88))],Sb⟩,⟨Sa 90,.build [.i .i64 0,.s [],.nil,.nil] [(0,(1,.c (.i .i64 6))),(3,(1,.t 89))],Sb⟩,⟨Sa 91,.iad 4 (.t 83) (.c (.i .i64 0)),Sb⟩,⟨Sb,.store 4 (.t 91) (.t 90),Sb⟩] 10 []) (.skip))))))) (.seq (.reg [⟨Sa 93,.loadn 4 (.t 10),Sb⟩,⟨Sa 94,.call 11 [.t 93],Sb⟩,⟨Sa 92,.mv (.t 94),Sb⟩,⟨Sa 95,.ext (.t 92) 0,Sb⟩,⟨Sa 96,.ext (.t 92) 1,Sb⟩,⟨Sa 11,.alloc 34 [.s [],.nil,.nil,.nil],Sb⟩,⟨Sb,.store 4 (.t 11) (.t 95),Sb⟩,⟨Sa 12,.mv (.t 96),Sb⟩]) (.seq (.seq (.reg [⟨Sa 97,.mv (.t 5),Sb⟩,⟨Sa 98,.bin .gtr (.t 97) (.c (.i .i64 64)),Sb⟩]) (.cond (.t 98) (.seq (.reg [⟨Sa 99,.mv (.t 12),Sb⟩,⟨Sa 100,.bin .eql (.t 99) (.c (.i .i64 161)),Sb⟩,⟨Sa 101,.mv (.t 100),Sb⟩,⟨Sa 102,.fad 1 (.t 11),some (101,true)⟩,⟨Sa 103,.load1 (.t 102),some (101,true)⟩,⟨Sa 104,.lenr (.t 103),some (101,true)⟩,⟨Sa 105,.fad 2 (.t 11),some (101,true)⟩,⟨Sa 106,.load1 (.t 105),some (101,true)⟩,⟨Sa 107,.lenr (.t 106),some (101,true)⟩,⟨Sa 108,.bin .add (.t 104) (.t 107),some (101,true)⟩,⟨Sa 109,.fad 3 (.t 11),some (101,true)⟩,⟨Sa 110,.load1 (.t 109),some (101,true)⟩,⟨Sa 111,.lenr (.t 110),some (101,true)⟩,⟨Sa 112,.bin .add (.t 108) (.t 111),some (101,true)⟩,⟨Sa 113,.bin .eql (.t 112) (.c (.i .i64 0)),some (101,true)⟩,⟨Sa 114,.pick (.t 101) (.t 113) (.c (.b false)),Sb⟩,⟨Sa 4,.mv (.t 114),Sb⟩]) (.ret)) (.skip))) (.seq (.drw [⟨Sa 115,.mv (.t 12),Sb⟩,⟨Sa 116,.bin .eql (.t 115) (.c (.i .i64 0)),Sb⟩,⟨Sa 117,.mv (.t 116),Sb⟩,⟨Sa 118,.fad 1 (.t 11),some (117,true)⟩,⟨Sa 119,.load1 (.t 118),some (117,true)⟩,⟨Sa 120,.lenr (.t 119),some (117,true)⟩,⟨Sa 121,.fad 2 (.t 11),some (117,true)⟩,⟨Sa 122,.load1 (.t 121),some (117,true)⟩,⟨Sa 123,.lenr (.t 122),some (117,true)⟩,⟨Sa 124,.bin .add (.t 120) (.t 123),some (117,true)⟩,⟨Sa 125,.fad 3 (.t 11),some (117,true)⟩,⟨Sa 126,.load1 (.t 125),some (117,true)⟩,⟨Sa 127,.lenr (.t 126),some (117,true)⟩,⟨Sa 128,.bin .add (.t 124) (.t 127),some (117,true)⟩,⟨Sa 129,.mv (.t 5),some (117,true)⟩,⟨Sa 130,.mv (.t 5),some (117,true)⟩,⟨Sa 131,.mv (.t 5),some (117,true)⟩,⟨Sa 132,.bslice 4 [.i .i64 0,.i .i64 0,.i .i64 0,.i .i64 0] [(0,(1,.t 129)),(1,(1,.t 130)),(2,(1,.t 131)),(3,(1,.c (.i .i64 1)))],some (117,true)⟩,⟨Sa 133,.mv (.t 1),some (117,true)⟩,⟨Sa 134,.bin .rem (.t 133) (.c (.i .u8 4)),some (117,true)⟩,⟨Sa 135,.iad 1 (.t 132) (.t 134),some (117,true)⟩,⟨Sa 136,.load1 (.t 135),some (117,true)⟩,⟨Sa 137,.bin .eql (.t 128) (.t 136),some (117,true)⟩,⟨Sa 138,.pick (.t 117) (.t 137) (.c (.b false)),Sb⟩,⟨Sa 4,.mv (.t 138),Sb⟩] 25 []) (.ret))))))))))
theorem is_law16_JrdLimits:FnIs Try.prog 7 139 [.tmp 4] c_law16_JrdLimits:=⟨⟨_,_,Try.func7,rfl,rfl,by kernel_rfl,by kernel_rfl⟩⟩
def c_law16_sane:SCode :=.seq (.reg [⟨Sa 0,.mv (.c (.b false)),Sb⟩]) (.seq (.reg [⟨Sa 12,.call 10 [.c (.s [123,34,115,117,98,106,101,99,116,34,58,34,97,99,99,116,58,97,64,98,46,101,120,97,109,112,108,101,34,44,34,108,105,110,107,115,34,58,91,123,34,114,101,108,34,58,34,115,101,108,102,34,44,34,104,114,101,102,34,58,34,104,116,116,112,115,58,47,47,98,46,101,120,97,109,112,108,101,47,97,34,125,93,125])],Sb⟩,⟨Sa 11,.mv (.t 12),Sb⟩,⟨Sa 13,.ext (.t 11) 0,Sb⟩,⟨Sa 14,.ext (.t 11) 1,Sb⟩,⟨Sa 15,.ext (.t 11) 2,Sb⟩,⟨Sa 1,.alloc 25 [.i .i64 0,.s [],.nil,.nil],Sb⟩,⟨Sb,.store 4 (.t 1) (.t 13),Sb⟩,⟨Sa 2,.mv (.t 14),Sb⟩,⟨Sa 3,.mv (.t 15),Sb⟩]) (.seq (.reg [⟨Sa 17,.call 10 [.c (.s [123,34,108,105,110,107,115,34,58,91,123,125,93,125])],Sb⟩,⟨Sa 16,.mv (.t 17),Sb⟩,⟨Sa 18,.ext (.t 16) 0,Sb⟩,⟨Sa 19,.ext (.t 16) 1,Sb⟩,⟨Sa 20,.ext (.t 16) 2,Sb⟩,⟨Sa 4,.alloc 25 [.i .i64 0,.s [],.nil,.nil],Sb⟩,⟨Sb,.store 4 (.t 4) (.t 18),Sb⟩,⟨Sa 5,.mv (.t 19),Sb⟩,⟨Sa 6,.mv (.t 20),Sb⟩]) (.seq (.reg [⟨Sa 22,.loadn 4 (.t 1),Sb⟩,⟨Sa 23,.call 11 [.t 22],Sb⟩,⟨Sa 21,.mv (.t 23),Sb⟩,⟨Sa 24,.ext (.t 21) 0,Sb⟩,⟨Sa 25,.ext (.t 21) 1,Sb⟩,⟨Sa 7,.alloc 34 [.s [],.nil,.nil,.nil],Sb⟩,⟨Sb,.store 4 (.t 7) (.t 24),Sb⟩,⟨Sa 8,.mv (.t 25),Sb⟩]) (.seq (.reg [⟨Sa 27,.loadn 4 (.t 4),Sb⟩,⟨Sa 28,.call 11 [.t 27],Sb⟩,⟨Sa 26,.mv (.t 28),Sb⟩,⟨Sa 29,.ext (.t 26) 0,Sb⟩,⟨Sa 30,.ext (.t 26) 1,Sb⟩,⟨Sa 9,.alloc 34 [.s [],.nil,.nil,.nil],Sb⟩,⟨Sb,.store 4 (.t 9) (.t 29),Sb⟩,⟨Sa 10,.mv (.t 30),Sb⟩]) (.seq (.reg [⟨Sa 31,.mv (.t 8),Sb⟩,⟨Sa 32,.bin .eql (.t 31) (.c (.i .i64 0)),Sb⟩,⟨Sa 33,.mv (.t 32),Sb⟩,⟨Sa 34,.fad 0 (.t 7),some (33,true)⟩,⟨Sa 35,.load1 (.t 34),some (33,true)⟩,⟨Sa 36,.bin .eql (.t 35) (.c (.s [97,99,99,116,58,97,64,98,46,101,120,97,109,112,108,101])),some (33,true)⟩,⟨Sa 37,.pick (.t 33) (.t 36) (.c (.b false)),Sb⟩,⟨Sa 38,.mv (.t 37),Sb⟩,⟨Sa 39,.fad 3 (.t 7),some (38,true)⟩,⟨Sa 40,.load1 (.t 39),some (38,true)⟩,⟨Sa 41,.lenr (.t 40),some (38,true)⟩,⟨Sa 42,.bin .eql (.t 41) (.c (.i .i64 1)),some (38,true)⟩,⟨Sa 43,.pick (.t 38) (.t 42) (.c (.b false)),Sb⟩,⟨Sa 44,.mv (.t 43),Sb⟩,⟨Sa 45,.fad 3 (.t 7),some (44,true)⟩,⟨Sa 46,.load1 (.t 45),some (44,true)⟩,⟨Sa 47,.iad 6 (.t 46) (.c (.i .i64 0)),some (44,true)⟩,⟨Sa 48,.fad 0 (.t 47),some (44,true)⟩,⟨Sa 49,.load1 (.t 48),some (44,true)⟩,⟨Sa 50,.bin .eql (.t 49) (.c (.s [115,101,108,102])),some (44,true)⟩,⟨Sa 51,.pick (.t 44) (.t 50) (.c (.b false)),Sb⟩,⟨Sa 52,.mv (.t 51),Sb⟩,⟨Sa 53,.mv (.t 10),some (52,true)⟩,⟨Sa 54,.bin .eql (.t 53) (.c (.i .i64 160)),some (52,true)⟩,⟨Sa 55,.pick (.t 52) (.t 54) (.c (.b false)),Sb⟩,⟨Sa 56,.mv (.t 55),Sb⟩,⟨Sa 57,.loadn 4 (.t 7),some (56,true)⟩,⟨Sa 58,.call 15 [.t 57,.c (.s [115,101,108,102])],some (56,true)⟩,⟨Sa 59,.lenr (.t 58),some (56,true)⟩,⟨Sa 60,.bin .eql (.t 59) (.c (.i .i64 1)),some (56,true)⟩,⟨Sa 61,.pick (.t 56) (.t 60) (.c (.b false)),Sb⟩,⟨Sa 0,.mv (.t 61),Sb⟩]) (.ret))))))
theorem is_law16_sane:FnIs Try.prog 8 62 [.tmp 0] c_law16_sane:=⟨⟨_,_,Try.func8,rfl,rfl,by kernel_rfl,by kernel_rfl⟩⟩
def c_ref14_Parse:SCode :=.seq (.reg [⟨Sa 2,.alloc 25 [.i .i64 0,.s [],.nil,.nil],Sb⟩,⟨Sa 3,.mv (.c (.i .i64 0)),Sb⟩,⟨Sa 4,.mv (.c (.i .i64 0)),Sb⟩]) (.seq (.seq (.reg [⟨Sa 8,.mv (.t 0),Sb⟩,⟨Sa 9,.lens (.t 8),Sb⟩,⟨Sa 10,.bin .gtr (.t 9) (.c (.i .i64 1048576)),Sb⟩]) (.cond (.t 10) (.seq (.reg [⟨Sa 11,.build [.i .i64 0,.s [],.nil,.nil] [],Sb⟩,⟨Sb,.store 4 (.t 2) (.t 11),Sb⟩,⟨Sa 3,.mv (.c (.i .i64 0)),Sb⟩,⟨Sa 4,.mv (.c (.i .i64 142)),Sb⟩]) (.ret)) (.skip))) (.seq (.reg [⟨Sa 12,.mv (.t 0),Sb⟩,⟨Sa 13,.build [.s [],.i .i64 0,.i .i64 0,.i .i64 0,.i .i64 0] [(0,(1,.t 12))],Sb⟩,⟨Sa 14,.box 56 (.t 13),Sb⟩,⟨Sa 5,.mv (.t 14),Sb⟩]) (.seq (.reg [⟨Sa 15,.mv (.t 5),Sb⟩,⟨Sa 16,.mv (.t 5),Sb⟩,⟨Sa 17,.call 24 [.t 16],Sb⟩,⟨Sa 18,.call 23 [.t 15,.t 17,.c (.i .i64 0)],Sb⟩,⟨Sa 6,.alloc 25 [.i .i64 0,.s [],.nil,.nil],Sb⟩,⟨Sb,.store 4 (.t 6) (.t 18),Sb⟩]) (.seq (.seq (.reg [⟨Sa 19,.mv (.t 5),Sb⟩,⟨Sa 20,.call 24 [.t 19],Sb⟩,⟨Sa 7,.alloc 59 [.i .i64 0,.s [],.i .i64 0],Sb⟩,⟨Sb,.store 3 (.t 7) (.t 20),Sb⟩]) (.seq (.reg [⟨Sa 21,.mv (.t 5),Sb⟩,⟨Sa 22,.nck (.t 21),Sb⟩,⟨Sa 23,.fad 3 (.t 22),Sb⟩,⟨Sa 24,.load1 (.t 23),Sb⟩,⟨Sa 25,.bin .eql (.t 24) (.c (.i .i64 0)),Sb⟩,⟨Sa 26,.mv (.t 25),Sb⟩,⟨Sa 27,.fad 0 (.t 7),some (26,true)⟩,⟨Sa 28,.load1 (.t 27),some (26,true)⟩,⟨Sa 29,.bin .neq (.t 28) (.c (.i .i64 1)),some (26,true)⟩,⟨Sa 30,.pick (.t 26) (.t 29) (.c (.b false)),Sb⟩]) (.cond (.t 30) (.reg [⟨Sa 31,.mv (.t 5),Sb⟩,⟨Sa 32,.fad 2 (.t 7),Sb⟩,⟨Sa 33,.load1 (.t 32),Sb⟩,⟨Sa 34,.call 25 [.t 31,.t 33,.c (.i .i64 140)],Sb⟩]) (.skip)))) (.seq (.seq (.reg [⟨Sa 35,.mv (.t 5),Sb⟩,⟨Sa 36,.nck (.t 35),Sb⟩,⟨Sa 37,.fad 3 (.t 36),Sb⟩,⟨Sa 38,.load1 (.t 37),Sb⟩,⟨Sa 39,.bin .neq (.t 38) (.c (.i .i64 0)),Sb⟩]) (.cond (.t 39) (.seq (.drw [⟨Sa 40,.build [.i .i64 0,.s [],.nil,.nil] [],Sb⟩,⟨Sa 41,.mv (.t 5),Sb⟩,⟨Sa 42,.nck (.t 41),Sb⟩,⟨Sa 43,.fad 4 (.t 42),Sb⟩,⟨Sa 44,.load1 (.t 43),Sb⟩,⟨Sa 45,.mv (.t 5),Sb⟩,⟨Sa 46,.nck (.t 45),Sb⟩,⟨Sa 47,.fad 3 (.t 46),Sb⟩,⟨Sa 48,.load1 (.t 47),Sb⟩,⟨Sb,.store 4 (.t 2) (.t 40),Sb⟩,⟨Sa 3,.mv (.t 44),Sb⟩,⟨Sa 4,.mv (.t 48),Sb⟩] 12 [(43,(2,none)),(47,(2,none))]) (.ret)) (.skip))) (.seq (.reg [⟨Sa 49,.loadn 4 (.t 6),Sb⟩,⟨Sa 50,.mv (.t 0),Sb⟩,⟨Sa 51,.lens (.t 50),Sb⟩,⟨Sb,.store 4 (.t 2) (.t 49),Sb⟩,⟨Sa 3,.mv (.t 51),Sb⟩,⟨Sa 4,.mv (.c (.i .i64 0)),Sb⟩]) (.ret)))))))
theorem is_ref14_Parse:FnIs Try.prog 10 52 [.celln 2 4,.tmp 3,.tmp 4] c_ref14_Parse:=⟨⟨_,_,Try.func10,rfl,rfl,by kernel_rfl,by kernel_rfl⟩⟩
def c_jrd_Decode:SCode :=.seq (.reg [⟨Sa 1,.box 25 (.t 0),Sb⟩,⟨Sa 2,.alloc 34 [.s [],.nil,.nil,.nil],Sb⟩,⟨Sa 3,.mv (.c (.i .i64 0)),Sb⟩]) (.seq (.reg [⟨Sa 6,.loadn 4 (.t 1),Sb⟩,⟨Sa 7,.call 26 [.t 6],Sb⟩,⟨Sa 4,.mv (.t 7),Sb⟩]) (.seq (.reg [⟨Sa 8,.mv (.t 4),Sb⟩,⟨Sa 9,.call 27 [.t 8,.c (.s [115,117,98,106,101,99,116])],Sb⟩,⟨Sa 10,.mv (.t 4),Sb⟩,⟨Sa 11,.call 28 [.t 10,.c (.s [97,108,105,97,115,101,115])],Sb⟩,⟨Sa 12,.mv (.t 4),Sb⟩,⟨Sa 13,.call 29 [.t 12,.c (.s [112,114,111,112,101,114,116,105,101,115]),.c (.b true)],Sb⟩,⟨Sa 14,.mv (.t 4),Sb⟩,⟨Sa 15,.call 30 [.t 14,.c (.s [108,105,110,107,115])],Sb⟩,⟨Sa 16,.build [.s [],.nil,.nil,.nil] [(0,(1,.t 9)),(1,(1,.t 11)),(2,(1,.t 13)),(3,(1,.t 15))],Sb⟩,⟨Sa 5,.alloc 34 [.s [],.nil,.nil,.nil],Sb⟩,⟨Sb,.store 4 (.t 5) (.t 16),Sb⟩]) (.seq (.seq (.reg [⟨Sa 17,.mv (.t 4),Sb⟩,⟨Sa 18,.nck (.t 17),Sb⟩,⟨Sa 19,.fad 0 (.t 18),Sb⟩,⟨Sa 20,.fad 0 (.t 19),Sb⟩,⟨Sa 21,.load1 (.t 20),Sb⟩,⟨Sa 22,.bin .neq (.t 21) (.c (.i .i64 0)),Sb⟩]) (.cond (.t 22) (.seq (.drw [⟨Sa 23,.build [.s [],.nil,.nil,.nil] [],Sb⟩,⟨Sa 24,.mv (.t 4),Sb⟩,⟨Sa 25,.nck (.t 24),Sb⟩,⟨Sa 26,.fad 0 (.t 25),Sb⟩,⟨Sa 27,.fad 0 (.t 26),Sb⟩,⟨Sa 28,.load1 (.t 27),Sb⟩,⟨Sb,.store 4 (.t 2) (.t 23),Sb⟩,⟨Sa 3,.mv (.t 28),Sb⟩] 8 [(27,(2,none))]) (.ret)) (.skip))) (.seq (.reg [⟨Sa 29,.loadn 4 (.t 5),Sb⟩,⟨Sb,.store 4 (.t 2) (.t 29),Sb⟩,⟨Sa 3,.mv (.c (.i .i64 0)),Sb⟩]) (.ret)))))
theorem is_jrd_Decode:FnIs Try.prog 11 30 [.celln 2 4,.tmp 3] c_jrd_Decode:=⟨⟨_,_,Try.func11,rfl,rfl,by kernel_rfl,by kernel_rfl⟩⟩
def c_jrd_Find:SCode :=.seq (.reg [⟨Sa 2,.box 34 (.t 0),Sb⟩,⟨Sa 4,.mv (.c .nil),Sb⟩]) (.seq (.reg [⟨Sa 5,.mv (.c .nil),Sb⟩]) (.seq (.seq (.reg [⟨Sa 8,.fad 3 (.t 2),Sb⟩,⟨Sa 9,.load1 (.t 8),Sb⟩,⟨Sa 10,.lenr (.t 9),Sb⟩,⟨Sa 11,.mv (.c (.i .i64 0)),Sb⟩]) (.blk 0 (.loop (.seq (.reg [⟨Sa 12,.bin .lss (.t 11) (.t 10),Sb⟩]) (.seq (.cond (.t 12) (.skip) (.exit 0)) (.seq (.blk 1 (.seq (.reg [⟨Sa 13,.iad 6 (.t 9) (.t 11),Sb⟩,⟨Sa 14,.loadn 6 (.t 13),Sb⟩,⟨Sa 7,.alloc 45 [.s [],.s [],.s [],.s [],.nil,.nil],Sb⟩,⟨Sb,.store 6 (.t 7) (.t 14),Sb⟩]) (.seq (.reg [⟨Sa 15,.fad 0 (.t 7),Sb⟩,⟨Sa 16,.load1 (.t 15),Sb⟩,⟨Sa 17,.mv (.t 1),Sb⟩,⟨Sa 18,.bin .eql (.t 16) (.t 17),Sb⟩]) (.cond (.t 18) (.seq (.reg [⟨Sa 19,.fad 4 (.t 7),Sb⟩,⟨Sa 20,.load1 (.t 19),Sb⟩,⟨Sa 21,.call 37 [.t 20],Sb⟩,⟨Sa 22,.fad 4 (.t 7),Sb⟩,⟨Sb,.store 1 (.t 22) (.t 21),Sb⟩]) (.seq (.reg [⟨Sa 23,.fad 5 (.t 7),Sb⟩,⟨Sa 24,.load1 (.t 23),Sb⟩,⟨Sa 25,.call 37 [.t 24],Sb⟩,⟨Sa 26,.fad 5 (.t 7),Sb⟩,⟨Sb,.store 1 (.t 26) (.t 25),Sb⟩]) (.reg [⟨Sa 27,.mv (.t 5),Sb⟩,⟨Sa 28,.loadn 6 (.t 7),Sb⟩,⟨Sa 29,.bslice 1 [.s [],.s [],.s [],.s [],.nil,.nil] [(0,(6,.t 28))],Sb⟩,⟨Sa 30,.app 45 6 112 (.t 27) (.t 29),Sb⟩,⟨Sa 5,.mv (.t 30),Sb⟩]))) (.skip))))) (.reg [⟨Sa 31,.bin .add (.t 11) (.c (.i .i64 1)),Sb⟩,⟨Sa 11,.mv (.t 31),Sb⟩]))))))) (.seq (.reg [⟨Sa 32,.mv (.t 5),Sb⟩,⟨Sa 4,.mv (.t 32),Sb⟩]) (.ret))))
theorem is_jrd_Find:FnIs Try.prog 15 33 [.tmp 4] c_jrd_Find:=⟨⟨_,_,Try.func15,rfl,rfl,by kernel_rfl,by kernel_rfl⟩⟩
def c_ref16_Text:SCode :=.seq (.reg [⟨Sa 2,.alloc 25 [.i .i64 0,.s [],.nil,.nil],Sb⟩]) (.seq (.reg [⟨Sa 3,.mv (.t 0),Sb⟩,⟨Sa 4,.build [.i .i64 0,.s [],.nil,.nil] [(0,(1,.c (.i .i64 5))),(1,(1,.t 3))],Sb⟩,⟨Sb,.store 4 (.t 2) (.t 4),Sb⟩]) (.ret))
theorem is_ref16_Text:FnIs Try.prog 21 5 [.celln 2 4] c_ref16_Text:=⟨⟨_,_,Try.func21,rfl,rfl,by kernel_rfl,by kernel_rfl⟩⟩
def c_ref14_parser_value:SCode :=.seq (.reg [⟨Sa 4,.box 59 (.t 1),Sb⟩,⟨Sa 6,.alloc 25 [.i .i64 0,.s [],.nil,.nil],Sb⟩]) (.seq (.reg [⟨Sa 11,.fad 0 (.t 4),Sb⟩,⟨Sa 12,.load1 (.t 11),Sb⟩,⟨Sa 13,.bin .eql (.t 12) (.c (.i .i64 3)),Sb⟩,⟨Sa 14,.mv (.t 13),Sb⟩,⟨Sa 15,.fad 0 (.t 4),some (14,false)⟩,⟨Sa 16,.load1 (.t 15),some (14,false)⟩,⟨Sa 17,.bin .eql (.t 16) (.c (.i .i64 4)),some (14,false)⟩,⟨Sa 18,.pick (.t 14) (.c (.b true)) (.t 17),Sb⟩,⟨Sa 19,.mv (.t 18),Sb⟩,⟨Sa 20,.fad 0 (.t 4),some (19,false)⟩,⟨Sa 21,.load1 (.t 20),some (19,false)⟩,⟨Sa 22,.bin .eql (.t 21) (.c (.i .i64 5)),some (19,false)⟩,⟨Sa 23,.pick (.t 19) (.c (.b true)) (.t 22),Sb⟩,⟨Sa 24,.mv (.t 23),Sb⟩,⟨Sa 25,.loadn 3 (.t 4),some (24,false)⟩,⟨Sa 26,.call 49 [.t 25,.c (.s [91])],some (24,false)⟩,⟨Sa 27,.pick (.t 24) (.c (.b true)) (.t 26),Sb⟩,⟨Sa 28,.mv (.t 27),Sb⟩,⟨Sa 29,.loadn 3 (.t 4),some (28,false)⟩,⟨Sa 30,.call 49 [.t 29,.c (.s [123])],some (28,false)⟩,⟨Sa 31,.pick (.t 28) (.c (.b true)) (.t 30),Sb⟩,⟨Sa 7,.mv (.t 31),Sb⟩]) (.seq (.seq (.reg [⟨Sa 32,.mv (.t 0),Sb⟩,⟨Sa 33,.nck (.t 32),Sb⟩,⟨Sa 34,.fad 3 (.t 33),Sb⟩,⟨Sa 35,.load1 (.t 34),Sb⟩,⟨Sa 36,.bin .neq (.t 35) (.c (.i .i64 0)),Sb⟩]) (.cond (.t 36) (.seq (.reg [⟨Sa 37,.build [.i .i64 0,.s [],.nil,.nil] [],Sb⟩,⟨Sb,.store 4 (.t 6) (.t 37),Sb⟩]) (.ret)) (.skip))) (.seq (.seq (.reg [⟨Sa 38,.mv (.t 7),Sb⟩,⟨Sa 39,.not (.t 38),Sb⟩]) (.cond (.t 39) (.seq (.reg [⟨Sa 40,.mv (.t 0),Sb⟩,⟨Sa 41,.fad 2 (.t 4),Sb⟩,⟨Sa 42,.load1 (.t 41),Sb⟩,⟨Sa 43,.call 25 [.t 40,.t 42,.c (.i .i64 140)],Sb⟩]) (.seq (.reg [⟨Sa 44,.build [.i .i64 0,.s [],.nil,.nil] [],Sb⟩,⟨Sb,.store 4 (.t 6) (.t 44),Sb⟩]) (.ret))) (.skip))) (.seq (.seq (.reg [⟨Sa 45,.fad 0 (.t 4),Sb⟩,⟨Sa 46,.load1 (.t 45),Sb⟩,⟨Sa 47,.bin .eql (.t 46) (.c (.i .i64 2)),Sb⟩,⟨Sa 48,.mv (.t 47),Sb⟩,⟨Sa 49,.mv (.t 2),some (48,true)⟩,⟨Sa 50,.bin .eql (.t 49) (.c (.i .i64 64)),some (48,true)⟩,⟨Sa 51,.pick (.t 48) (.t 50) (.c (.b false)),Sb⟩]) (.cond (.t 51) (.seq (.reg [⟨Sa 52,.mv (.t 0),Sb⟩,⟨Sa 53,.fad 2 (.t 4),Sb⟩,⟨Sa 54,.load1 (.t 53),Sb⟩,⟨Sa 55,.call 25 [.t 52,.t 54,.c (.i .i64 141)],Sb⟩]) (.seq (.reg [⟨Sa 56,.build [.i .i64 0,.s [],.nil,.nil] [],Sb⟩,⟨Sb,.store 4 (.t 6) (.t 56),Sb⟩]) (.ret))) (.skip))) (.seq (.reg [⟨Sa 57,.fad 1 (.t 4),Sb⟩,⟨Sa 58,.load1 (.t 57),Sb⟩,⟨Sa 59,.build [.i .i64 0,.s [],.nil,.nil] [(0,(1,.c (.i .i64 5))),(1,(1,.t 58))],Sb⟩,⟨Sa 8,.alloc 25 [.i .i64 0,.s [],.nil,.nil],Sb⟩,⟨Sb,.store 4 (.t 8) (.t 59),Sb⟩]) (.seq (.seq (.reg [⟨Sa 60,.fad 0 (.t 4),Sb⟩,⟨Sa 61,.load1 (.t 60),Sb⟩,⟨Sa 62,.bin .eql (.t 61) (.c (.i .i64 4)),Sb⟩]) (.cond (.t 62) (.seq (.reg [⟨Sa 64,.fad 1 (.t 4),Sb⟩,⟨Sa 65,.load1 (.t 64),Sb⟩,⟨Sa 66,.call 50 [.t 65],Sb⟩,⟨Sa 63,.mv (.t 66),Sb⟩,⟨Sa 67,.ext (.t 63) 0,Sb⟩,⟨Sa 68,.ext (.t 63) 1,Sb⟩,⟨Sa 9,.mv (.t 67),Sb⟩,⟨Sa 10,.mv (.t 68),Sb⟩]) (.seq (.seq (.reg [⟨Sa 69,.mv (.t 10),Sb⟩,⟨Sa 70,.bin .neq (.t 69) (.c (.i .i64 0)),Sb⟩]) (.cond (.t 70) (.reg [⟨Sa 71,.mv (.t 0),Sb⟩,⟨Sa 72,.fad 2 (.t 4),Sb⟩,⟨Sa 73,.load1 (.t 72),Sb⟩,⟨Sa 74,.mv (.t 10),Sb⟩,⟨Sa 75,.call 25 [.t 71,.t 73,.t 74],Sb⟩]) (.skip))) (.reg [⟨Sa 76,.mv (.t 9),Sb⟩,⟨Sa 77,.build [.i .i64 0,.s [],.nil,.nil] [(0,(1,.c (.i .i64 4))),(1,(1,.t 76))],Sb⟩,⟨Sb,.store 4 (.t 8) (.t 77),Sb⟩]))) (.skip))) (.seq (.seq (.reg [⟨Sa 78,.mv (.t 0),Sb⟩,⟨Sa 79,.nck (.t 78),Sb⟩,⟨Sa 80,.fad 2 (.t 79),Sb⟩,⟨Sa 81,.load1 (.t 80),Sb⟩,⟨Sa 82,.bin .add (.t 81) (.c (.i .i64 1)),Sb⟩,⟨Sa 83,.nck (.t 78),Sb⟩,⟨Sa 84,.fad 2 (.t 83),Sb⟩,⟨Sb,.store 1 (.t 84) (.t 82),Sb⟩]) (.seq (.reg [⟨Sa 85,.mv (.t 0),Sb⟩,⟨Sa 86,.nck (.t 85),Sb⟩,⟨Sa 87,.fad 2 (.t 86),Sb⟩,⟨Sa 88,.load1 (.t 87),Sb⟩,⟨Sa 89,.bin .gtr (.t 88) (.c (.i .i64 20000)),Sb⟩]) (.cond (.t 89) (.reg [⟨Sa 90,.mv (.t 0),Sb⟩,⟨Sa 91,.fad 2 (.t 4),Sb⟩,⟨Sa 92,.load1 (.t 91),Sb⟩,⟨Sa 93,.call 25 [.t 90,.t 92,.c (.i .i64 142)],Sb⟩]) (.skip)))) (.seq (.blk 0 (.seq (.reg [⟨Sa 95,.fad 0 (.t 4),Sb⟩,⟨Sa 96,.load1 (.t 95),Sb⟩,⟨Sa 97,.bin .eql (.t 96) (.c (.i .i64 5)),Sb⟩,⟨Sa 94,.mv (.t 97),Sb⟩]) (.cond (.t 94) (.seq (.reg [⟨Sa 98,.fad 1 (.t 4),Sb⟩,⟨Sa 99,.load1 (.t 98),Sb⟩,⟨Sa 100,.call 51 [.t 99],Sb⟩,⟨Sa 101,.build [.i .i64 0,.s [],.nil,.nil] [(0,(1,.t 100))],Sb⟩,⟨Sb,.store 4 (.t 6) (.t 101),Sb⟩]) (.ret)) (.seq (.reg [⟨Sa 103,.loadn 3 (.t 4),Sb⟩,⟨Sa 104,.call 49 [.t 103,.c (.s [91])],Sb⟩,⟨Sa 102,.mv (.t 104),Sb⟩]) (.cond (.t 102) (.seq (.reg [⟨Sa 105,.mv (.t 0),Sb⟩,⟨Sa 106,.mv (.t 2),Sb⟩,⟨Sa 107,.bin .add (.t 106) (.c (.i .i64 1)),Sb⟩,⟨Sa 108,.call 52 [.t 105,.t 107],Sb⟩,⟨Sb,.store 4 (.t 6) (.t 108),Sb⟩]) (.ret)) (.seq (.reg [⟨Sa 110,.loadn 3 (.t 4),Sb⟩,⟨Sa 111,.call 49 [.t 110,.c (.s [123])],Sb⟩,⟨Sa 109,.mv (.t 111),Sb⟩]) (.cond (.t 109) (.seq (.reg [⟨Sa 112,.mv (.t 0),Sb⟩,⟨Sa 113,.mv (.t 2),Sb⟩,⟨Sa 114,.bin .add (.t 113) (.c (.i .i64 1)),Sb⟩,⟨Sa 115,.call 53 [.t 112,.t 114],Sb⟩,⟨Sb,.store 4 (.t 6) (.t 115),Sb⟩]) (.ret)) (.skip)))))))) (.seq (.reg [⟨Sa 116,.loadn 4 (.t 8),Sb⟩,⟨Sb,.store 4 (.t 6) (.t 116),Sb⟩]) (.ret))))))))))
theorem is_ref14_parser_value:FnIs Try.prog 23 117 [.celln 6 4] c_ref14_parser_value:=⟨⟨_,_,Try.func23,rfl,rfl,by kernel_rfl,by kernel_rfl⟩⟩
def c_ref14_parser_next:SCode :=.seq (.reg [⟨Sa 2,.alloc 59 [.i .i64 0,.s [],.i .i64 0],Sb⟩]) (.seq (.seq (.reg [⟨Sa 6,.mv (.t 0),Sb⟩,⟨Sa 7,.nck (.t 6),Sb⟩,⟨Sa 8,.fad 3 (.t 7),Sb⟩,⟨Sa 9,.load1 (.t 8),Sb⟩,⟨Sa 10,.bin .neq (.t 9) (.c (.i .i64 0)),Sb⟩]) (.cond (.t 10) (.seq (.reg [⟨Sa 11,.build [.i .i64 0,.s [],.i .i64 0] [],Sb⟩,⟨Sb,.store 3 (.t 2) (.t 11),Sb⟩]) (.ret)) (.skip))) (.seq (.drw [⟨Sa 13,.mv (.t 0),Sb⟩,⟨Sa 14,.nck (.t 13),Sb⟩,⟨Sa 15,.fad 0 (.t 14),Sb⟩,⟨Sa 16,.load1 (.t 15),Sb⟩,⟨Sa 17,.mv (.t 0),Sb⟩,⟨Sa 18,.nck (.t 17),Sb⟩,⟨Sa 19,.fad 1 (.t 18),Sb⟩,⟨Sa 20,.load1 (.t 19),Sb⟩,⟨Sa 21,.pcall 54 [.t 16,.t 20],Sb⟩,⟨Sa 12,.mv (.t 21),Sb⟩,⟨Sa 22,.ext (.t 12) 0,Sb⟩,⟨Sa 23,.ext (.t 12) 1,Sb⟩,⟨Sa 24,.ext (.t 12) 2,Sb⟩,⟨Sa 3,.alloc 59 [.i .i64 0,.s [],.i .i64 0],Sb⟩,⟨Sb,.store 3 (.t 3) (.t 22),Sb⟩,⟨Sa 4,.mv (.t 23),Sb⟩,⟨Sa 5,.mv (.t 24),Sb⟩] 17 [(15,(3,none)),(19,(3,none))]) (.seq (.seq (.reg [⟨Sa 25,.mv (.t 5),Sb⟩,⟨Sa 26,.bin .neq (.t 25) (.c (.i .i64 0)),Sb⟩]) (.cond (.t 26) (.seq (.reg [⟨Sa 27,.mv (.t 0),Sb⟩,⟨Sa 28,.mv (.t 0),Sb⟩,⟨Sa 29,.nck (.t 28),Sb⟩,⟨Sa 30,.fad 1 (.t 29),Sb⟩,⟨Sa 31,.load1 (.t 30),Sb⟩,⟨Sa 32,.mv (.t 5),Sb⟩,⟨Sa 33,.call 25 [.t 27,.t 31,.t 32],Sb⟩]) (.seq (.reg [⟨Sa 34,.build [.i .i64 0,.s [],.i .i64 0] [],Sb⟩,⟨Sb,.store 3 (.t 2) (.t 34),Sb⟩]) (.ret))) (.skip))) (.seq (.reg [⟨Sa 35,.mv (.t 0),Sb⟩,⟨Sa 36,.mv (.t 4),Sb⟩,⟨Sa 37,.nck (.t 35),Sb⟩,⟨Sa 38,.fad 1 (.t 37),Sb⟩,⟨Sb,.store 1 (.t 38) (.t 36),Sb⟩]) (.seq (.reg [⟨Sa 39,.loadn 3 (.t 3),Sb⟩,⟨Sb,.store 3 (.t 2) (.t 39),Sb⟩]) (.ret))))))
theorem is_ref14_parser_next:FnIs Try.prog 24 40 [.celln 2 3] c_ref14_parser_next:=⟨⟨_,_,Try.func24,rfl,rfl,by kernel_rfl,by kernel_rfl⟩⟩
def c_ref14_parser_stop:SCode :=.seq (.reg [⟨Sa 6,.mv (.t 0),Sb⟩,⟨Sa 7,.nck (.t 6),Sb⟩,⟨Sa 8,.fad 3 (.t 7),Sb⟩,⟨Sa 9,.load1 (.t 8),Sb⟩,⟨Sa 10,.bin .eql (.t 9) (.c (.i .i64 0)),Sb⟩]) (.cond (.t 10) (.reg [⟨Sa 11,.mv (.t 0),Sb⟩,⟨Sa 12,.mv (.t 0),Sb⟩,⟨Sa 13,.mv (.t 2),Sb⟩,⟨Sa 14,.mv (.t 1),Sb⟩,⟨Sa 15,.nck (.t 11),Sb⟩,⟨Sa 16,.fad 3 (.t 15),Sb⟩,⟨Sb,.store 1 (.t 16) (.t 13),Sb⟩,⟨Sa 17,.nck (.t 12),Sb⟩,⟨Sa 18,.fad 4 (.t 17),Sb⟩,⟨Sb,.store 1 (.t 18) (.t 14),Sb⟩]) (.skip))
theorem is_ref14_parser_stop:FnIs Try.prog 25 19 [] c_ref14_parser_stop:=⟨⟨_,_,Try.func25,rfl,rfl,by kernel_rfl,by kernel_rfl⟩⟩
def c_jrd_newDecoder:SCode :=.seq (.reg [⟨Sa 1,.box 25 (.t 0),Sb⟩,⟨Sa 2,.mv (.c (.o (.pointer none))),Sb⟩]) (.seq (.reg [⟨Sa 4,.loadn 4 (.t 1),Sb⟩,⟨Sa 5,.build [.i .i64 0,.i .i64 0,.s [],.nil,.nil] [(1,(4,.t 4))],Sb⟩,⟨Sa 6,.box 71 (.t 5),Sb⟩,⟨Sa 3,.mv (.t 6),Sb⟩]) (.seq (.seq (.reg [⟨Sa 7,.fad 0 (.t 1),Sb⟩,⟨Sa 8,.load1 (.t 7),Sb⟩,⟨Sa 9,.bin .neq (.t 8) (.c (.i .i64 7)),Sb⟩]) (.cond (.t 9) (.reg [⟨Sa 10,.mv (.t 3),Sb⟩,⟨Sa 11,.nck (.t 10),Sb⟩,⟨Sa 12,.fad 0 (.t 11),Sb⟩,⟨Sa 13,.call 55 [.t 12,.c (.i .i64 160)],Sb⟩]) (.skip))) (.seq (.reg [⟨Sa 14,.mv (.t 3),Sb⟩,⟨Sa 2,.mv (.t 14),Sb⟩]) (.ret))))
theorem is_jrd_newDecoder:FnIs Try.prog 26 15 [.tmp 2] c_jrd_newDecoder:=⟨⟨_,_,Try.func26,rfl,rfl,by kernel_rfl,by kernel_rfl⟩⟩
def c_jrd_decoder_text:SCode :=.seq (.reg [⟨Sa 4,.mv (.c (.s [])),Sb⟩]) (.seq (.reg [⟨Sa 8,.mv (.t 0),Sb⟩,⟨Sa 9,.mv (.t 1),Sb⟩,⟨Sa 10,.call 56 [.t 8,.t 9,.c (.i .i64 5)],Sb⟩,⟨Sa 7,.mv (.t 10),Sb⟩,⟨Sa 11,.ext (.t 7) 0,Sb⟩,⟨Sa 12,.ext (.t 7) 1,Sb⟩,⟨Sa 5,.alloc 25 [.i .i64 0,.s [],.nil,.nil],Sb⟩,⟨Sb,.store 4 (.t 5) (.t 11),Sb⟩,⟨Sa 6,.mv (.t 12),Sb⟩]) (.seq (.reg [⟨Sa 13,.fad 1 (.t 5),Sb⟩,⟨Sa 14,.load1 (.t 13),Sb⟩,⟨Sa 4,.mv (.t 14),Sb⟩]) (.ret)))
theorem is_jrd_decoder_text:FnIs Try.prog 27 15 [.tmp 4] c_jrd_decoder_text:=⟨⟨_,_,Try.func27,rfl,rfl,by kernel_rfl,by kernel_rfl⟩⟩
def c_jrd_decoder_texts:SCode :=.seq (.reg [⟨Sa 4,.mv (.c .nil),Sb⟩]) (.seq (.reg [⟨Sa 5,.mv (.c .nil),Sb⟩]) (.seq (.seq (.reg [⟨Sa 8,.mv (.t 0),Sb⟩,⟨Sa 9,.mv (.t 1),Sb⟩,⟨Sa 10,.call 57 [.t 8,.t 9,.c (.i .i64 64)],Sb⟩,⟨Sa 11,.lenr (.t 10),Sb⟩,⟨Sa 12,.mv (.c (.i .i64 0)),Sb⟩]) (.blk 0 (.loop (.seq (.reg [⟨Sa 13,.bin .lss (.t 12) (.t 11),Sb⟩]) (.seq (.cond (.t 13) (.skip) (.exit 0)) (.seq (.blk 1 (.seq (.reg [⟨Sa 14,.iad 4 (.t 10) (.t 12),Sb⟩,⟨Sa 15,.loadn 4 (.t 14),Sb⟩,⟨Sa 7,.alloc 25 [.i .i64 0,.s [],.nil,.nil],Sb⟩,⟨Sb,.store 4 (.t 7) (.t 15),Sb⟩]) (.seq (.seq (.reg [⟨Sa 16,.fad 0 (.t 7),Sb⟩,⟨Sa 17,.load1 (.t 16),Sb⟩,⟨Sa 18,.bin .neq (.t 17) (.c (.i .i64 5)),Sb⟩]) (.cond (.t 18) (.seq (.reg [⟨Sa 19,.mv (.t 0),Sb⟩,⟨Sa 20,.nck (.t 19),Sb⟩,⟨Sa 21,.fad 0 (.t 20),Sb⟩,⟨Sa 22,.call 55 [.t 21,.c (.i .i64 160)],Sb⟩]) (.seq (.reg [⟨Sa 4,.mv (.c .nil),Sb⟩]) (.ret))) (.skip))) (.reg [⟨Sa 23,.mv (.t 5),Sb⟩,⟨Sa 24,.fad 1 (.t 7),Sb⟩,⟨Sa 25,.load1 (.t 24),Sb⟩,⟨Sa 26,.bslice 1 [.s []] [(0,(1,.t 25))],Sb⟩,⟨Sa 27,.app 9 1 16 (.t 23) (.t 26),Sb⟩,⟨Sa 5,.mv (.t 27),Sb⟩])))) (.reg [⟨Sa 28,.bin .add (.t 12) (.c (.i .i64 1)),Sb⟩,⟨Sa 12,.mv (.t 28),Sb⟩]))))))) (.seq (.reg [⟨Sa 29,.mv (.t 5),Sb⟩,⟨Sa 4,.mv (.t 29),Sb⟩]) (.ret))))
theorem is_jrd_decoder_texts:FnIs Try.prog 28 30 [.tmp 4] c_jrd_decoder_texts:=⟨⟨_,_,Try.func28,rfl,rfl,by kernel_rfl,by kernel_rfl⟩⟩
def c_jrd_decoder_properties:SCode :=.seq (.reg [⟨Sa 6,.mv (.c .nil),Sb⟩]) (.seq (.reg [⟨Sa 16,.mv (.t 0),Sb⟩,⟨Sa 17,.mv (.t 1),Sb⟩,⟨Sa 18,.call 56 [.t 16,.t 17,.c (.i .i64 7)],Sb⟩,⟨Sa 15,.mv (.t 18),Sb⟩,⟨Sa 19,.ext (.t 15) 0,Sb⟩,⟨Sa 20,.ext (.t 15) 1,Sb⟩,⟨Sa 7,.alloc 25 [.i .i64 0,.s [],.nil,.nil],Sb⟩,⟨Sb,.store 4 (.t 7) (.t 19),Sb⟩,⟨Sa 8,.mv (.t 20),Sb⟩]) (.seq (.reg [⟨Sa 21,.fad 2 (.t 7),Sb⟩,⟨Sa 22,.load1 (.t 21),Sb⟩,⟨Sa 23,.lenr (.t 22),Sb⟩,⟨Sa 24,.fad 3 (.t 7),Sb⟩,⟨Sa 25,.load1 (.t 24),Sb⟩,⟨Sa 26,.lenr (.t 25),Sb⟩,⟨Sa 27,.pu .mn [.t 23,.t 26],Sb⟩,⟨Sa 9,.mv (.t 27),Sb⟩]) (.seq (.seq (.reg [⟨Sa 28,.mv (.t 8),Sb⟩,⟨Sa 29,.mv (.t 28),Sb⟩,⟨Sa 30,.mv (.t 9),some (29,true)⟩,⟨Sa 31,.bin .gtr (.t 30) (.c (.i .i64 64)),some (29,true)⟩,⟨Sa 32,.pick (.t 29) (.t 31) (.c (.b false)),Sb⟩]) (.cond (.t 32) (.seq (.reg [⟨Sa 33,.mv (.t 0),Sb⟩,⟨Sa 34,.nck (.t 33),Sb⟩,⟨Sa 35,.fad 0 (.t 34),Sb⟩,⟨Sa 36,.call 55 [.t 35,.c (.i .i64 161)],Sb⟩]) (.seq (.reg [⟨Sa 6,.mv (.c .nil),Sb⟩]) (.ret))) (.skip))) (.seq (.reg [⟨Sa 10,.mv (.c .nil),Sb⟩]) (.seq (.seq (.reg [⟨Sa 37,.mv (.t 9),Sb⟩,⟨Sa 38,.mv (.c (.i .i64 0)),Sb⟩]) (.blk 0 (.loop (.seq (.reg [⟨Sa 39,.bin .lss (.t 38) (.t 37),Sb⟩]) (.seq (.cond (.t 39) (.skip) (.exit 0)) (.seq (.blk 1 (.seq (.reg [⟨Sa 40,.mv (.t 38),Sb⟩,⟨Sa 11,.mv (.t 40),Sb⟩]) (.seq (.reg [⟨Sa 41,.fad 3 (.t 7),Sb⟩,⟨Sa 42,.load1 (.t 41),Sb⟩,⟨Sa 43,.mv (.t 11),Sb⟩,⟨Sa 44,.iad 4 (.t 42) (.t 43),Sb⟩,⟨Sa 45,.loadn 4 (.t 44),Sb⟩,⟨Sa 12,.alloc 25 [.i .i64 0,.s [],.nil,.nil],Sb⟩,⟨Sb,.store 4 (.t 12) (.t 45),Sb⟩]) (.seq (.reg [⟨Sa 46,.mv (.t 2),Sb⟩,⟨Sa 47,.mv (.t 46),Sb⟩,⟨Sa 48,.fad 0 (.t 12),some (47,true)⟩,⟨Sa 49,.load1 (.t 48),some (47,true)⟩,⟨Sa 50,.bin .eql (.t 49) (.c (.i .i64 1)),some (47,true)⟩,⟨Sa 51,.pick (.t 47) (.t 50) (.c (.b false)),Sb⟩,⟨Sa 13,.mv (.t 51),Sb⟩]) (.seq (.seq (.reg [⟨Sa 52,.mv (.t 13),Sb⟩,⟨Sa 53,.not (.t 52),Sb⟩,⟨Sa 54,.mv (.t 53),Sb⟩,⟨Sa 55,.fad 0 (.t 12),some (54,true)⟩,⟨Sa 56,.load1 (.t 55),some (54,true)⟩,⟨Sa 57,.bin .neq (.t 56) (.c (.i .i64 5)),some (54,true)⟩,⟨Sa 58,.pick (.t 54) (.t 57) (.c (.b false)),Sb⟩]) (.cond (.t 58) (.seq (.reg [⟨Sa 59,.mv (.t 0),Sb⟩,⟨Sa 60,.nck (.t 59),Sb⟩,⟨Sa 61,.fad 0 (.t 60),Sb⟩,⟨Sa 62,.call 55 [.t 61,.c (.i .i64 160)],Sb⟩]) (.seq (.reg [⟨Sa 6,.mv (.c .nil),Sb⟩]) (.ret))) (.skip))) (.seq (.reg [⟨Sa 63,.fad 2 (.t 7),Sb⟩,⟨Sa 64,.load1 (.t 63),Sb⟩,⟨Sa 65,.mv (.t 11),Sb⟩,⟨Sa 66,.iad 1 (.t 64) (.t 65),Sb⟩,⟨Sa 67,.load1 (.t 66),Sb⟩,⟨Sa 68,.mv (.t 13),Sb⟩,⟨Sa 69,.build [.s [],.s [],.b false] [(0,(1,.t 67)),(2,(1,.t 68))],Sb⟩,⟨Sa 14,.alloc 83 [.s [],.s [],.b false],Sb⟩,⟨Sb,.store 3 (.t 14) (.t 69),Sb⟩]) (.seq (.seq (.reg [⟨Sa 70,.mv (.t 13),Sb⟩,⟨Sa 71,.not (.t 70),Sb⟩]) (.cond (.t 71) (.reg [⟨Sa 72,.fad 1 (.t 12),Sb⟩,⟨Sa 73,.load1 (.t 72),Sb⟩,⟨Sa 74,.fad 1 (.t 14),Sb⟩,⟨Sb,.store 1 (.t 74) (.t 73),Sb⟩]) (.skip))) (.reg [⟨Sa 75,.mv (.t 10),Sb⟩,⟨Sa 76,.loadn 3 (.t 14),Sb⟩,⟨Sa 77,.bslice 1 [.s [],.s [],.b false] [(0,(3,.t 76))],Sb⟩,⟨Sa 78,.app 83 3 40 (.t 75) (.t 77),Sb⟩,⟨Sa 10,.mv (.t 78),Sb⟩])))))))) (.reg [⟨Sa 79,.bin .add (.t 38) (.c (.i .i64 1)),Sb⟩,⟨Sa 38,.mv (.t 79),Sb⟩]))))))) (.seq (.reg [⟨Sa 80,.mv (.t 10),Sb⟩,⟨Sa 6,.mv (.t 80),Sb⟩]) (.ret)))))))
theorem is_jrd_decoder_properties:FnIs Try.prog 29 81 [.tmp 6] c_jrd_decoder_properties:=⟨⟨_,_,Try.func29,rfl,rfl,by kernel_rfl,by kernel_rfl⟩⟩
def c_jrd_decoder_links:SCode :=.seq (.reg [⟨Sa 4,.mv (.c .nil),Sb⟩]) (.seq (.reg [⟨Sa 5,.mv (.c .nil),Sb⟩]) (.seq (.seq (.reg [⟨Sa 9,.mv (.t 0),Sb⟩,⟨Sa 10,.mv (.t 1),Sb⟩,⟨Sa 11,.call 57 [.t 9,.t 10,.c (.i .i64 64)],Sb⟩,⟨Sa 12,.lenr (.t 11),Sb⟩,⟨Sa 13,.mv (.c (.i .i64 0)),Sb⟩]) (.blk 0 (.loop (.seq (.reg [⟨Sa 14,.bin .lss (.t 13) (.t 12),Sb⟩]) (.seq (.cond (.t 14) (.skip) (.exit 0)) (.seq (.blk 1 (.seq (.reg [⟨Sa 15,.iad 4 (.t 11) (.t 13),Sb⟩,⟨Sa 16,.loadn 4 (.t 15),Sb⟩,⟨Sa 7,.alloc 25 [.i .i64 0,.s [],.nil,.nil],Sb⟩,⟨Sb,.store 4 (.t 7) (.t 16),Sb⟩]) (.seq (.reg [⟨Sa 17,.loadn 4 (.t 7),Sb⟩,⟨Sa 18,.call 26 [.t 17],Sb⟩,⟨Sa 8,.mv (.t 18),Sb⟩]) (.seq (.reg [⟨Sa 19,.mv (.t 5),Sb⟩,⟨Sa 20,.mv (.t 8),Sb⟩,⟨Sa 21,.call 58 [.t 20,.c (.s [114,101,108])],Sb⟩,⟨Sa 22,.mv (.t 8),Sb⟩,⟨Sa 23,.call 27 [.t 22,.c (.s [116,121,112,101])],Sb⟩,⟨Sa 24,.mv (.t 8),Sb⟩,⟨Sa 25,.call 27 [.t 24,.c (.s [104,114,101,102])],Sb⟩,⟨Sa 26,.mv (.t 8),Sb⟩,⟨Sa 27,.call 27 [.t 26,.c (.s [116,101,109,112,108,97,116,101])],Sb⟩,⟨Sa 28,.mv (.t 8),Sb⟩,⟨Sa 29,.call 29 [.t 28,.c (.s [116,105,116,108,101,115]),.c (.b false)],Sb⟩,⟨Sa 30,.mv (.t 8),Sb⟩,⟨Sa 31,.call 29 [.t 30,.c (.s [112,114,111,112,101,114,116,105,101,115]),.c (.b true)],Sb⟩,⟨Sa 32,.build [.s [],.s [],.s [],.s [],.nil,.nil] [(0,(1,.t 21)),(1,(1,.t 23)),(2,(1,.t 25)),(3,(1,.t 27)),(4,(1,.t 29)),(5,(1,.t 31))],Sb⟩,⟨Sa 33,.bslice 1 [.s [],.s [],.s [],.s [],.nil,.nil] [(0,(6,.t 32))],Sb⟩,⟨Sa 34,.app 45 6 112 (.t 19) (.t 33),Sb⟩,⟨Sa 5,.mv (.t 34),Sb⟩]) (.seq (.reg [⟨Sa 35,.mv (.t 8),Sb⟩,⟨Sa 36,.nck (.t 35),Sb⟩,⟨Sa 37,.fad 0 (.t 36),Sb⟩,⟨Sa 38,.fad 0 (.t 37),Sb⟩,⟨Sa 39,.load1 (.t 38),Sb⟩,⟨Sa 40,.bin .neq (.t 39) (.c (.i .i64 0)),Sb⟩]) (.cond (.t 40) (.seq (.drw [⟨Sa 41,.mv (.t 0),Sb⟩,⟨Sa 42,.nck (.t 41),Sb⟩,⟨Sa 43,.fad 0 (.t 42),Sb⟩,⟨Sa 44,.mv (.t 8),Sb⟩,⟨Sa 45,.nck (.t 44),Sb⟩,⟨Sa 46,.fad 0 (.t 45),Sb⟩,⟨Sa 47,.fad 0 (.t 46),Sb⟩,⟨Sa 48,.load1 (.t 47),Sb⟩,⟨Sa 49,.call 55 [.t 43,.t 48],Sb⟩] 8 []) (.seq (.reg [⟨Sa 4,.mv (.c .nil),Sb⟩]) (.ret))) (.skip))))))) (.reg [⟨Sa 50,.bin .add (.t 13) (.c (.i .i64 1)),Sb⟩,⟨Sa 13,.mv (.t 50),Sb⟩]))))))) (.seq (.reg [⟨Sa 51,.mv (.t 5),Sb⟩,⟨Sa 4,.mv (.t 51),Sb⟩]) (.ret))))
theorem is_jrd_decoder_links:FnIs Try.prog 30 52 [.tmp 4] c_jrd_decoder_links:=⟨⟨_,_,Try.func30,rfl,rfl,by kernel_rfl,by kernel_rfl⟩⟩
def c_slices_Clone__api_Property_api_Property:SCode :=.seq (.reg [⟨Sa 2,.mv (.c .nil),Sb⟩]) (.seq (.seq (.reg [⟨Sa 3,.mv (.t 0),Sb⟩,⟨Sa 4,.pu (.snil false) [.t 3,.c .nil],Sb⟩]) (.cond (.t 4) (.seq (.reg [⟨Sa 2,.mv (.c .nil),Sb⟩]) (.ret)) (.skip))) (.seq (.reg [⟨Sa 5,.mks 83 3 1 (.c (.i .i64 0)) (.c (.i .i64 0)),Sb⟩,⟨Sa 6,.mv (.t 0),Sb⟩,⟨Sa 7,.app 83 3 40 (.t 5) (.t 6),Sb⟩,⟨Sa 2,.mv (.t 7),Sb⟩]) (.ret)))
theorem is_slices_Clone__api_Property_api_Property:FnIs Try.prog 37 8 [.tmp 2] c_slices_Clone__api_Property_api_Property:=⟨⟨_,_,Try.func37,rfl,rfl,by kernel_rfl,by kernel_rfl⟩⟩
def c_ref14_is:SCode :=.seq (.reg [⟨Sa 2,.box 59 (.t 0),Sb⟩,⟨Sa 4,.mv (.c (.b false)),Sb⟩]) (.seq (.reg [⟨Sa 5,.fad 0 (.t 2),Sb⟩,⟨Sa 6,.load1 (.t 5),Sb⟩,⟨Sa 7,.bin .eql (.t 6) (.c (.i .i64 2)),Sb⟩,⟨Sa 8,.mv (.t 7),Sb⟩,⟨Sa 9,.fad 1 (.t 2),some (8,true)⟩,⟨Sa 10,.load1 (.t 9),some (8,true)⟩,⟨Sa 11,.mv (.t 1),some (8,true)⟩,⟨Sa 12,.bin .eql (.t 10) (.t 11),some (8,true)⟩,⟨Sa 13,.pick (.t 8) (.t 12) (.c (.b false)),Sb⟩,⟨Sa 4,.mv (.t 13),Sb⟩]) (.ret))
theorem is_ref14_is:FnIs Try.prog 49 14 [.tmp 4] c_ref14_is:=⟨⟨_,_,Try.func49,rfl,rfl,by kernel_rfl,by kernel_rfl⟩⟩
def c_ref13_Number:SCode :=.seq (.reg [⟨Sa 2,.mv (.c (.s [])),Sb⟩,⟨Sa 3,.mv (.c (.i .i64 0)),Sb⟩]) (.seq (.seq (.reg [⟨Sa 9,.mv (.t 0),Sb⟩,⟨Sa 10,.bin .eql (.t 9) (.c (.s [])),Sb⟩,⟨Sa 11,.mv (.t 10),Sb⟩,⟨Sa 12,.mv (.t 0),some (11,false)⟩,⟨Sa 13,.call 61 [.t 12],some (11,false)⟩,⟨Sa 14,.mv (.t 0),some (11,false)⟩,⟨Sa 15,.lens (.t 14),some (11,false)⟩,⟨Sa 16,.bin .neq (.t 13) (.t 15),some (11,false)⟩,⟨Sa 17,.pick (.t 11) (.c (.b true)) (.t 16),Sb⟩]) (.cond (.t 17) (.seq (.reg [⟨Sa 2,.mv (.c (.s [])),Sb⟩,⟨Sa 3,.mv (.c (.i .i64 130)),Sb⟩]) (.ret)) (.skip))) (.seq (.reg [⟨Sa 4,.mv (.c (.s [])),Sb⟩]) (.seq (.seq (.reg [⟨Sa 18,.mv (.t 0),Sb⟩,⟨Sa 19,.idx (.t 18) (.c (.i .i64 0)),Sb⟩,⟨Sa 20,.bin .eql (.t 19) (.c (.i .u8 45)),Sb⟩]) (.cond (.t 20) (.drw [⟨Sa 21,.mv (.t 0),Sb⟩,⟨Sa 22,.slcs (.t 21) (some (.c (.i .i64 1))) none,Sb⟩,⟨Sa 4,.mv (.c (.s [45])),Sb⟩,⟨Sa 0,.mv (.t 22),Sb⟩] 4 []) (.skip))) (.seq (.reg [⟨Sa 23,.mv (.t 0),Sb⟩,⟨Sa 24,.call 62 [.t 23,.c (.s [101,69])],Sb⟩,⟨Sa 5,.mv (.t 24),Sb⟩]) (.seq (.drw [⟨Sa 25,.mv (.t 0),Sb⟩,⟨Sa 26,.mv (.t 5),Sb⟩,⟨Sa 27,.bin .add (.t 26) (.c (.i .i64 1)),Sb⟩,⟨Sa 28,.call 64 [.t 25,.t 27],Sb⟩,⟨Sa 29,.call 63 [.t 28],Sb⟩,⟨Sa 30,.mv (.t 0),Sb⟩,⟨Sa 31,.mv (.t 5),Sb⟩,⟨Sa 32,.slcs (.t 30) none (some (.t 31)),Sb⟩,⟨Sa 6,.mv (.t 29),Sb⟩,⟨Sa 7,.mv (.t 32),Sb⟩] 10 []) (.seq (.seq (.reg [⟨Sa 33,.mv (.t 7),Sb⟩,⟨Sa 34,.call 62 [.t 33,.c (.s [46])],Sb⟩,⟨Sa 8,.mv (.t 34),Sb⟩]) (.seq (.reg [⟨Sa 35,.mv (.t 8),Sb⟩,⟨Sa 36,.mv (.t 7),Sb⟩,⟨Sa 37,.lens (.t 36),Sb⟩,⟨Sa 38,.bin .lss (.t 35) (.t 37),Sb⟩]) (.cond (.t 38) (.drw [⟨Sa 39,.mv (.t 6),Sb⟩,⟨Sa 40,.mv (.t 7),Sb⟩,⟨Sa 41,.lens (.t 40),Sb⟩,⟨Sa 42,.mv (.t 8),Sb⟩,⟨Sa 43,.bin .sub (.t 41) (.t 42),Sb⟩,⟨Sa 44,.bin .sub (.t 43) (.c (.i .i64 1)),Sb⟩,⟨Sa 45,.bin .sub (.t 39) (.t 44),Sb⟩,⟨Sa 46,.mv (.t 7),Sb⟩,⟨Sa 47,.mv (.t 8),Sb⟩,⟨Sa 48,.slcs (.t 46) none (some (.t 47)),Sb⟩,⟨Sa 49,.mv (.t 7),Sb⟩,⟨Sa 50,.mv (.t 8),Sb⟩,⟨Sa 51,.bin .add (.t 50) (.c (.i .i64 1)),Sb⟩,⟨Sa 52,.slcs (.t 49) (some (.t 51)) none,Sb⟩,⟨Sa 53,.bin .add (.t 48) (.t 52),Sb⟩,⟨Sa 6,.mv (.t 45),Sb⟩,⟨Sa 7,.mv (.t 53),Sb⟩] 17 []) (.skip)))) (.seq (.blk 0 (.loop (.seq (.seq (.reg [⟨Sa 54,.mv (.t 7),Sb⟩,⟨Sa 55,.lens (.t 54),Sb⟩,⟨Sa 56,.bin .gtr (.t 55) (.c (.i .i64 0)),Sb⟩,⟨Sa 57,.mv (.t 56),Sb⟩,⟨Sa 58,.mv (.t 7),some (57,true)⟩,⟨Sa 59,.idx (.t 58) (.c (.i .i64 0)),some (57,true)⟩,⟨Sa 60,.bin .eql (.t 59) (.c (.i .u8 48)),some (57,true)⟩,⟨Sa 61,.pick (.t 57) (.t 60) (.c (.b false)),Sb⟩]) (.cond (.t 61) (.skip) (.exit 0))) (.blk 1 (.reg [⟨Sa 62,.mv (.t 7),Sb⟩,⟨Sa 63,.slcs (.t 62) (some (.c (.i .i64 1))) none,Sb⟩,⟨Sa 7,.mv (.t 63),Sb⟩]))))) (.seq (.seq (.reg [⟨Sa 64,.mv (.t 7),Sb⟩,⟨Sa 65,.bin .eql (.t 64) (.c (.s [])),Sb⟩]) (.cond (.t 65) (.seq (.reg [⟨Sa 2,.mv (.c (.s [48])),Sb⟩,⟨Sa 3,.mv (.c (.i .i64 0)),Sb⟩]) (.ret)) (.skip))) (.seq (.blk 2 (.loop (.seq (.seq (.reg [⟨Sa 66,.mv (.t 7),Sb⟩,⟨Sa 67,.mv (.t 7),Sb⟩,⟨Sa 68,.lens (.t 67),Sb⟩,⟨Sa 69,.bin .sub (.t 68) (.c (.i .i64 1)),Sb⟩,⟨Sa 70,.idx (.t 66) (.t 69),Sb⟩,⟨Sa 71,.bin .eql (.t 70) (.c (.i .u8 48)),Sb⟩]) (.cond (.t 71) (.skip) (.exit 2))) (.blk 3 (.reg [⟨Sa 72,.mv (.t 7),Sb⟩,⟨Sa 73,.mv (.t 7),Sb⟩,⟨Sa 74,.lens (.t 73),Sb⟩,⟨Sa 75,.bin .sub (.t 74) (.c (.i .i64 1)),Sb⟩,⟨Sa 76,.slcs (.t 72) none (some (.t 75)),Sb⟩,⟨Sa 77,.mv (.t 6),Sb⟩,⟨Sa 78,.bin .add (.t 77) (.c (.i .i64 1)),Sb⟩,⟨Sa 7,.mv (.t 76),Sb⟩,⟨Sa 6,.mv (.t 78),Sb⟩]))))) (.seq (.blk 4 (.seq (.reg [⟨Sa 80,.mv (.t 7),Sb⟩,⟨Sa 81,.lens (.t 80),Sb⟩,⟨Sa 82,.bin .gtr (.t 81) (.c (.i .i64 40)),Sb⟩,⟨Sa 83,.mv (.t 82),Sb⟩,⟨Sa 84,.mv (.t 6),some (83,false)⟩,⟨Sa 85,.bin .gtr (.t 84) (.c (.i .i64 400)),some (83,false)⟩,⟨Sa 86,.pick (.t 83) (.c (.b true)) (.t 85),Sb⟩,⟨Sa 87,.mv (.t 86),Sb⟩,⟨Sa 88,.mv (.t 6),some (87,false)⟩,⟨Sa 89,.bin .lss (.t 88) (.c (.i .i64 (-400))),some (87,false)⟩,⟨Sa 90,.pick (.t 87) (.c (.b true)) (.t 89),Sb⟩,⟨Sa 79,.mv (.t 90),Sb⟩]) (.cond (.t 79) (.seq (.reg [⟨Sa 2,.mv (.c (.s [])),Sb⟩,⟨Sa 3,.mv (.c (.i .i64 144)),Sb⟩]) (.ret)) (.seq (.reg [⟨Sa 92,.mv (.t 6),Sb⟩,⟨Sa 93,.bin .lss (.t 92) (.c (.i .i64 0)),Sb⟩,⟨Sa 91,.mv (.t 93),Sb⟩]) (.cond (.t 91) (.seq (.reg [⟨Sa 94,.mv (.t 4),Sb⟩,⟨Sa 95,.mv (.t 7),Sb⟩,⟨Sa 96,.bin .add (.t 94) (.t 95),Sb⟩,⟨Sa 97,.bin .add (.t 96) (.c (.s [101,45])),Sb⟩,⟨Sa 98,.mv (.t 6),Sb⟩,⟨Sa 99,.neg (.t 98),Sb⟩,⟨Sa 100,.cvi .u64 (.t 99),Sb⟩,⟨Sa 101,.call 65 [.t 100],Sb⟩,⟨Sa 102,.bin .add (.t 97) (.t 101),Sb⟩,⟨Sa 2,.mv (.t 102),Sb⟩,⟨Sa 3,.mv (.c (.i .i64 0)),Sb⟩]) (.ret)) (.seq (.reg [⟨Sa 104,.mv (.t 6),Sb⟩,⟨Sa 105,.bin .gtr (.t 104) (.c (.i .i64 0)),Sb⟩,⟨Sa 103,.mv (.t 105),Sb⟩]) (.cond (.t 103) (.seq (.reg [⟨Sa 106,.mv (.t 4),Sb⟩,⟨Sa 107,.mv (.t 7),Sb⟩,⟨Sa 108,.bin .add (.t 106) (.t 107),Sb⟩,⟨Sa 109,.bin .add (.t 108) (.c (.s [101])),Sb⟩,⟨Sa 110,.mv (.t 6),Sb⟩,⟨Sa 111,.cvi .u64 (.t 110),Sb⟩,⟨Sa 112,.call 65 [.t 111],Sb⟩,⟨Sa 113,.bin .add (.t 109) (.t 112),Sb⟩,⟨Sa 2,.mv (.t 113),Sb⟩,⟨Sa 3,.mv (.c (.i .i64 0)),Sb⟩]) (.ret)) (.skip)))))))) (.seq (.reg [⟨Sa 114,.mv (.t 4),Sb⟩,⟨Sa 115,.mv (.t 7),Sb⟩,⟨Sa 116,.bin .add (.t 114) (.t 115),Sb⟩,⟨Sa 2,.mv (.t 116),Sb⟩,⟨Sa 3,.mv (.c (.i .i64 0)),Sb⟩]) (.ret))))))))))))
theorem is_ref13_Number:FnIs Try.prog 50 117 [.tmp 2,.tmp 3] c_ref13_Number:=⟨⟨_,_,Try.func50,rfl,rfl,by kernel_rfl,by kernel_rfl⟩⟩
def c_ref14_word:SCode :=.seq (.reg [⟨Sa 2,.mv (.c (.i .i64 0)),Sb⟩]) (.seq (.seq (.reg [⟨Sa 3,.mv (.t 0),Sb⟩]) (.blk 0 (.seq (.reg [⟨Sa 5,.bin .eql (.t 3) (.c (.s [116,114,117,101])),Sb⟩,⟨Sa 4,.mv (.t 5),Sb⟩]) (.cond (.t 4) (.seq (.reg [⟨Sa 2,.mv (.c (.i .i64 3)),Sb⟩]) (.ret)) (.seq (.reg [⟨Sa 7,.bin .eql (.t 3) (.c (.s [102,97,108,115,101])),Sb⟩,⟨Sa 6,.mv (.t 7),Sb⟩]) (.cond (.t 6) (.seq (.reg [⟨Sa 2,.mv (.c (.i .i64 2)),Sb⟩]) (.ret)) (.skip))))))) (.seq (.reg [⟨Sa 2,.mv (.c (.i .i64 1)),Sb⟩]) (.ret)))
theorem is_ref14_word:FnIs Try.prog 51 8 [.tmp 2] c_ref14_word:=⟨⟨_,_,Try.func51,rfl,rfl,by kernel_rfl,by kernel_rfl⟩⟩
def c_ref14_parser_array:SCode :=.seq (.reg [⟨Sa 4,.alloc 25 [.i .i64 0,.s [],.nil,.nil],Sb⟩]) (.seq (.reg [⟨Sa 7,.build [.i .i64 0,.s [],.nil,.nil] [(0,(1,.c (.i .i64 6)))],Sb⟩,⟨Sa 5,.alloc 25 [.i .i64 0,.s [],.nil,.nil],Sb⟩,⟨Sb,.store 4 (.t 5) (.t 7),Sb⟩]) (.seq (.reg [⟨Sa 8,.mv (.t 0),Sb⟩,⟨Sa 9,.call 24 [.t 8],Sb⟩,⟨Sa 6,.alloc 59 [.i .i64 0,.s [],.i .i64 0],Sb⟩,⟨Sb,.store 3 (.t 6) (.t 9),Sb⟩]) (.seq (.seq (.reg [⟨Sa 10,.loadn 3 (.t 6),Sb⟩,⟨Sa 11,.call 49 [.t 10,.c (.s [93])],Sb⟩]) (.cond (.t 11) (.seq (.reg [⟨Sa 12,.loadn 4 (.t 5),Sb⟩,⟨Sb,.store 4 (.t 4) (.t 12),Sb⟩]) (.ret)) (.skip))) (.seq (.blk 0 (.loop (.seq (.seq (.reg [⟨Sa 13,.mv (.t 0),Sb⟩,⟨Sa 14,.nck (.t 13),Sb⟩,⟨Sa 15,.fad 3 (.t 14),Sb⟩,⟨Sa 16,.load1 (.t 15),Sb⟩,⟨Sa 17,.bin .eql (.t 16) (.c (.i .i64 0)),Sb⟩]) (.cond (.t 17) (.skip) (.exit 0))) (.blk 1 (.seq (.crg [⟨Sa 18,.fad 3 (.t 5),Sb⟩,⟨Sa 19,.load1 (.t 18),Sb⟩,⟨Sa 20,.mv (.t 0),Sb⟩,⟨Sa 21,.loadn 3 (.t 6),Sb⟩,⟨Sa 22,.mv (.t 1),Sb⟩] ⟨Sa 23,.call 23 [.t 20,.t 21,.t 22],Sb⟩ [⟨Sa 24,.bslice 1 [.i .i64 0,.s [],.nil,.nil] [(0,(4,.t 23))],Sb⟩,⟨Sa 25,.app 25 4 72 (.t 19) (.t 24),Sb⟩,⟨Sa 26,.fad 3 (.t 5),Sb⟩,⟨Sb,.store 1 (.t 26) (.t 25),Sb⟩]) (.seq (.reg [⟨Sa 27,.mv (.t 0),Sb⟩,⟨Sa 28,.call 24 [.t 27],Sb⟩,⟨Sb,.store 3 (.t 6) (.t 28),Sb⟩]) (.seq (.seq (.reg [⟨Sa 29,.loadn 3 (.t 6),Sb⟩,⟨Sa 30,.call 49 [.t 29,.c (.s [93])],Sb⟩]) (.cond (.t 30) (.seq (.reg [⟨Sa 31,.loadn 4 (.t 5),Sb⟩,⟨Sb,.store 4 (.t 4) (.t 31),Sb⟩]) (.ret)) (.skip))) (.seq (.seq (.reg [⟨Sa 32,.mv (.t 0),Sb⟩,⟨Sa 33,.nck (.t 32),Sb⟩,⟨Sa 34,.fad 3 (.t 33),Sb⟩,⟨Sa 35,.load1 (.t 34),Sb⟩,⟨Sa 36,.bin .eql (.t 35) (.c (.i .i64 0)),Sb⟩,⟨Sa 37,.mv (.t 36),Sb⟩,⟨Sa 38,.loadn 3 (.t 6),some (37,true)⟩,⟨Sa 39,.call 49 [.t 38,.c (.s [44])],some (37,true)⟩,⟨Sa 40,.not (.t 39),some (37,true)⟩,⟨Sa 41,.pick (.t 37) (.t 40) (.c (.b false)),Sb⟩]) (.cond (.t 41) (.reg [⟨Sa 42,.mv (.t 0),Sb⟩,⟨Sa 43,.fad 2 (.t 6),Sb⟩,⟨Sa 44,.load1 (.t 43),Sb⟩,⟨Sa 45,.call 25 [.t 42,.t 44,.c (.i .i64 140)],Sb⟩]) (.skip))) (.reg [⟨Sa 46,.mv (.t 0),Sb⟩,⟨Sa 47,.call 24 [.t 46],Sb⟩,⟨Sb,.store 3 (.t 6) (.t 47),Sb⟩]))))))))) (.seq (.reg [⟨Sa 48,.loadn 4 (.t 5),Sb⟩,⟨Sb,.store 4 (.t 4) (.t 48),Sb⟩]) (.ret))))))
theorem is_ref14_parser_array:FnIs Try.prog 52 49 [.celln 4 4] c_ref14_parser_array:=⟨⟨_,_,Try.func52,rfl,rfl,by kernel_rfl,by kernel_rfl⟩⟩
def c_ref14_parser_object:SCode :=.seq (.reg [⟨Sa 4,.alloc 25 [.i .i64 0,.s [],.nil,.nil],Sb⟩]) (.seq (.reg [⟨Sa 11,.build [.i .i64 0,.s [],.nil,.nil] [(0,(1,.c (.i .i64 7)))],Sb⟩,⟨Sa 5,.alloc 25 [.i .i64 0,.s [],.nil,.nil],Sb⟩,⟨Sb,.store 4 (.t 5) (.t 11),Sb⟩]) (.seq (.reg [⟨Sa 12,.mv (.t 0),Sb⟩,⟨Sa 13,.call 24 [.t 12],Sb⟩,⟨Sa 6,.alloc 59 [.i .i64 0,.s [],.i .i64 0],Sb⟩,⟨Sb,.store 3 (.t 6) (.t 13),Sb⟩]) (.seq (.seq (.reg [⟨Sa 14,.loadn 3 (.t 6),Sb⟩,⟨Sa 15,.call 49 [.t 14,.c (.s [125])],Sb⟩]) (.cond (.t 15) (.seq (.reg [⟨Sa 16,.loadn 4 (.t 5),Sb⟩,⟨Sb,.store 4 (.t 4) (.t 16),Sb⟩]) (.ret)) (.skip))) (.seq (.blk 0 (.loop (.seq (.seq (.reg [⟨Sa 17,.mv (.t 0),Sb⟩,⟨Sa 18,.nck (.t 17),Sb⟩,⟨Sa 19,.fad 3 (.t 18),Sb⟩,⟨Sa 20,.load1 (.t 19),Sb⟩,⟨Sa 21,.bin .eql (.t 20) (.c (.i .i64 0)),Sb⟩]) (.cond (.t 21) (.skip) (.exit 0))) (.blk 1 (.seq (.seq (.reg [⟨Sa 22,.fad 0 (.t 6),Sb⟩,⟨Sa 23,.load1 (.t 22),Sb⟩,⟨Sa 24,.bin .neq (.t 23) (.c (.i .i64 3)),Sb⟩]) (.cond (.t 24) (.reg [⟨Sa 25,.mv (.t 0),Sb⟩,⟨Sa 26,.fad 2 (.t 6),Sb⟩,⟨Sa 27,.load1 (.t 26),Sb⟩,⟨Sa 28,.call 25 [.t 25,.t 27,.c (.i .i64 140)],Sb⟩]) (.skip))) (.seq (.seq (.reg [⟨Sa 30,.loadn 4 (.t 5),Sb⟩,⟨Sa 31,.fad 1 (.t 6),Sb⟩,⟨Sa 32,.load1 (.t 31),Sb⟩,⟨Sa 33,.call 59 [.t 30,.t 32],Sb⟩,⟨Sa 29,.mv (.t 33),Sb⟩,⟨Sa 34,.ext (.t 29) 0,Sb⟩,⟨Sa 35,.ext (.t 29) 1,Sb⟩,⟨Sa 7,.alloc 25 [.i .i64 0,.s [],.nil,.nil],Sb⟩,⟨Sb,.store 4 (.t 7) (.t 34),Sb⟩,⟨Sa 8,.mv (.t 35),Sb⟩]) (.seq (.reg [⟨Sa 36,.mv (.t 8),Sb⟩]) (.cond (.t 36) (.reg [⟨Sa 37,.mv (.t 0),Sb⟩,⟨Sa 38,.fad 2 (.t 6),Sb⟩,⟨Sa 39,.load1 (.t 38),Sb⟩,⟨Sa 40,.call 25 [.t 37,.t 39,.c (.i .i64 143)],Sb⟩]) (.skip)))) (.seq (.reg [⟨Sa 41,.fad 1 (.t 6),Sb⟩,⟨Sa 42,.load1 (.t 41),Sb⟩,⟨Sa 9,.mv (.t 42),Sb⟩]) (.seq (.seq (.reg [⟨Sa 43,.mv (.t 0),Sb⟩,⟨Sa 44,.call 24 [.t 43],Sb⟩,⟨Sb,.store 3 (.t 6) (.t 44),Sb⟩]) (.seq (.reg [⟨Sa 45,.mv (.t 0),Sb⟩,⟨Sa 46,.nck (.t 45),Sb⟩,⟨Sa 47,.fad 3 (.t 46),Sb⟩,⟨Sa 48,.load1 (.t 47),Sb⟩,⟨Sa 49,.bin .eql (.t 48) (.c (.i .i64 0)),Sb⟩,⟨Sa 50,.mv (.t 49),Sb⟩,⟨Sa 51,.loadn 3 (.t 6),some (50,true)⟩,⟨Sa 52,.call 49 [.t 51,.c (.s [58])],some (50,true)⟩,⟨Sa 53,.not (.t 52),some (50,true)⟩,⟨Sa 54,.pick (.t 50) (.t 53) (.c (.b false)),Sb⟩]) (.cond (.t 54) (.reg [⟨Sa 55,.mv (.t 0),Sb⟩,⟨Sa 56,.fad 2 (.t 6),Sb⟩,⟨Sa 57,.load1 (.t 56),Sb⟩,⟨Sa 58,.call 25 [.t 55,.t 57,.c (.i .i64 140)],Sb⟩]) (.skip)))) (.seq (.reg [⟨Sa 59,.mv (.t 0),Sb⟩,⟨Sa 60,.mv (.t 0),Sb⟩,⟨Sa 61,.call 24 [.t 60],Sb⟩,⟨Sa 62,.mv (.t 1),Sb⟩,⟨Sa 63,.call 23 [.t 59,.t 61,.t 62],Sb⟩,⟨Sa 10,.alloc 25 [.i .i64 0,.s [],.nil,.nil],Sb⟩,⟨Sb,.store 4 (.t 10) (.t 63),Sb⟩]) (.seq (.drw [⟨Sa 64,.fad 2 (.t 5),Sb⟩,⟨Sa 65,.load1 (.t 64),Sb⟩,⟨Sa 66,.mv (.t 9),Sb⟩,⟨Sa 67,.bslice 1 [.s []] [(0,(1,.t 66))],Sb⟩,⟨Sa 68,.app 9 1 16 (.t 65) (.t 67),Sb⟩,⟨Sa 69,.fad 3 (.t 5),Sb⟩,⟨Sa 70,.load1 (.t 69),Sb⟩,⟨Sa 71,.loadn 4 (.t 10),Sb⟩,⟨Sa 72,.bslice 1 [.i .i64 0,.s [],.nil,.nil] [(0,(4,.t 71))],Sb⟩,⟨Sa 73,.app 25 4 72 (.t 70) (.t 72),Sb⟩,⟨Sa 74,.fad 2 (.t 5),Sb⟩,⟨Sb,.store 1 (.t 74) (.t 68),Sb⟩,⟨Sa 75,.fad 3 (.t 5),Sb⟩,⟨Sb,.store 1 (.t 75) (.t 73),Sb⟩] 14 [(69,(68,none)),(10,(68,none))]) (.seq (.reg [⟨Sa 76,.mv (.t 0),Sb⟩,⟨Sa 77,.call 24 [.t 76],Sb⟩,⟨Sb,.store 3 (.t 6) (.t 77),Sb⟩]) (.seq (.seq (.reg [⟨Sa 78,.loadn 3 (.t 6),Sb⟩,⟨Sa 79,.call 49 [.t 78,.c (.s [125])],Sb⟩]) (.cond (.t 79) (.seq (.reg [⟨Sa 80,.loadn 4 (.t 5),Sb⟩,⟨Sb,.store 4 (.t 4) (.t 80),Sb⟩]) (.ret)) (.skip))) (.seq (.seq (.reg [⟨Sa 81,.mv (.t 0),Sb⟩,⟨Sa 82,.nck (.t 81),Sb⟩,⟨Sa 83,.fad 3 (.t 82),Sb⟩,⟨Sa 84,.load1 (.t 83),Sb⟩,⟨Sa 85,.bin .eql (.t 84) (.c (.i .i64 0)),Sb⟩,⟨Sa 86,.mv (.t 85),Sb⟩,⟨Sa 87,.loadn 3 (.t 6),some (86,true)⟩,⟨Sa 88,.call 49 [.t 87,.c (.s [44])],some (86,true)⟩,⟨Sa 89,.not (.t 88),some (86,true)⟩,⟨Sa 90,.pick (.t 86) (.t 89) (.c (.b false)),Sb⟩]) (.cond (.t 90) (.reg [⟨Sa 91,.mv (.t 0),Sb⟩,⟨Sa 92,.fad 2 (.t 6),Sb⟩,⟨Sa 93,.load1 (.t 92),Sb⟩,⟨Sa 94,.call 25 [.t 91,.t 93,.c (.i .i64 140)],Sb⟩]) (.skip))) (.reg [⟨Sa 95,.mv (.t 0),Sb⟩,⟨Sa 96,.call 24 [.t 95],Sb⟩,⟨Sb,.store 3 (.t 6) (.t 96),Sb⟩])))))))))))))) (.seq (.reg [⟨Sa 97,.loadn 4 (.t 5),Sb⟩,⟨Sb,.store 4 (.t 4) (.t 97),Sb⟩]) (.ret))))))
theorem is_ref14_parser_object:FnIs Try.prog 53 98 [.celln 4 4] c_ref14_parser_object:=⟨⟨_,_,Try.func53,rfl,rfl,by kernel_rfl,by kernel_rfl⟩⟩
def c_ref13_Next:SCode :=.seq (.reg [⟨Sa 4,.alloc 59 [.i .i64 0,.s [],.i .i64 0],Sb⟩,⟨Sa 5,.mv (.c (.i .i64 0)),Sb⟩,⟨Sa 6,.mv (.c (.i .i64 0)),Sb⟩]) (.seq (.seq (.reg [⟨Sa 14,.mv (.t 1),Sb⟩,⟨Sa 15,.bin .lss (.t 14) (.c (.i .i64 0)),Sb⟩,⟨Sa 16,.mv (.t 15),Sb⟩,⟨Sa 17,.mv (.t 1),some (16,false)⟩,⟨Sa 18,.mv (.t 0),some (16,false)⟩,⟨Sa 19,.lens (.t 18),some (16,false)⟩,⟨Sa 20,.bin .gtr (.t 17) (.t 19),some (16,false)⟩,⟨Sa 21,.pick (.t 16) (.c (.b true)) (.t 20),Sb⟩]) (.cond (.t 21) (.seq (.reg [⟨Sa 22,.build [.i .i64 0,.s [],.i .i64 0] [],Sb⟩,⟨Sb,.store 3 (.t 4) (.t 22),Sb⟩,⟨Sa 5,.mv (.c (.i .i64 0)),Sb⟩,⟨Sa 6,.mv (.c (.i .i64 4)),Sb⟩]) (.ret)) (.skip))) (.seq (.blk 0 (.loop (.seq (.seq (.reg [⟨Sa 23,.mv (.t 1),Sb⟩,⟨Sa 24,.mv (.t 0),Sb⟩,⟨Sa 25,.lens (.t 24),Sb⟩,⟨Sa 26,.bin .lss (.t 23) (.t 25),Sb⟩,⟨Sa 27,.mv (.t 26),Sb⟩,⟨Sa 28,.mv (.t 0),some (27,true)⟩,⟨Sa 29,.mv (.t 1),some (27,true)⟩,⟨Sa 30,.idx (.t 28) (.t 29),some (27,true)⟩,⟨Sa 31,.call 66 [.t 30],some (27,true)⟩,⟨Sa 32,.pick (.t 27) (.t 31) (.c (.b false)),Sb⟩]) (.cond (.t 32) (.skip) (.exit 0))) (.blk 1 (.reg [⟨Sa 33,.mv (.t 1),Sb⟩,⟨Sa 34,.bin .add (.t 33) (.c (.i .i64 1)),Sb⟩,⟨Sa 1,.mv (.t 34),Sb⟩]))))) (.seq (.seq (.reg [⟨Sa 35,.mv (.t 1),Sb⟩,⟨Sa 36,.mv (.t 0),Sb⟩,⟨Sa 37,.lens (.t 36),Sb⟩,⟨Sa 38,.bin .eql (.t 35) (.t 37),Sb⟩]) (.cond (.t 38) (.seq (.reg [⟨Sa 39,.mv (.t 1),Sb⟩,⟨Sa 40,.build [.i .i64 0,.s [],.i .i64 0] [(0,(1,.c (.i .i64 1))),(2,(1,.t 39))],Sb⟩,⟨Sa 41,.mv (.t 1),Sb⟩,⟨Sb,.store 3 (.t 4) (.t 40),Sb⟩,⟨Sa 5,.mv (.t 41),Sb⟩,⟨Sa 6,.mv (.c (.i .i64 0)),Sb⟩]) (.ret)) (.skip))) (.seq (.seq (.reg [⟨Sa 42,.mv (.t 0),Sb⟩,⟨Sa 43,.mv (.t 1),Sb⟩,⟨Sa 44,.idx (.t 42) (.t 43),Sb⟩,⟨Sa 7,.mv (.t 44),Sb⟩]) (.blk 2 (.seq (.reg [⟨Sa 46,.mv (.t 7),Sb⟩,⟨Sa 47,.call 67 [.t 46,.c (.s [123,125,91,93,58,44])],Sb⟩,⟨Sa 45,.mv (.t 47),Sb⟩]) (.cond (.t 45) (.seq (.reg [⟨Sa 48,.mv (.t 0),Sb⟩,⟨Sa 49,.mv (.t 1),Sb⟩,⟨Sa 50,.mv (.t 1),Sb⟩,⟨Sa 51,.bin .add (.t 50) (.c (.i .i64 1)),Sb⟩,⟨Sa 52,.slcs (.t 48) (some (.t 49)) (some (.t 51)),Sb⟩,⟨Sa 53,.mv (.t 1),Sb⟩,⟨Sa 54,.build [.i .i64 0,.s [],.i .i64 0] [(0,(1,.c (.i .i64 2))),(1,(1,.t 52)),(2,(1,.t 53))],Sb⟩,⟨Sa 55,.mv (.t 1),Sb⟩,⟨Sa 56,.bin .add (.t 55) (.c (.i .i64 1)),Sb⟩,⟨Sb,.store 3 (.t 4) (.t 54),Sb⟩,⟨Sa 5,.mv (.t 56),Sb⟩,⟨Sa 6,.mv (.c (.i .i64 0)),Sb⟩]) (.ret)) (.seq (.reg [⟨Sa 58,.mv (.t 7),Sb⟩,⟨Sa 59,.bin .eql (.t 58) (.c (.i .u8 34)),Sb⟩,⟨Sa 57,.mv (.t 59),Sb⟩]) (.cond (.t 57) (.seq (.reg [⟨Sa 61,.mv (.t 0),Sb⟩,⟨Sa 62,.mv (.t 1),Sb⟩,⟨Sa 63,.call 68 [.t 61,.t 62],Sb⟩,⟨Sa 60,.mv (.t 63),Sb⟩,⟨Sa 64,.ext (.t 60) 0,Sb⟩,⟨Sa 65,.ext (.t 60) 1,Sb⟩,⟨Sa 66,.ext (.t 60) 2,Sb⟩,⟨Sa 8,.mv (.t 64),Sb⟩,⟨Sa 9,.mv (.t 65),Sb⟩,⟨Sa 10,.mv (.t 66),Sb⟩]) (.seq (.seq (.reg [⟨Sa 67,.mv (.t 10),Sb⟩,⟨Sa 68,.bin .neq (.t 67) (.c (.i .i64 0)),Sb⟩]) (.cond (.t 68) (.seq (.reg [⟨Sa 69,.build [.i .i64 0,.s [],.i .i64 0] [],Sb⟩,⟨Sa 70,.mv (.t 10),Sb⟩,⟨Sb,.store 3 (.t 4) (.t 69),Sb⟩,⟨Sa 5,.mv (.c (.i .i64 0)),Sb⟩,⟨Sa 6,.mv (.t 70),Sb⟩]) (.ret)) (.skip))) (.seq (.reg [⟨Sa 71,.mv (.t 8),Sb⟩,⟨Sa 72,.mv (.t 1),Sb⟩,⟨Sa 73,.build [.i .i64 0,.s [],.i .i64 0] [(0,(1,.c (.i .i64 3))),(1,(1,.t 71)),(2,(1,.t 72))],Sb⟩,⟨Sa 74,.mv (.t 9),Sb⟩,⟨Sb,.store 3 (.t 4) (.t 73),Sb⟩,⟨Sa 5,.mv (.t 74),Sb⟩,⟨Sa 6,.mv (.c (.i .i64 0)),Sb⟩]) (.ret)))) (.seq (.reg [⟨Sa 76,.mv (.t 7),Sb⟩,⟨Sa 77,.bin .eql (.t 76) (.c (.i .u8 45)),Sb⟩,⟨Sa 78,.mv (.t 77),Sb⟩,⟨Sa 79,.mv (.t 7),some (78,false)⟩,⟨Sa 80,.call 69 [.t 79],some (78,false)⟩,⟨Sa 81,.pick (.t 78) (.c (.b true)) (.t 80),Sb⟩,⟨Sa 75,.mv (.t 81),Sb⟩]) (.cond (.t 75) (.seq (.reg [⟨Sa 82,.mv (.t 0),Sb⟩,⟨Sa 83,.mv (.t 1),Sb⟩,⟨Sa 84,.slcs (.t 82) (some (.t 83)) none,Sb⟩,⟨Sa 85,.call 61 [.t 84],Sb⟩,⟨Sa 11,.mv (.t 85),Sb⟩]) (.seq (.seq (.reg [⟨Sa 86,.mv (.t 11),Sb⟩,⟨Sa 87,.bin .eql (.t 86) (.c (.i .i64 0)),Sb⟩]) (.cond (.t 87) (.seq (.reg [⟨Sa 88,.build [.i .i64 0,.s [],.i .i64 0] [],Sb⟩,⟨Sb,.store 3 (.t 4) (.t 88),Sb⟩,⟨Sa 5,.mv (.c (.i .i64 0)),Sb⟩,⟨Sa 6,.mv (.c (.i .i64 130)),Sb⟩]) (.ret)) (.skip))) (.seq (.reg [⟨Sa 89,.mv (.t 0),Sb⟩,⟨Sa 90,.mv (.t 1),Sb⟩,⟨Sa 91,.mv (.t 1),Sb⟩,⟨Sa 92,.mv (.t 11),Sb⟩,⟨Sa 93,.bin .add (.t 91) (.t 92),Sb⟩,⟨Sa 94,.slcs (.t 89) (some (.t 90)) (some (.t 93)),Sb⟩,⟨Sa 95,.mv (.t 1),Sb⟩,⟨Sa 96,.build [.i .i64 0,.s [],.i .i64 0] [(0,(1,.c (.i .i64 4))),(1,(1,.t 94)),(2,(1,.t 95))],Sb⟩,⟨Sa 97,.mv (.t 1),Sb⟩,⟨Sa 98,.mv (.t 11),Sb⟩,⟨Sa 99,.bin .add (.t 97) (.t 98),Sb⟩,⟨Sb,.store 3 (.t 4) (.t 96),Sb⟩,⟨Sa 5,.mv (.t 99),Sb⟩,⟨Sa 6,.mv (.c (.i .i64 0)),Sb⟩]) (.ret)))) (.skip))))))))) (.seq (.reg [⟨Sa 12,.mv (.c (.i .i64 0)),Sb⟩]) (.seq (.blk 3 (.loop (.seq (.seq (.reg [⟨Sa 100,.mv (.t 1),Sb⟩,⟨Sa 101,.mv (.t 12),Sb⟩,⟨Sa 102,.bin .add (.t 100) (.t 101),Sb⟩,⟨Sa 103,.mv (.t 0),Sb⟩,⟨Sa 104,.lens (.t 103),Sb⟩,⟨Sa 105,.bin .lss (.t 102) (.t 104),Sb⟩,⟨Sa 106,.mv (.t 105),Sb⟩,⟨Sa 107,.mv (.t 0),some (106,true)⟩,⟨Sa 108,.mv (.t 1),some (106,true)⟩,⟨Sa 109,.mv (.t 12),some (106,true)⟩,⟨Sa 110,.bin .add (.t 108) (.t 109),some (106,true)⟩,⟨Sa 111,.idx (.t 107) (.t 110),some (106,true)⟩,⟨Sa 112,.call 70 [.t 111],some (106,true)⟩,⟨Sa 113,.pick (.t 106) (.t 112) (.c (.b false)),Sb⟩]) (.cond (.t 113) (.skip) (.exit 3))) (.blk 4 (.reg [⟨Sa 114,.mv (.t 12),Sb⟩,⟨Sa 115,.bin .add (.t 114) (.c (.i .i64 1)),Sb⟩,⟨Sa 12,.mv (.t 115),Sb⟩]))))) (.seq (.seq (.reg [⟨Sa 116,.mv (.t 0),Sb⟩,⟨Sa 117,.mv (.t 1),Sb⟩,⟨Sa 118,.mv (.t 1),Sb⟩,⟨Sa 119,.mv (.t 12),Sb⟩,⟨Sa 120,.bin .add (.t 118) (.t 119),Sb⟩,⟨Sa 121,.slcs (.t 116) (some (.t 117)) (some (.t 120)),Sb⟩,⟨Sa 13,.mv (.t 121),Sb⟩]) (.seq (.reg [⟨Sa 122,.mv (.t 13),Sb⟩,⟨Sa 123,.bin .eql (.t 122) (.c (.s [116,114,117,101])),Sb⟩,⟨Sa 124,.mv (.t 123),Sb⟩,⟨Sa 125,.mv (.t 13),some (124,false)⟩,⟨Sa 126,.bin .eql (.t 125) (.c (.s [102,97,108,115,101])),some (124,false)⟩,⟨Sa 127,.pick (.t 124) (.c (.b true)) (.t 126),Sb⟩,⟨Sa 128,.mv (.t 127),Sb⟩,⟨Sa 129,.mv (.t 13),some (128,false)⟩,⟨Sa 130,.bin .eql (.t 129) (.c (.s [110,117,108,108])),some (128,false)⟩,⟨Sa 131,.pick (.t 128) (.c (.b true)) (.t 130),Sb⟩]) (.cond (.t 131) (.seq (.reg [⟨Sa 132,.mv (.t 13),Sb⟩,⟨Sa 133,.mv (.t 1),Sb⟩,⟨Sa 134,.build [.i .i64 0,.s [],.i .i64 0] [(0,(1,.c (.i .i64 5))),(1,(1,.t 132)),(2,(1,.t 133))],Sb⟩,⟨Sa 135,.mv (.t 1),Sb⟩,⟨Sa 136,.mv (.t 12),Sb⟩,⟨Sa 137,.bin .add (.t 135) (.t 136),Sb⟩,⟨Sb,.store 3 (.t 4) (.t 134),Sb⟩,⟨Sa 5,.mv (.t 137),Sb⟩,⟨Sa 6,.mv (.c (.i .i64 0)),Sb⟩]) (.ret)) (.skip)))) (.seq (.reg [⟨Sa 138,.build [.i .i64 0,.s [],.i .i64 0] [],Sb⟩,⟨Sb,.store 3 (.t 4) (.t 138),Sb⟩,⟨Sa 5,.mv (.c (.i .i64 0)),Sb⟩,⟨Sa 6,.mv (.c (.i .i64 130)),Sb⟩]) (.ret)))))))))
theorem is_ref13_Next:FnIs Try.prog 54 139 [.celln 4 3,.tmp 5,.tmp 6] c_ref13_Next:=⟨⟨_,_,Try.func54,rfl,rfl,by kernel_rfl,by kernel_rfl⟩⟩
def c_jrd_failure_fail:SCode :=.seq (.reg [⟨Sa 4,.mv (.t 0),Sb⟩,⟨Sa 5,.nck (.t 4),Sb⟩,⟨Sa 6,.fad 0 (.t 5),Sb⟩,⟨Sa 7,.load1 (.t 6),Sb⟩,⟨Sa 8,.bin .eql (.t 7) (.c (.i .i64 0)),Sb⟩]) (.cond (.t 8) (.reg [⟨Sa 9,.mv (.t 0),Sb⟩,⟨Sa 10,.mv (.t 1),Sb⟩,⟨Sa 11,.nck (.t 9),Sb⟩,⟨Sa 12,.fad 0 (.t 11),Sb⟩,⟨Sb,.store 1 (.t 12) (.t 10),Sb⟩]) (.skip))
theorem is_jrd_failure_fail:FnIs Try.prog 55 13 [] c_jrd_failure_fail:=⟨⟨_,_,Try.func55,rfl,rfl,by kernel_rfl,by kernel_rfl⟩⟩
def c_jrd_decoder_member:SCode :=.seq (.reg [⟨Sa 6,.alloc 25 [.i .i64 0,.s [],.nil,.nil],Sb⟩,⟨Sa 7,.mv (.c (.b false)),Sb⟩]) (.seq (.seq (.reg [⟨Sa 10,.mv (.t 0),Sb⟩,⟨Sa 11,.nck (.t 10),Sb⟩,⟨Sa 12,.fad 0 (.t 11),Sb⟩,⟨Sa 13,.fad 0 (.t 12),Sb⟩,⟨Sa 14,.load1 (.t 13),Sb⟩,⟨Sa 15,.bin .neq (.t 14) (.c (.i .i64 0)),Sb⟩]) (.cond (.t 15) (.seq (.reg [⟨Sa 16,.build [.i .i64 0,.s [],.nil,.nil] [],Sb⟩,⟨Sb,.store 4 (.t 6) (.t 16),Sb⟩,⟨Sa 7,.mv (.c (.b false)),Sb⟩]) (.ret)) (.skip))) (.seq (.reg [⟨Sa 18,.mv (.t 0),Sb⟩,⟨Sa 19,.nck (.t 18),Sb⟩,⟨Sa 20,.fad 1 (.t 19),Sb⟩,⟨Sa 21,.loadn 4 (.t 20),Sb⟩,⟨Sa 22,.mv (.t 1),Sb⟩,⟨Sa 23,.call 71 [.t 21,.t 22],Sb⟩,⟨Sa 17,.mv (.t 23),Sb⟩,⟨Sa 24,.ext (.t 17) 0,Sb⟩,⟨Sa 25,.ext (.t 17) 1,Sb⟩,⟨Sa 8,.alloc 25 [.i .i64 0,.s [],.nil,.nil],Sb⟩,⟨Sb,.store 4 (.t 8) (.t 24),Sb⟩,⟨Sa 9,.mv (.t 25),Sb⟩]) (.seq (.seq (.reg [⟨Sa 26,.mv (.t 9),Sb⟩,⟨Sa 27,.mv (.t 26),Sb⟩,⟨Sa 28,.fad 0 (.t 8),some (27,true)⟩,⟨Sa 29,.load1 (.t 28),some (27,true)⟩,⟨Sa 30,.mv (.t 2),some (27,true)⟩,⟨Sa 31,.bin .neq (.t 29) (.t 30),some (27,true)⟩,⟨Sa 32,.pick (.t 27) (.t 31) (.c (.b false)),Sb⟩]) (.cond (.t 32) (.reg [⟨Sa 33,.mv (.t 0),Sb⟩,⟨Sa 34,.nck (.t 33),Sb⟩,⟨Sa 35,.fad 0 (.t 34),Sb⟩,⟨Sa 36,.call 55 [.t 35,.c (.i .i64 160)],Sb⟩]) (.skip))) (.seq (.drw [⟨Sa 37,.loadn 4 (.t 8),Sb⟩,⟨Sa 38,.mv (.t 9),Sb⟩,⟨Sa 39,.mv (.t 38),Sb⟩,⟨Sa 40,.fad 0 (.t 8),some (39,true)⟩,⟨Sa 41,.load1 (.t 40),some (39,true)⟩,⟨Sa 42,.mv (.t 2),some (39,true)⟩,⟨Sa 43,.bin .eql (.t 41) (.t 42),some (39,true)⟩,⟨Sa 44,.pick (.t 39) (.t 43) (.c (.b false)),Sb⟩,⟨Sb,.store 4 (.t 6) (.t 37),Sb⟩,⟨Sa 7,.mv (.t 44),Sb⟩] 10 [(40,(6,some (39,true)))]) (.ret)))))
theorem is_jrd_decoder_member:FnIs Try.prog 56 45 [.celln 6 4,.tmp 7] c_jrd_decoder_member:=⟨⟨_,_,Try.func56,rfl,rfl,by kernel_rfl,by kernel_rfl⟩⟩
def c_jrd_decoder_items:SCode :=.seq (.reg [⟨Sa 6,.mv (.c .nil),Sb⟩]) (.seq (.reg [⟨Sa 10,.mv (.t 0),Sb⟩,⟨Sa 11,.mv (.t 1),Sb⟩,⟨Sa 12,.call 56 [.t 10,.t 11,.c (.i .i64 6)],Sb⟩,⟨Sa 9,.mv (.t 12),Sb⟩,⟨Sa 13,.ext (.t 9) 0,Sb⟩,⟨Sa 14,.ext (.t 9) 1,Sb⟩,⟨Sa 7,.alloc 25 [.i .i64 0,.s [],.nil,.nil],Sb⟩,⟨Sb,.store 4 (.t 7) (.t 13),Sb⟩,⟨Sa 8,.mv (.t 14),Sb⟩]) (.seq (.seq (.reg [⟨Sa 15,.mv (.t 8),Sb⟩,⟨Sa 16,.mv (.t 15),Sb⟩,⟨Sa 17,.fad 3 (.t 7),some (16,true)⟩,⟨Sa 18,.load1 (.t 17),some (16,true)⟩,⟨Sa 19,.lenr (.t 18),some (16,true)⟩,⟨Sa 20,.mv (.t 2),some (16,true)⟩,⟨Sa 21,.bin .gtr (.t 19) (.t 20),some (16,true)⟩,⟨Sa 22,.pick (.t 16) (.t 21) (.c (.b false)),Sb⟩]) (.cond (.t 22) (.seq (.reg [⟨Sa 23,.mv (.t 0),Sb⟩,⟨Sa 24,.nck (.t 23),Sb⟩,⟨Sa 25,.fad 0 (.t 24),Sb⟩,⟨Sa 26,.call 55 [.t 25,.c (.i .i64 161)],Sb⟩]) (.seq (.reg [⟨Sa 6,.mv (.c .nil),Sb⟩]) (.ret))) (.skip))) (.seq (.reg [⟨Sa 27,.fad 3 (.t 7),Sb⟩,⟨Sa 28,.load1 (.t 27),Sb⟩,⟨Sa 6,.mv (.t 28),Sb⟩]) (.ret))))
theorem is_jrd_decoder_items:FnIs Try.prog 57 29 [.tmp 6] c_jrd_decoder_items:=⟨⟨_,_,Try.func57,rfl,rfl,by kernel_rfl,by kernel_rfl⟩⟩
def c_jrd_decoder_requiredText:SCode :=.seq (.reg [⟨Sa 4,.mv (.c (.s [])),Sb⟩]) (.seq (.reg [⟨Sa 8,.mv (.t 0),Sb⟩,⟨Sa 9,.mv (.t 1),Sb⟩,⟨Sa 10,.call 56 [.t 8,.t 9,.c (.i .i64 5)],Sb⟩,⟨Sa 7,.mv (.t 10),Sb⟩,⟨Sa 11,.ext (.t 7) 0,Sb⟩,⟨Sa 12,.ext (.t 7) 1,Sb⟩,⟨Sa 5,.alloc 25 [.i .i64 0,.s [],.nil,.nil],Sb⟩,⟨Sb,.store 4 (.t 5) (.t 11),Sb⟩,⟨Sa 6,.mv (.t 12),Sb⟩]) (.seq (.seq (.reg [⟨Sa 13,.mv (.t 6),Sb⟩,⟨Sa 14,.not (.t 13),Sb⟩]) (.cond (.t 14) (.reg [⟨Sa 15,.mv (.t 0),Sb⟩,⟨Sa 16,.nck (.t 15),Sb⟩,⟨Sa 17,.fad 0 (.t 16),Sb⟩,⟨Sa 18,.call 55 [.t 17,.c (.i .i64 160)],Sb⟩]) (.skip))) (.seq (.reg [⟨Sa 19,.fad 1 (.t 5),Sb⟩,⟨Sa 20,.load1 (.t 19),Sb⟩,⟨Sa 4,.mv (.t 20),Sb⟩]) (.ret))))
theorem is_jrd_decoder_requiredText:FnIs Try.prog 58 21 [.tmp 4] c_jrd_decoder_requiredText:=⟨⟨_,_,Try.func58,rfl,rfl,by kernel_rfl,by kernel_rfl⟩⟩
def c_ref14_Get:SCode :=.seq (.reg [⟨Sa 2,.box 25 (.t 0),Sb⟩,⟨Sa 4,.alloc 25 [.i .i64 0,.s [],.nil,.nil],Sb⟩,⟨Sa 5,.mv (.c (.b false)),Sb⟩]) (.seq (.seq (.reg [⟨Sa 7,.fad 0 (.t 2),Sb⟩,⟨Sa 8,.load1 (.t 7),Sb⟩,⟨Sa 9,.bin .neq (.t 8) (.c (.i .i64 7)),Sb⟩]) (.cond (.t 9) (.seq (.reg [⟨Sa 10,.build [.i .i64 0,.s [],.nil,.nil] [],Sb⟩,⟨Sb,.store 4 (.t 4) (.t 10),Sb⟩,⟨Sa 5,.mv (.c (.b false)),Sb⟩]) (.ret)) (.skip))) (.seq (.seq (.reg [⟨Sa 11,.fad 2 (.t 2),Sb⟩,⟨Sa 12,.load1 (.t 11),Sb⟩,⟨Sa 13,.lenr (.t 12),Sb⟩,⟨Sa 14,.mv (.c (.i .i64 0)),Sb⟩]) (.blk 0 (.loop (.seq (.reg [⟨Sa 15,.bin .lss (.t 14) (.t 13),Sb⟩]) (.seq (.cond (.t 15) (.skip) (.exit 0)) (.seq (.blk 1 (.seq (.reg [⟨Sa 16,.mv (.t 14),Sb⟩,⟨Sa 6,.mv (.t 16),Sb⟩]) (.seq (.reg [⟨Sa 17,.fad 2 (.t 2),Sb⟩,⟨Sa 18,.load1 (.t 17),Sb⟩,⟨Sa 19,.mv (.t 6),Sb⟩,⟨Sa 20,.iad 1 (.t 18) (.t 19),Sb⟩,⟨Sa 21,.load1 (.t 20),Sb⟩,⟨Sa 22,.mv (.t 1),Sb⟩,⟨Sa 23,.bin .eql (.t 21) (.t 22),Sb⟩,⟨Sa 24,.mv (.t 23),Sb⟩,⟨Sa 25,.mv (.t 6),some (24,true)⟩,⟨Sa 26,.fad 3 (.t 2),some (24,true)⟩,⟨Sa 27,.load1 (.t 26),some (24,true)⟩,⟨Sa 28,.lenr (.t 27),some (24,true)⟩,⟨Sa 29,.bin .lss (.t 25) (.t 28),some (24,true)⟩,⟨Sa 30,.pick (.t 24) (.t 29) (.c (.b false)),Sb⟩]) (.cond (.t 30) (.seq (.reg [⟨Sa 31,.fad 3 (.t 2),Sb⟩,⟨Sa 32,.load1 (.t 31),Sb⟩,⟨Sa 33,.mv (.t 6),Sb⟩,⟨Sa 34,.iad 4 (.t 32) (.t 33),Sb⟩,⟨Sa 35,.loadn 4 (.t 34),Sb⟩,⟨Sb,.store 4 (.t 4) (.t 35),Sb⟩,⟨Sa 5,.mv (.c (.b true)),Sb⟩]) (.ret)) (.skip))))) (.reg [⟨Sa 36,.bin .add (.t 14) (.c (.i .i64 1)),Sb⟩,⟨Sa 14,.mv (.t 36),Sb⟩]))))))) (.seq (.reg [⟨Sa 37,.build [.i .i64 0,.s [],.nil,.nil] [],Sb⟩,⟨Sb,.store 4 (.t 4) (.t 37),Sb⟩,⟨Sa 5,.mv (.c (.b false)),Sb⟩]) (.ret))))
theorem is_ref14_Get:FnIs Try.prog 59 38 [.celln 4 4,.tmp 5] c_ref14_Get:=⟨⟨_,_,Try.func59,rfl,rfl,by kernel_rfl,by kernel_rfl⟩⟩
def c_ref13_numeral:SCode :=.seq (.reg [⟨Sa 2,.mv (.c (.i .i64 0)),Sb⟩]) (.seq (.reg [⟨Sa 3,.mv (.c (.i .i64 0)),Sb⟩]) (.seq (.seq (.reg [⟨Sa 7,.mv (.t 3),Sb⟩,⟨Sa 8,.mv (.t 0),Sb⟩,⟨Sa 9,.lens (.t 8),Sb⟩,⟨Sa 10,.bin .lss (.t 7) (.t 9),Sb⟩,⟨Sa 11,.mv (.t 10),Sb⟩,⟨Sa 12,.mv (.t 0),some (11,true)⟩,⟨Sa 13,.mv (.t 3),some (11,true)⟩,⟨Sa 14,.idx (.t 12) (.t 13),some (11,true)⟩,⟨Sa 15,.bin .eql (.t 14) (.c (.i .u8 45)),some (11,true)⟩,⟨Sa 16,.pick (.t 11) (.t 15) (.c (.b false)),Sb⟩]) (.cond (.t 16) (.reg [⟨Sa 17,.mv (.t 3),Sb⟩,⟨Sa 18,.bin .add (.t 17) (.c (.i .i64 1)),Sb⟩,⟨Sa 3,.mv (.t 18),Sb⟩]) (.skip))) (.seq (.seq (.reg [⟨Sa 19,.mv (.t 3),Sb⟩,⟨Sa 20,.mv (.t 0),Sb⟩,⟨Sa 21,.lens (.t 20),Sb⟩,⟨Sa 22,.bin .eql (.t 19) (.t 21),Sb⟩,⟨Sa 23,.mv (.t 22),Sb⟩,⟨Sa 24,.mv (.t 0),some (23,false)⟩,⟨Sa 25,.mv (.t 3),some (23,false)⟩,⟨Sa 26,.idx (.t 24) (.t 25),some (23,false)⟩,⟨Sa 27,.call 69 [.t 26],some (23,false)⟩,⟨Sa 28,.not (.t 27),some (23,false)⟩,⟨Sa 29,.pick (.t 23) (.c (.b true)) (.t 28),Sb⟩]) (.cond (.t 29) (.seq (.reg [⟨Sa 2,.mv (.c (.i .i64 0)),Sb⟩]) (.ret)) (.skip))) (.seq (.seq (.reg [⟨Sa 30,.mv (.t 0),Sb⟩,⟨Sa 31,.mv (.t 3),Sb⟩,⟨Sa 32,.idx (.t 30) (.t 31),Sb⟩,⟨Sa 33,.bin .eql (.t 32) (.c (.i .u8 48)),Sb⟩]) (.cond (.t 33) (.reg [⟨Sa 34,.mv (.t 3),Sb⟩,⟨Sa 35,.bin .add (.t 34) (.c (.i .i64 1)),Sb⟩,⟨Sa 3,.mv (.t 35),Sb⟩]) (.reg [⟨Sa 36,.mv (.t 3),Sb⟩,⟨Sa 37,.mv (.t 0),Sb⟩,⟨Sa 38,.mv (.t 3),Sb⟩,⟨Sa 39,.slcs (.t 37) (some (.t 38)) none,Sb⟩,⟨Sa 40,.call 72 [.t 39],Sb⟩,⟨Sa 41,.bin .add (.t 36) (.t 40),Sb⟩,⟨Sa 3,.mv (.t 41),Sb⟩]))) (.seq (.seq (.reg [⟨Sa 42,.mv (.t 0),Sb⟩,⟨Sa 43,.mv (.t 3),Sb⟩,⟨Sa 44,.bin .add (.t 43) (.c (.i .i64 1)),Sb⟩,⟨Sa 45,.call 64 [.t 42,.t 44],Sb⟩,⟨Sa 46,.call 72 [.t 45],Sb⟩,⟨Sa 4,.mv (.t 46),Sb⟩]) (.seq (.reg [⟨Sa 47,.mv (.t 3),Sb⟩,⟨Sa 48,.mv (.t 0),Sb⟩,⟨Sa 49,.lens (.t 48),Sb⟩,⟨Sa 50,.bin .lss (.t 47) (.t 49),Sb⟩,⟨Sa 51,.mv (.t 50),Sb⟩,⟨Sa 52,.mv (.t 0),some (51,true)⟩,⟨Sa 53,.mv (.t 3),some (51,true)⟩,⟨Sa 54,.idx (.t 52) (.t 53),some (51,true)⟩,⟨Sa 55,.bin .eql (.t 54) (.c (.i .u8 46)),some (51,true)⟩,⟨Sa 56,.pick (.t 51) (.t 55) (.c (.b false)),Sb⟩,⟨Sa 57,.mv (.t 56),Sb⟩,⟨Sa 58,.mv (.t 4),some (57,true)⟩,⟨Sa 59,.bin .gtr (.t 58) (.c (.i .i64 0)),some (57,true)⟩,⟨Sa 60,.pick (.t 57) (.t 59) (.c (.b false)),Sb⟩]) (.cond (.t 60) (.reg [⟨Sa 61,.mv (.t 3),Sb⟩,⟨Sa 62,.mv (.t 4),Sb⟩,⟨Sa 63,.bin .add (.c (.i .i64 1)) (.t 62),Sb⟩,⟨Sa 64,.bin .add (.t 61) (.t 63),Sb⟩,⟨Sa 3,.mv (.t 64),Sb⟩]) (.skip)))) (.seq (.seq (.reg [⟨Sa 65,.mv (.t 3),Sb⟩,⟨Sa 66,.mv (.t 0),Sb⟩,⟨Sa 67,.lens (.t 66),Sb⟩,⟨Sa 68,.bin .lss (.t 65) (.t 67),Sb⟩,⟨Sa 69,.mv (.t 68),Sb⟩,⟨Sa 70,.mv (.t 0),some (69,true)⟩,⟨Sa 71,.mv (.t 3),some (69,true)⟩,⟨Sa 72,.idx (.t 70) (.t 71),some (69,true)⟩,⟨Sa 73,.call 67 [.t 72,.c (.s [101,69])],some (69,true)⟩,⟨Sa 74,.pick (.t 69) (.t 73) (.c (.b false)),Sb⟩]) (.cond (.t 74) (.seq (.reg [⟨Sa 75,.mv (.t 3),Sb⟩,⟨Sa 76,.bin .add (.t 75) (.c (.i .i64 1)),Sb⟩,⟨Sa 5,.mv (.t 76),Sb⟩]) (.seq (.seq (.reg [⟨Sa 77,.mv (.t 5),Sb⟩,⟨Sa 78,.mv (.t 0),Sb⟩,⟨Sa 79,.lens (.t 78),Sb⟩,⟨Sa 80,.bin .lss (.t 77) (.t 79),Sb⟩,⟨Sa 81,.mv (.t 80),Sb⟩,⟨Sa 82,.mv (.t 0),some (81,true)⟩,⟨Sa 83,.mv (.t 5),some (81,true)⟩,⟨Sa 84,.idx (.t 82) (.t 83),some (81,true)⟩,⟨Sa 85,.call 67 [.t 84,.c (.s [43,45])],some (81,true)⟩,⟨Sa 86,.pick (.t 81) (.t 85) (.c (.b false)),Sb⟩]) (.cond (.t 86) (.reg [⟨Sa 87,.mv (.t 5),Sb⟩,⟨Sa 88,.bin .add (.t 87) (.c (.i .i64 1)),Sb⟩,⟨Sa 5,.mv (.t 88),Sb⟩]) (.skip))) (.seq (.reg [⟨Sa 89,.mv (.t 0),Sb⟩,⟨Sa 90,.mv (.t 5),Sb⟩,⟨Sa 91,.call 64 [.t 89,.t 90],Sb⟩,⟨Sa 92,.call 72 [.t 91],Sb⟩,⟨Sa 6,.mv (.t 92),Sb⟩]) (.seq (.reg [⟨Sa 93,.mv (.t 6),Sb⟩,⟨Sa 94,.bin .gtr (.t 93) (.c (.i .i64 0)),Sb⟩]) (.cond (.t 94) (.reg [⟨Sa 95,.mv (.t 5),Sb⟩,⟨Sa 96,.mv (.t 6),Sb⟩,⟨Sa 97,.bin .add (.t 95) (.t 96),Sb⟩,⟨Sa 3,.mv (.t 97),Sb⟩]) (.skip)))))) (.skip))) (.seq (.reg [⟨Sa 98,.mv (.t 3),Sb⟩,⟨Sa 2,.mv (.t 98),Sb⟩]) (.ret))))))))
theorem is_ref13_numeral:FnIs Try.prog 61 99 [.tmp 2] c_ref13_numeral:=⟨⟨_,_,Try.func61,rfl,rfl,by kernel_rfl,by kernel_rfl⟩⟩
def c_ref13_exponent:SCode :=.seq (.reg [⟨Sa 2,.mv (.c (.i .i64 0)),Sb⟩]) (.seq (.reg [⟨Sa 6,.mv (.t 0),Sb⟩,⟨Sa 7,.bin .neq (.t 6) (.c (.s [])),Sb⟩,⟨Sa 8,.mv (.t 7),Sb⟩,⟨Sa 9,.mv (.t 0),some (8,true)⟩,⟨Sa 10,.idx (.t 9) (.c (.i .i64 0)),some (8,true)⟩,⟨Sa 11,.bin .eql (.t 10) (.c (.i .u8 45)),some (8,true)⟩,⟨Sa 12,.pick (.t 8) (.t 11) (.c (.b false)),Sb⟩,⟨Sa 3,.mv (.t 12),Sb⟩]) (.seq (.seq (.reg [⟨Sa 13,.mv (.t 0),Sb⟩,⟨Sa 14,.bin .neq (.t 13) (.c (.s [])),Sb⟩,⟨Sa 15,.mv (.t 14),Sb⟩,⟨Sa 16,.mv (.t 0),some (15,true)⟩,⟨Sa 17,.idx (.t 16) (.c (.i .i64 0)),some (15,true)⟩,⟨Sa 18,.call 67 [.t 17,.c (.s [43,45])],some (15,true)⟩,⟨Sa 19,.pick (.t 15) (.t 18) (.c (.b false)),Sb⟩]) (.cond (.t 19) (.reg [⟨Sa 20,.mv (.t 0),Sb⟩,⟨Sa 21,.slcs (.t 20) (some (.c (.i .i64 1))) none,Sb⟩,⟨Sa 0,.mv (.t 21),Sb⟩]) (.skip))) (.seq (.reg [⟨Sa 4,.mv (.c (.i .i64 0)),Sb⟩]) (.seq (.seq (.reg [⟨Sa 5,.mv (.c (.i .i64 0)),Sb⟩]) (.blk 0 (.loop (.seq (.seq (.reg [⟨Sa 22,.mv (.t 5),Sb⟩,⟨Sa 23,.mv (.t 0),Sb⟩,⟨Sa 24,.lens (.t 23),Sb⟩,⟨Sa 25,.bin .lss (.t 22) (.t 24),Sb⟩]) (.cond (.t 25) (.skip) (.exit 0))) (.seq (.blk 1 (.reg [⟨Sa 28,.mv (.t 4),Sb⟩,⟨Sa 29,.bin .mul (.t 28) (.c (.i .i64 10)),Sb⟩,⟨Sa 30,.mv (.t 0),Sb⟩,⟨Sa 31,.mv (.t 5),Sb⟩,⟨Sa 32,.idx (.t 30) (.t 31),Sb⟩,⟨Sa 33,.bin .sub (.t 32) (.c (.i .u8 48)),Sb⟩,⟨Sa 34,.cvi .i64 (.t 33),Sb⟩,⟨Sa 35,.bin .add (.t 29) (.t 34),Sb⟩,⟨Sa 36,.pu .mn [.t 35,.c (.i .i64 1073741824)],Sb⟩,⟨Sa 4,.mv (.t 36),Sb⟩])) (.reg [⟨Sa 26,.mv (.t 5),Sb⟩,⟨Sa 27,.bin .add (.t 26) (.c (.i .i64 1)),Sb⟩,⟨Sa 5,.mv (.t 27),Sb⟩])))))) (.seq (.seq (.reg [⟨Sa 37,.mv (.t 3),Sb⟩]) (.cond (.t 37) (.seq (.reg [⟨Sa 38,.mv (.t 4),Sb⟩,⟨Sa 39,.neg (.t 38),Sb⟩,⟨Sa 2,.mv (.t 39),Sb⟩]) (.ret)) (.skip))) (.seq (.reg [⟨Sa 40,.mv (.t 4),Sb⟩,⟨Sa 2,.mv (.t 40),Sb⟩]) (.ret)))))))
theorem is_ref13_exponent:FnIs Try.prog 63 41 [.tmp 2] c_ref13_exponent:=⟨⟨_,_,Try.func63,rfl,rfl,by kernel_rfl,by kernel_rfl⟩⟩
def c_ref13_tail:SCode :=.seq (.reg [⟨Sa 4,.mv (.c (.s [])),Sb⟩]) (.seq (.seq (.reg [⟨Sa 5,.mv (.t 1),Sb⟩,⟨Sa 6,.mv (.t 0),Sb⟩,⟨Sa 7,.lens (.t 6),Sb⟩,⟨Sa 8,.bin .geq (.t 5) (.t 7),Sb⟩]) (.cond (.t 8) (.seq (.reg [⟨Sa 4,.mv (.c (.s [])),Sb⟩]) (.ret)) (.skip))) (.seq (.reg [⟨Sa 9,.mv (.t 0),Sb⟩,⟨Sa 10,.mv (.t 1),Sb⟩,⟨Sa 11,.slcs (.t 9) (some (.t 10)) none,Sb⟩,⟨Sa 4,.mv (.t 11),Sb⟩]) (.ret)))
theorem is_ref13_tail:FnIs Try.prog 64 12 [.tmp 4] c_ref13_tail:=⟨⟨_,_,Try.func64,rfl,rfl,by kernel_rfl,by kernel_rfl⟩⟩
def c_ref13_white:SCode :=.seq (.reg [⟨Sa 2,.mv (.c (.b false)),Sb⟩]) (.seq (.reg [⟨Sa 3,.mv (.t 0),Sb⟩,⟨Sa 4,.call 67 [.t 3,.c (.s [32,9,10,13])],Sb⟩,⟨Sa 2,.mv (.t 4),Sb⟩]) (.ret))
theorem is_ref13_white:FnIs Try.prog 66 5 [.tmp 2] c_ref13_white:=⟨⟨_,_,Try.func66,rfl,rfl,by kernel_rfl,by kernel_rfl⟩⟩
def c_ref13_text:SCode :=.seq (.reg [⟨Sa 4,.mv (.c (.s [])),Sb⟩,⟨Sa 5,.mv (.c (.i .i64 0)),Sb⟩,⟨Sa 6,.mv (.c (.i .i64 0)),Sb⟩]) (.seq (.reg [⟨Sa 7,.mv (.c (.s [])),Sb⟩]) (.seq (.seq (.reg [⟨Sa 15,.mv (.t 1),Sb⟩,⟨Sa 16,.bin .add (.t 15) (.c (.i .i64 1)),Sb⟩,⟨Sa 8,.mv (.t 16),Sb⟩]) (.blk 0 (.loop (.seq (.seq (.reg [⟨Sa 17,.mv (.t 8),Sb⟩,⟨Sa 18,.mv (.t 0),Sb⟩,⟨Sa 19,.lens (.t 18),Sb⟩,⟨Sa 20,.bin .lss (.t 17) (.t 19),Sb⟩]) (.cond (.t 20) (.skip) (.exit 0))) (.blk 1 (.blk 2 (.seq (.reg [⟨Sa 39,.mv (.t 0),Sb⟩,⟨Sa 40,.mv (.t 8),Sb⟩,⟨Sa 41,.idx (.t 39) (.t 40),Sb⟩,⟨Sa 42,.bin .eql (.t 41) (.c (.i .u8 34)),Sb⟩,⟨Sa 38,.mv (.t 42),Sb⟩]) (.cond (.t 38) (.seq (.reg [⟨Sa 43,.mv (.t 7),Sb⟩,⟨Sa 44,.mv (.t 8),Sb⟩,⟨Sa 45,.bin .add (.t 44) (.c (.i .i64 1)),Sb⟩,⟨Sa 4,.mv (.t 43),Sb⟩,⟨Sa 5,.mv (.t 45),Sb⟩,⟨Sa 6,.mv (.c (.i .i64 0)),Sb⟩]) (.ret)) (.seq (.reg [⟨Sa 47,.mv (.t 0),Sb⟩,⟨Sa 48,.mv (.t 8),Sb⟩,⟨Sa 49,.idx (.t 47) (.t 48),Sb⟩,⟨Sa 50,.bin .eql (.t 49) (.c (.i .u8 92)),Sb⟩,⟨Sa 46,.mv (.t 50),Sb⟩]) (.cond (.t 46) (.seq (.reg [⟨Sa 52,.mv (.t 0),Sb⟩,⟨Sa 53,.mv (.t 8),Sb⟩,⟨Sa 54,.call 73 [.t 52,.t 53],Sb⟩,⟨Sa 51,.mv (.t 54),Sb⟩,⟨Sa 55,.ext (.t 51) 0,Sb⟩,⟨Sa 56,.ext (.t 51) 1,Sb⟩,⟨Sa 57,.ext (.t 51) 2,Sb⟩,⟨Sa 9,.mv (.t 55),Sb⟩,⟨Sa 10,.mv (.t 56),Sb⟩,⟨Sa 11,.mv (.t 57),Sb⟩]) (.seq (.seq (.reg [⟨Sa 58,.mv (.t 11),Sb⟩,⟨Sa 59,.bin .neq (.t 58) (.c (.i .i64 0)),Sb⟩]) (.cond (.t 59) (.seq (.reg [⟨Sa 60,.mv (.t 11),Sb⟩,⟨Sa 4,.mv (.c (.s [])),Sb⟩,⟨Sa 5,.mv (.c (.i .i64 0)),Sb⟩,⟨Sa 6,.mv (.t 60),Sb⟩]) (.ret)) (.skip))) (.reg [⟨Sa 61,.mv (.t 7),Sb⟩,⟨Sa 62,.mv (.t 9),Sb⟩,⟨Sa 63,.bin .add (.t 61) (.t 62),Sb⟩,⟨Sa 64,.mv (.t 10),Sb⟩,⟨Sa 7,.mv (.t 63),Sb⟩,⟨Sa 8,.mv (.t 64),Sb⟩]))) (.seq (.reg [⟨Sa 66,.mv (.t 0),Sb⟩,⟨Sa 67,.mv (.t 8),Sb⟩,⟨Sa 68,.idx (.t 66) (.t 67),Sb⟩,⟨Sa 69,.bin .lss (.t 68) (.c (.i .u8 32)),Sb⟩,⟨Sa 65,.mv (.t 69),Sb⟩]) (.cond (.t 65) (.seq (.reg [⟨Sa 4,.mv (.c (.s [])),Sb⟩,⟨Sa 5,.mv (.c (.i .i64 0)),Sb⟩,⟨Sa 6,.mv (.c (.i .i64 130)),Sb⟩]) (.ret)) (.seq (.reg [⟨Sa 22,.mv (.t 0),Sb⟩,⟨Sa 23,.mv (.t 8),Sb⟩,⟨Sa 24,.call 74 [.t 22,.t 23],Sb⟩,⟨Sa 21,.mv (.t 24),Sb⟩,⟨Sa 25,.ext (.t 21) 0,Sb⟩,⟨Sa 26,.ext (.t 21) 1,Sb⟩,⟨Sa 27,.ext (.t 21) 2,Sb⟩,⟨Sa 12,.mv (.t 25),Sb⟩,⟨Sa 13,.mv (.t 26),Sb⟩,⟨Sa 14,.mv (.t 27),Sb⟩]) (.seq (.seq (.reg [⟨Sa 28,.mv (.t 14),Sb⟩,⟨Sa 29,.bin .neq (.t 28) (.c (.i .i64 0)),Sb⟩]) (.cond (.t 29) (.seq (.reg [⟨Sa 30,.mv (.t 14),Sb⟩,⟨Sa 4,.mv (.c (.s [])),Sb⟩,⟨Sa 5,.mv (.c (.i .i64 0)),Sb⟩,⟨Sa 6,.mv (.t 30),Sb⟩]) (.ret)) (.skip))) (.reg [⟨Sa 31,.mv (.t 7),Sb⟩,⟨Sa 32,.mv (.t 0),Sb⟩,⟨Sa 33,.mv (.t 8),Sb⟩,⟨Sa 34,.mv (.t 13),Sb⟩,⟨Sa 35,.slcs (.t 32) (some (.t 33)) (some (.t 34)),Sb⟩,⟨Sa 36,.bin .add (.t 31) (.t 35),Sb⟩,⟨Sa 37,.mv (.t 13),Sb⟩,⟨Sa 7,.mv (.t 36),Sb⟩,⟨Sa 8,.mv (.t 37),Sb⟩]))))))))))))))) (.seq (.reg [⟨Sa 4,.mv (.c (.s [])),Sb⟩,⟨Sa 5,.mv (.c (.i .i64 0)),Sb⟩,⟨Sa 6,.mv (.c (.i .i64 130)),Sb⟩]) (.ret))))
theorem is_ref13_text:FnIs Try.prog 68 70 [.tmp 4,.tmp 5,.tmp 6] c_ref13_text:=⟨⟨_,_,Try.func68,rfl,rfl,by kernel_rfl,by kernel_rfl⟩⟩
def c_jsondoc_Get:SCode :=.seq (.reg [⟨Sa 2,.box 25 (.t 0),Sb⟩,⟨Sa 4,.alloc 25 [.i .i64 0,.s [],.nil,.nil],Sb⟩,⟨Sa 5,.mv (.c (.b false)),Sb⟩]) (.seq (.seq (.reg [⟨Sa 7,.fad 0 (.t 2),Sb⟩,⟨Sa 8,.load1 (.t 7),Sb⟩,⟨Sa 9,.bin .neq (.t 8) (.c (.i .i64 7)),Sb⟩]) (.cond (.t 9) (.seq (.reg [⟨Sa 10,.build [.i .i64 0,.s [],.nil,.nil] [],Sb⟩,⟨Sb,.store 4 (.t 4) (.t 10),Sb⟩,⟨Sa 5,.mv (.c (.b false)),Sb⟩]) (.ret)) (.skip))) (.seq (.reg [⟨Sa 11,.fad 2 (.t 2),Sb⟩,⟨Sa 12,.load1 (.t 11),Sb⟩,⟨Sa 13,.mv (.t 1),Sb⟩,⟨Sa 14,.call 75 [.t 12,.t 13],Sb⟩,⟨Sa 6,.mv (.t 14),Sb⟩]) (.seq (.seq (.reg [⟨Sa 15,.mv (.t 6),Sb⟩,⟨Sa 16,.bin .lss (.t 15) (.c (.i .i64 0)),Sb⟩,⟨Sa 17,.mv (.t 16),Sb⟩,⟨Sa 18,.mv (.t 6),some (17,false)⟩,⟨Sa 19,.fad 3 (.t 2),some (17,false)⟩,⟨Sa 20,.load1 (.t 19),some (17,false)⟩,⟨Sa 21,.lenr (.t 20),some (17,false)⟩,⟨Sa 22,.bin .geq (.t 18) (.t 21),some (17,false)⟩,⟨Sa 23,.pick (.t 17) (.c (.b true)) (.t 22),Sb⟩]) (.cond (.t 23) (.seq (.reg [⟨Sa 24,.build [.i .i64 0,.s [],.nil,.nil] [],Sb⟩,⟨Sb,.store 4 (.t 4) (.t 24),Sb⟩,⟨Sa 5,.mv (.c (.b false)),Sb⟩]) (.ret)) (.skip))) (.seq (.reg [⟨Sa 25,.fad 3 (.t 2),Sb⟩,⟨Sa 26,.load1 (.t 25),Sb⟩,⟨Sa 27,.mv (.t 6),Sb⟩,⟨Sa 28,.iad 4 (.t 26) (.t 27),Sb⟩,⟨Sa 29,.loadn 4 (.t 28),Sb⟩,⟨Sa 30,.call 76 [.t 29],Sb⟩,⟨Sb,.store 4 (.t 4) (.t 30),Sb⟩,⟨Sa 5,.mv (.c (.b true)),Sb⟩]) (.ret)))))
theorem is_jsondoc_Get:FnIs Try.prog 71 31 [.celln 4 4,.tmp 5] c_jsondoc_Get:=⟨⟨_,_,Try.func71,rfl,rfl,by kernel_rfl,by kernel_rfl⟩⟩
def c_ref13_run:SCode :=.seq (.reg [⟨Sa 2,.mv (.c (.i .i64 0)),Sb⟩]) (.seq (.reg [⟨Sa 3,.mv (.c (.i .i64 0)),Sb⟩]) (.seq (.blk 0 (.loop (.seq (.seq (.reg [⟨Sa 4,.mv (.t 3),Sb⟩,⟨Sa 5,.mv (.t 0),Sb⟩,⟨Sa 6,.lens (.t 5),Sb⟩,⟨Sa 7,.bin .lss (.t 4) (.t 6),Sb⟩,⟨Sa 8,.mv (.t 7),Sb⟩,⟨Sa 9,.mv (.t 0),some (8,true)⟩,⟨Sa 10,.mv (.t 3),some (8,true)⟩,⟨Sa 11,.idx (.t 9) (.t 10),some (8,true)⟩,⟨Sa 12,.call 69 [.t 11],some (8,true)⟩,⟨Sa 13,.pick (.t 8) (.t 12) (.c (.b false)),Sb⟩]) (.cond (.t 13) (.skip) (.exit 0))) (.blk 1 (.reg [⟨Sa 14,.mv (.t 3),Sb⟩,⟨Sa 15,.bin .add (.t 14) (.c (.i .i64 1)),Sb⟩,⟨Sa 3,.mv (.t 15),Sb⟩]))))) (.seq (.reg [⟨Sa 16,.mv (.t 3),Sb⟩,⟨Sa 2,.mv (.t 16),Sb⟩]) (.ret))))
theorem is_ref13_run:FnIs Try.prog 72 17 [.tmp 2] c_ref13_run:=⟨⟨_,_,Try.func72,rfl,rfl,by kernel_rfl,by kernel_rfl⟩⟩
def c_slices_Index__string_string:SCode :=.seq (.reg [⟨Sa 4,.mv (.c (.i .i64 0)),Sb⟩]) (.seq (.seq (.reg [⟨Sa 6,.mv (.t 0),Sb⟩,⟨Sa 7,.lenr (.t 6),Sb⟩,⟨Sa 8,.mv (.c (.i .i64 0)),Sb⟩]) (.blk 0 (.loop (.seq (.reg [⟨Sa 9,.bin .lss (.t 8) (.t 7),Sb⟩]) (.seq (.cond (.t 9) (.skip) (.exit 0)) (.seq (.blk 1 (.seq (.reg [⟨Sa 10,.mv (.t 8),Sb⟩,⟨Sa 5,.mv (.t 10),Sb⟩]) (.seq (.reg [⟨Sa 11,.mv (.t 1),Sb⟩,⟨Sa 12,.mv (.t 0),Sb⟩,⟨Sa 13,.mv (.t 5),Sb⟩,⟨Sa 14,.iad 1 (.t 12) (.t 13),Sb⟩,⟨Sa 15,.load1 (.t 14),Sb⟩,⟨Sa 16,.bin .eql (.t 11) (.t 15),Sb⟩]) (.cond (.t 16) (.seq (.reg [⟨Sa 17,.mv (.t 5),Sb⟩,⟨Sa 4,.mv (.t 17),Sb⟩]) (.ret)) (.skip))))) (.reg [⟨Sa 18,.bin .add (.t 8) (.c (.i .i64 1)),Sb⟩,⟨Sa 8,.mv (.t 18),Sb⟩]))))))) (.seq (.reg [⟨Sa 4,.mv (.c (.i .i64 (-1))),Sb⟩]) (.ret)))
theorem is_slices_Index__string_string:FnIs Try.prog 75 19 [.tmp 4] c_slices_Index__string_string:=⟨⟨_,_,Try.func75,rfl,rfl,by kernel_rfl,by kernel_rfl⟩⟩
def c_jsondoc_clone:SCode :=.seq (.reg [⟨Sa 1,.box 25 (.t 0),Sb⟩,⟨Sa 2,.alloc 25 [.i .i64 0,.s [],.nil,.nil],Sb⟩]) (.seq (.reg [⟨Sa 4,.fad 2 (.t 1),Sb⟩,⟨Sa 5,.load1 (.t 4),Sb⟩,⟨Sa 6,.call 80 [.t 5],Sb⟩,⟨Sa 7,.fad 2 (.t 1),Sb⟩,⟨Sb,.store 1 (.t 7) (.t 6),Sb⟩]) (.seq (.reg [⟨Sa 8,.fad 3 (.t 1),Sb⟩,⟨Sa 9,.load1 (.t 8),Sb⟩,⟨Sa 10,.call 81 [.t 9],Sb⟩,⟨Sa 11,.fad 3 (.t 1),Sb⟩,⟨Sb,.store 1 (.t 11) (.t 10),Sb⟩]) (.seq (.seq (.reg [⟨Sa 12,.fad 3 (.t 1),Sb⟩,⟨Sa 13,.load1 (.t 12),Sb⟩,⟨Sa 14,.lenr (.t 13),Sb⟩,⟨Sa 15,.mv (.c (.i .i64 0)),Sb⟩]) (.blk 0 (.loop (.seq (.reg [⟨Sa 16,.bin .lss (.t 15) (.t 14),Sb⟩]) (.seq (.cond (.t 16) (.skip) (.exit 0)) (.seq (.blk 1 (.seq (.reg [⟨Sa 17,.mv (.t 15),Sb⟩,⟨Sa 3,.mv (.t 17),Sb⟩]) (.drw [⟨Sa 18,.fad 3 (.t 1),Sb⟩,⟨Sa 19,.load1 (.t 18),Sb⟩,⟨Sa 20,.mv (.t 3),Sb⟩,⟨Sa 21,.fad 3 (.t 1),Sb⟩,⟨Sa 22,.load1 (.t 21),Sb⟩,⟨Sa 23,.mv (.t 3),Sb⟩,⟨Sa 24,.iad 4 (.t 22) (.t 23),Sb⟩,⟨Sa 25,.loadn 4 (.t 24),Sb⟩,⟨Sa 26,.call 76 [.t 25],Sb⟩,⟨Sa 27,.iad 4 (.t 19) (.t 20),Sb⟩,⟨Sb,.store 4 (.t 27) (.t 26),Sb⟩] 10 []))) (.reg [⟨Sa 28,.bin .add (.t 15) (.c (.i .i64 1)),Sb⟩,⟨Sa 15,.mv (.t 28),Sb⟩]))))))) (.seq (.reg [⟨Sa 29,.loadn 4 (.t 1),Sb⟩,⟨Sb,.store 4 (.t 2) (.t 29),Sb⟩]) (.ret)))))
theorem is_jsondoc_clone:FnIs Try.prog 76 30 [.celln 2 4] c_jsondoc_clone:=⟨⟨_,_,Try.func76,rfl,rfl,by kernel_rfl,by kernel_rfl⟩⟩
def c_ref13_unit:SCode :=.seq (.reg [⟨Sa 4,.mv (.c (.i .i64 0)),Sb⟩,⟨Sa 5,.mv (.c (.b false)),Sb⟩]) (.seq (.seq (.reg [⟨Sa 8,.mv (.t 1),Sb⟩,⟨Sa 9,.bin .add (.t 8) (.c (.i .i64 6)),Sb⟩,⟨Sa 10,.mv (.t 0),Sb⟩,⟨Sa 11,.lens (.t 10),Sb⟩,⟨Sa 12,.bin .gtr (.t 9) (.t 11),Sb⟩,⟨Sa 13,.mv (.t 12),Sb⟩,⟨Sa 14,.mv (.t 0),some (13,false)⟩,⟨Sa 15,.mv (.t 1),some (13,false)⟩,⟨Sa 16,.idx (.t 14) (.t 15),some (13,false)⟩,⟨Sa 17,.bin .neq (.t 16) (.c (.i .u8 92)),some (13,false)⟩,⟨Sa 18,.pick (.t 13) (.c (.b true)) (.t 17),Sb⟩,⟨Sa 19,.mv (.t 18),Sb⟩,⟨Sa 20,.mv (.t 0),some (19,false)⟩,⟨Sa 21,.mv (.t 1),some (19,false)⟩,⟨Sa 22,.bin .add (.t 21) (.c (.i .i64 1)),some (19,false)⟩,⟨Sa 23,.idx (.t 20) (.t 22),some (19,false)⟩,⟨Sa 24,.bin .neq (.t 23) (.c (.i .u8 117)),some (19,false)⟩,⟨Sa 25,.pick (.t 19) (.c (.b true)) (.t 24),Sb⟩]) (.cond (.t 25) (.seq (.reg [⟨Sa 4,.mv (.c (.i .i64 0)),Sb⟩,⟨Sa 5,.mv (.c (.b false)),Sb⟩]) (.ret)) (.skip))) (.seq (.reg [⟨Sa 27,.mv (.t 0),Sb⟩,⟨Sa 28,.mv (.t 1),Sb⟩,⟨Sa 29,.bin .add (.t 28) (.c (.i .i64 2)),Sb⟩,⟨Sa 30,.mv (.t 1),Sb⟩,⟨Sa 31,.bin .add (.t 30) (.c (.i .i64 6)),Sb⟩,⟨Sa 32,.slcs (.t 27) (some (.t 29)) (some (.t 31)),Sb⟩,⟨Sa 33,.call 82 [.t 32,.c (.i .u64 65535)],Sb⟩,⟨Sa 26,.mv (.t 33),Sb⟩,⟨Sa 34,.ext (.t 26) 0,Sb⟩,⟨Sa 35,.ext (.t 26) 1,Sb⟩,⟨Sa 6,.mv (.t 34),Sb⟩,⟨Sa 7,.mv (.t 35),Sb⟩]) (.seq (.reg [⟨Sa 36,.mv (.t 6),Sb⟩,⟨Sa 37,.cvi .i64 (.t 36),Sb⟩,⟨Sa 38,.mv (.t 7),Sb⟩,⟨Sa 39,.bin .eql (.t 38) (.c (.i .i64 0)),Sb⟩,⟨Sa 4,.mv (.t 37),Sb⟩,⟨Sa 5,.mv (.t 39),Sb⟩]) (.ret))))
theorem is_ref13_unit:FnIs Try.prog 77 40 [.tmp 4,.tmp 5] c_ref13_unit:=⟨⟨_,_,Try.func77,rfl,rfl,by kernel_rfl,by kernel_rfl⟩⟩
def c_slices_Clone__string_string:SCode :=.seq (.reg [⟨Sa 2,.mv (.c .nil),Sb⟩]) (.seq (.seq (.reg [⟨Sa 3,.mv (.t 0),Sb⟩,⟨Sa 4,.pu (.snil false) [.t 3,.c .nil],Sb⟩]) (.cond (.t 4) (.seq (.reg [⟨Sa 2,.mv (.c .nil),Sb⟩]) (.ret)) (.skip))) (.seq (.reg [⟨Sa 5,.mks 9 1 1 (.c (.i .i64 0)) (.c (.i .i64 0)),Sb⟩,⟨Sa 6,.mv (.t 0),Sb⟩,⟨Sa 7,.app 9 1 16 (.t 5) (.t 6),Sb⟩,⟨Sa 2,.mv (.t 7),Sb⟩]) (.ret)))
theorem is_slices_Clone__string_string:FnIs Try.prog 80 8 [.tmp 2] c_slices_Clone__string_string:=⟨⟨_,_,Try.func80,rfl,rfl,by kernel_rfl,by kernel_rfl⟩⟩
def c_slices_Clone__api_Value_api_Value:SCode :=.seq (.reg [⟨Sa 2,.mv (.c .nil),Sb⟩]) (.seq (.seq (.reg [⟨Sa 3,.mv (.t 0),Sb⟩,⟨Sa 4,.pu (.snil false) [.t 3,.c .nil],Sb⟩]) (.cond (.t 4) (.seq (.reg [⟨Sa 2,.mv (.c .nil),Sb⟩]) (.ret)) (.skip))) (.seq (.reg [⟨Sa 5,.mks 25 4 1 (.c (.i .i64 0)) (.c (.i .i64 0)),Sb⟩,⟨Sa 6,.mv (.t 0),Sb⟩,⟨Sa 7,.app 25 4 72 (.t 5) (.t 6),Sb⟩,⟨Sa 2,.mv (.t 7),Sb⟩]) (.ret)))
theorem is_slices_Clone__api_Value_api_Value:FnIs Try.prog 81 8 [.tmp 2] c_slices_Clone__api_Value_api_Value:=⟨⟨_,_,Try.func81,rfl,rfl,by kernel_rfl,by kernel_rfl⟩⟩
end Go.Proofs.Ytceenajkieomoaa.Sx
namespace Go.Proofs.Ytceenajkieomoaa
open Go.RowKit Sx
theorem zaP {s:List UInt8} {j:Nat} (hj:j<s.length):s.getD j 0=s[j]:=by
 rw[List.getD_eq_getElem?_getD,List.getElem?_eq_getElem hj];rfl
theorem wrap_u64 (n:Int) (h0:0<=n) (h1:n<18446744073709551616):IntKind.u64.wrap n=n:=by
 simp[IntKind.wrap,IntKind.bits,IntKind.signed];omega
theorem zdf:maxLen=2 ^ 63 - 1:=rfl
section
variable [Tabs Try.prog] {objs:List OB} {K:List OB->AV->Prop}
theorem zeu (u:Nat) (hu:u<18446744073709551616) (hk:K objs (.s (Lib.decDigits u))):zag Try.prog 65 [.i .u64 u] objs K :=
 conv (vs:=[.int .u64 u]) rfl rfl (fun w=>zfH u hu w) hk
theorem zg9 (s set:List UInt8) (hs:s.length<=maxLen) (ha:set.length<=maxLen) (hk:K objs (.i .i64 (ziD s set))):zag Try.prog 62 [.s s,.s set] objs K :=
 zly (vs:=[.string (S s),.string (S set)]) rfl rfl (fun w=>zix (S s) (S set) w (by rw[zdA];exact hs) (by rw[zdA];exact ha)) hk
theorem zd5 (c:UInt8) (hk:K objs (.b (zas c))):zag Try.prog 69 [.i .u8 c.toNat] objs K :=
 zly (vs:=[.int .u8 c.toNat]) rfl rfl (fun w=>zfK c w) hk
theorem zjH (c:UInt8) (hk:K objs (.b (zdi c))):zag Try.prog 70 [.i .u8 c.toNat] objs K :=
 zly (vs:=[.int .u8 c.toNat]) rfl rfl (fun w=>zfL c w) hk
theorem zfJ (c:UInt8) (s:List UInt8) (hs:s.length<=maxLen) (hk:K objs (.b (zcF c s))):zag Try.prog 67 [.i .u8 c.toNat,.s s] objs K :=
 zly (vs:=[.int .u8 c.toNat,.string (S s)]) rfl rfl (fun w=>zgm c (S s) w (by rw[zdA];exact hs)) hk
theorem rnHex_k (s:List UInt8) (most:Nat) (hs:s.length<=maxLen) (hm:most<=18446744073709551615) (hk:K objs (.tup [.i .u64 (zdD zbP 16 most s).2,.i .i64 (zdD zbP 16 most s).1])):zag Try.prog 82 [.s s,.i .u64 most] objs K :=
 zly (vs:=[.string (S s),.int .u64 most]) rfl rfl (fun w=>rHex_any (S s) most w (by rw[zdA];exact hs) (by omega) (by omega)) hk
end
end Go.Proofs.Ytceenajkieomoaa
namespace Go.Proofs.Ytceenajkieomoaa
open Go.RowKit
open Int renaming eq_ofNat_of_zero_le->xq, toNat_natCast->jc
open Lib renaming hid->z9
open List renaming drop_of_length_le->xh, length_drop->zv, map_cons->zi, map_nil->zp
open Nat renaming and_two_pow_sub_one_eq_mod->xr, le_refl->zd
theorem zcS (a:Nat) (ha:a<9223372036854775808):(BitVec.ofInt 64 (a:Int)).toNat=a:=by
 rw[BitVec.ofInt_natCast,BitVec.toNat_ofNat];exact Nat.mod_eq_of_lt (by omega)
theorem zb3 (a b:Nat) (ha:a<9223372036854775808) (hb:b<9223372036854775808):bits .and .i64 (a:Int) (b:Int)=((a &&& b:Nat):Int):=by
 have hx:a &&& b<2 ^ 63:=Nat.and_lt_two_pow _ (by omega);show IntKind.i64.wrap ((BitVec.ofInt 64 (a:Int) &&& BitVec.ofInt 64 (b:Int)).toNat:Int)=_;rw[BitVec.toNat_and,zcS a ha,zcS b hb,IntKind.wrap_i64];omega
theorem zbX (a b:Nat) (ha:a<9223372036854775808) (hb:b<9223372036854775808):bits .or .i64 (a:Int) (b:Int)=((a ||| b:Nat):Int):=by
 have hx:a ||| b<2 ^ 63:=Nat.or_lt_two_pow (by omega) (by omega);show IntKind.i64.wrap ((BitVec.ofInt 64 (a:Int) ||| BitVec.ofInt 64 (b:Int)).toNat:Int)=_;rw[BitVec.toNat_or,zcS a ha,zcS b hb,IntKind.wrap_i64];omega
theorem and63 (a:Nat):a &&& 63=a % 64:=xr a 6
theorem zfO (a b i:Nat) (h:b<2 ^ i):2 ^ i*a ||| b=2 ^ i*a+b:=(Nat.two_pow_add_eq_or_of_lt h a).symm
theorem zbV (r:Int) (w:World) :
  Calls Try.prog 83 #[.int .i64 r] w fun e w'=>e=.returned (.bool (cpB r))/\w=w':=by
 go_enter Try.func83,Try.ntmps83
 go_wp2
 all_goals go_ret
 all_goals exact⟨zcj (by unfold cpB;first|exact dt (by omega)|exact df (by omega)|(rw[Bool.eq_iff_iff];simp only[Bool.or_eq_true,Bool.and_eq_true,decide_eq_true_eq];omega)),rfl⟩
theorem zig (r:Nat) (h:r<=4503599627370496):bits .and .i64 (r:Int) 63=((r % 64:Nat):Int):=by
 have h1:=zb3 r 63 (by omega) (by omega);rw[and63] at h1;exact h1
theorem or128 (x:Nat) (h:x<64):bits .or .i64 128 (x:Int)=((128+x:Nat):Int):=by
 have h2:=zbX 128 x (by omega) (by omega);have h3:=zfO 1 x 7 (by omega);rw[show (128:Nat) ||| x=128+x from h3] at h2;exact h2
theorem or192 (x:Nat) (h:x<64):bits .or .i64 192 (x:Int)=((192+x:Nat):Int):=by
 have h2:=zbX 192 x (by omega) (by omega);have h3:=zfO 3 x 6 (by omega);rw[show (192:Nat) ||| x=192+x from h3] at h2;exact h2
theorem or224 (x:Nat) (h:x<32):bits .or .i64 224 (x:Int)=((224+x:Nat):Int):=by
 have h2:=zbX 224 x (by omega) (by omega);have h3:=zfO 7 x 5 (by omega);rw[show (224:Nat) ||| x=224+x from h3] at h2;exact h2
theorem or240 (x:Nat) (h:x<16):bits .or .i64 240 (x:Int)=((240+x:Nat):Int):=by
 have h2:=zbX 240 x (by omega) (by omega);have h3:=zfO 15 x 4 (by omega);rw[show (240:Nat) ||| x=240+x from h3] at h2;exact h2
theorem or64 (r x:Nat) (hr:r<=4503599627370496) (h:x<64):bits .or .i64 ((r:Int)*64) (x:Int)=((r*64+x:Nat):Int):=by
 have h2:=zbX (r*64) x (by omega) (by omega);have h3:=zfO r x 6 (by omega);rw[show r*64 ||| x=r*64+x from by rw[Nat.mul_comm];exact h3] at h2;rw[<-h2,Int.natCast_mul];rfl
structure UTabs (w:World):Prop where
 triv:True
theorem UTabs.keep {w w':World} (h:UTabs w) (hq:Qb w w'):UTabs w':=⟨trivial⟩
def zfg (r:Int):Int×List UInt8:=if cpB r=true then (0,zcW r.toNat) else (4,[])
theorem encV_1 {n:Nat} (hp:cpB (n:Int)=true) (h:n<128):zfg n=(0,(strOfNums [(n:Int)]).data.toList):=by
 unfold zfg zcW;rw[if_pos hp,jc,if_pos h];rfl
theorem encV_2 {n:Nat} (hp:cpB (n:Int)=true) (h1:¬n<128) (h:n<2048):zfg n=(0,(strOfNums [192+(n:Int) / 64,128+(n:Int) % 64]).data.toList):=by
 unfold zfg zcW;rw[if_pos hp,jc,if_neg h1,if_pos h];simp only[strOfNums_data,zi,zp,u8b];rw[show (192+(n:Int) / 64).toNat=192+n / 64 from by omega,show (128+(n:Int) % 64).toNat=128+n % 64 from by omega]
theorem encV_3 {n:Nat} (hp:cpB (n:Int)=true) (h1:¬n<2048) (h:n<65536):zfg n=(0,(strOfNums [224+(n:Int) / 4096,128+(n:Int) / 64 % 64,128+(n:Int) % 64]).data.toList):=by
 unfold zfg zcW;rw[if_pos hp,jc,if_neg (by omega),if_neg h1,if_pos h];simp only[strOfNums_data,zi,zp,u8b];rw[show (224+(n:Int) / 4096).toNat=224+n / 4096 from by omega,show (128+(n:Int) / 64 % 64).toNat=128+n / 64 % 64 from by omega,show (128+(n:Int) % 64).toNat=128+n % 64 from by omega]
theorem encV_4 {n:Nat} (hp:cpB (n:Int)=true) (h1:¬n<65536):zfg n=(0,(strOfNums [240+(n:Int) / 262144,128+(n:Int) / 4096 % 64,128+(n:Int) / 64 % 64,128+(n:Int) % 64]).data.toList):=by
 unfold zfg zcW;rw[if_pos hp,jc,if_neg (by omega),if_neg (by omega),if_neg h1];simp only[strOfNums_data,zi,zp,u8b];rw[show (240+(n:Int) / 262144).toNat=240+n / 262144 from by omega,show (128+(n:Int) / 4096 % 64).toNat=128+n / 4096 % 64 from by omega,show (128+(n:Int) / 64 % 64).toNat=128+n / 64 % 64 from by omega,show (128+(n:Int) % 64).toNat=128+n % 64 from by omega]
theorem cpB_nat {r:Int} (h:cpB r=true):∃n:Nat,r=n/\n<=1114111:=by
 have:=of_decide_eq_true h;exact⟨r.toNat,by omega,by omega⟩
def firstN (c:UInt8) (n:Nat):Nat:=if n=1 then c.toNat else if n=2 then c.toNat % 32 else if n=3 then c.toNat % 16 else c.toNat % 8
theorem and31 (a:Nat):a &&& 31=a % 32:=xr a 5
theorem and15 (a:Nat):a &&& 15=a % 16:=xr a 4
theorem and7 (a:Nat):a &&& 7=a % 8:=xr a 3
def zce (l:List UInt8) (at_:Int):Int×Int×Int :=
 if at_<0\/(l.length:Int)<=at_ then (0,0,4) else match zdz (l.drop at_.toNat) with
  | none=>(0,0,7)
  | some (r,n)=>((r:Int),at_+n,0)
def triV (x:Int×Int×Int):Value:=.tuple #[.int .i64 x.1,.int .i64 x.2.1,.int .i64 x.2.2]
theorem ziG {l:List UInt8} {a:Int} (h:a<0\/(l.length:Int)<=a):zce l a=(0,0,4):=if_pos h
theorem zed {l:List UInt8} {k:Nat} (h:k<l.length) (hd:zdz (l.drop k)=none):zce l k=(0,0,7):=by
 unfold zce;rw[if_neg (by omega),jc,hd]
theorem zgI {l:List UInt8} {k r n:Nat} (h:k<l.length) (hd:zdz (l.drop k)=some (r,n)):zce l k=((r:Int),(k:Int)+n,0):=by
 unfold zce;rw[if_neg (by omega),jc,hd]
theorem zlN (q:Int) (h0:0<=q) (h:q<=4503599627370496):bits .and .i64 q 63=q % 64:=by
 obtain⟨n,rfl⟩:=xq h0;exact zig n (by omega)
theorem zjZ (q:Int) (h0:0<=q) (h:q<64):bits .or .i64 128 q=128+q:=by
 obtain⟨n,rfl⟩:=xq h0;exact or128 n (by omega)
theorem zca (r:Int) (w:World) :
  Calls Try.prog 78 #[.int .i64 r] w fun e w'=>e=.returned (resV (zfg r))/\Qb w w':=by
 rcases hp:cpB r with _|_
 ·have he:zfg r=(4,[]):=by unfold zfg;rw[hp];rfl
  rw[he]
  go_enter Try.func78,Try.ntmps78
  go_wp2_with (go_at_call 83;refine(zbV _ _).mono ?_;rintro e w1 ⟨rfl,rfl⟩)
  go_ret2
  exact⟨rfl,Qb.refl _⟩
 ·obtain⟨n,rfl,hn⟩:=cpB_nat hp;have a0:=zlN (n:Int) (by omega) (by omega);have a1:=zlN ((n:Int) / 64) (by omega) (by omega);have a2:=zlN ((n:Int) / 4096) (by omega) (by omega);have o0:=zjZ ((n:Int) % 64) (by omega) (by omega);have o1:=zjZ ((n:Int) / 64 % 64) (by omega) (by omega);have o2:=zjZ ((n:Int) / 4096 % 64) (by omega) (by omega)
  by_cases h1:n<128
  ·rw[encV_1 hp h1];have hst:=zc0 w [(n:Int)] 1 rfl;simp only[zi,zp] at hst
   go_enter Try.func78,Try.ntmps78
   go_wp2_with (go_at_call 83;refine(zbV _ _).mono ?_;rintro e w1 ⟨rfl,rfl⟩)
   go_ret2
   exact⟨rfl,(Qb.refl _).alloc _⟩
  ·by_cases h2:n<2048
   ·rw[encV_2 hp h1 h2];have hst:=zc0 w [192+(n:Int) / 64,128+(n:Int) % 64] 2 rfl;simp only[zi,zp] at hst;have ho:bits .or .i64 192 ((n:Int) / 64)=192+(n:Int) / 64:=or192 (n / 64) (by omega)
    go_enter Try.func78,Try.ntmps78
    go_wp2_with (go_at_call 83;refine(zbV _ _).mono ?_;rintro e w1 ⟨rfl,rfl⟩)
    go_ret2
    exact⟨rfl,(Qb.refl _).alloc _⟩
   ·by_cases h3:n<65536
    ·rw[encV_3 hp h2 h3];have hst:=zc0 w [224+(n:Int) / 4096,128+(n:Int) / 64 % 64,128+(n:Int) % 64] 3 rfl;simp only[zi,zp] at hst;have ho:bits .or .i64 224 ((n:Int) / 4096)=224+(n:Int) / 4096:=or224 (n / 4096) (by omega);have hb3:decide ((n:Int)<65536)=true:=decide_eq_true (by omega);have hb1:decide ((n:Int)<128)=false:=decide_eq_false (by omega);have hb2:decide ((n:Int)<2048)=false:=decide_eq_false (by omega);have H3:=z9 h3;have nb:(n:Int) / 4096<16:=by omega
     clear h1 h2 h3
     go_enter Try.func78,Try.ntmps78
     go_wp2_with (go_at_call 83;refine(zbV _ _).mono ?_;rintro e w1 ⟨rfl,rfl⟩)
     go_ret2
     exact⟨rfl,(Qb.refl _).alloc _⟩
    ·rw[encV_4 hp h3];have hst:=zc0 w [240+(n:Int) / 262144,128+(n:Int) / 4096 % 64,128+(n:Int) / 64 % 64,128+(n:Int) % 64] 4 rfl;simp only[zi,zp] at hst;have ho:bits .or .i64 240 ((n:Int) / 262144)=240+(n:Int) / 262144:=or240 (n / 262144) (by omega);have hb3:decide ((n:Int)<65536)=false:=decide_eq_false (by omega);have nb:(n:Int) / 262144<8:=by omega
     have hb1:decide ((n:Int)<128)=false:=decide_eq_false (by omega);have hb2:decide ((n:Int)<2048)=false:=decide_eq_false (by omega);have H3:=z9 h3;clear h1 h2 h3
     go_enter Try.func78,Try.ntmps78
     go_wp2_with (go_at_call 83;refine(zbV _ _).mono ?_;rintro e w1 ⟨rfl,rfl⟩)
     go_ret2
     exact⟨rfl,(Qb.refl _).alloc _⟩
def zdE:List UInt8->Nat->Nat
 | [],r=>r
 | c::t,r=>zdE t (r*64+c.toNat % 64)
def zdr:List UInt8->Nat
 | []=>0
 | c::t=>zdE t (firstN c (t.length+1))
theorem pow4 (i:Nat):4*64 ^ (i+1)=64*(4*64 ^ i):=by rw[Nat.pow_succ];omega
theorem zgp {i:Nat} (h:i<=4):4*64 ^ i<=67108864:=by
 have:i=0\/i=1\/i=2\/i=3\/i=4:=by omega
 rcases this with rfl|rfl|rfl|rfl|rfl<;>decide
theorem ziq (s:ByteArray) (h1:1<=s.size) (h4:s.size<=4) (w:World) :
  Calls Try.prog 79 #[.string s] w fun e w'=>e=.returned (.int .i64 (zdr s.data.toList))/\Qb w w':=by
 have hd:=zcd s 0 (by omega);rw[List.drop_zero] at hd;have hv:zdr s.data.toList=zdE (s.data.toList.drop 1) (firstN s[0] s.size):=by
  conv=>lhs;rw[hd]
  rw[zdr,zv,zap,show s.size - 1+1=s.size from by omega]
 have HV:=z9 hv;clear hd hv;have hc:=s[0].toNat_lt;have a1:bits .and .i64 (s[0].toNat:Int) 31=((s[0].toNat % 32:Nat):Int):=by rw[<-and31];exact zb3 s[0].toNat 31 (by omega) (by omega)
 have a2:bits .and .i64 (s[0].toNat:Int) 15=((s[0].toNat % 16:Nat):Int):=by rw[<-and15];exact zb3 s[0].toNat 15 (by omega) (by omega)
 have a3:bits .and .i64 (s[0].toNat:Int) 7=((s[0].toNat % 8:Nat):Int):=by rw[<-and7];exact zb3 s[0].toNat 7 (by omega) (by omega)
 have H:=z9 (And.intro a1 (And.intro a2 a3));clear a1 a2 a3;have hn:s.size=1\/s.size=2\/s.size=3\/s.size=4:=by omega
 rcases hn with hz|hz|hz|hz
 ·have HE:Hid (zdr s.data.toList=s[0].toNat):=z9 (by rw[HV.out,xh (by rw[zap];omega),hz];rfl)
  go_enter Try.func79,Try.ntmps79
  go_wp2_with fail
  go_ret
  exact⟨zda (by rw[HE.out]),Qb.refl _⟩
 ·have HE:Hid (zdr s.data.toList=zdE (s.data.toList.drop 1) (s[0].toNat % 32)):=z9 (by rw[HV.out,hz];rfl);have HA:Hid (bits .and .i64 (s[0].toNat:Int) 31=((s[0].toNat % 32:Nat):Int)):=z9 H.out.1
  go_enter Try.func79,Try.ntmps79
  go_wp2_with fail
  go_quiet (fail)
  go_wp2_with fail
  rw[HA.out]
  go_loop [3,4] (fun r x=>∃i q:Nat,1<=i/\i<=s.size/\x=.int .i64 i/\r=.int .i64 q/\q<4*64 ^ i/\Hid (zdr s.data.toList=zdE (s.data.toList.drop i) q)) (fun _ x=>s.size - (intOf x).toNat)
  case atStart=>exact⟨1,s[0].toNat % 32,zd _,h1,rfl,rfl,by omega,HE⟩
  case round=>
   obtain⟨i,q,hi1,hi,rfl,rfl,hq,HR⟩:=hrel;have hp:=zgp (show i<=4 by omega);have hq2:q<67108864:=by omega
   have HP:=z9 (pow4 i);have Hq:=z9 hq;clear hp hq
   by_cases hlt:i<s.size
   ·have hcc:=s[i].toNat_lt;have HO:Hid (bits .or .i64 ((q:Int)*64) (bits .and .i64 (s[i].toNat:Int) 63)=((q*64+s[i].toNat % 64:Nat):Int)):=z9 (by rw[zig s[i].toNat (by omega)];exact or64 q (s[i].toNat % 64) (by omega) (by omega));have HN:Hid (zdr s.data.toList=zdE (s.data.toList.drop (i+1)) (q*64+s[i].toNat % 64)):=z9 (by rw[HR.out,zcd s i hlt];rfl)
    go_wp2_with fail
    go_round
    case rel=>
     refine⟨i+1,q*64+s[i].toNat % 64,by omega,by omega,by go_num,by rw[HO.out],?_,HN⟩;rw[HP.out];have:=Hq.out;generalize 4*64 ^ i=P at *;omega
    case measure=>simp[intOf];omega
   ·have HN:Hid (zdr s.data.toList=q):=z9 (by rw[HR.out,xh (by rw[zap];omega)];rfl)
    go_wp2_with fail
    go_ret
    exact⟨zda (by rw[HN.out]),(Qb.refl _).drewN _⟩
 ·have HE:Hid (zdr s.data.toList=zdE (s.data.toList.drop 1) (s[0].toNat % 16)):=z9 (by rw[HV.out,hz];rfl);have HA:Hid (bits .and .i64 (s[0].toNat:Int) 15=((s[0].toNat % 16:Nat):Int)):=z9 H.out.2.1
  go_enter Try.func79,Try.ntmps79
  go_wp2_with fail
  go_quiet (fail)
  go_wp2_with fail
  rw[HA.out]
  go_loop [3,4] (fun r x=>∃i q:Nat,1<=i/\i<=s.size/\x=.int .i64 i/\r=.int .i64 q/\q<4*64 ^ i/\Hid (zdr s.data.toList=zdE (s.data.toList.drop i) q)) (fun _ x=>s.size - (intOf x).toNat)
  case atStart=>exact⟨1,s[0].toNat % 16,zd _,h1,rfl,rfl,by omega,HE⟩
  case round=>
   obtain⟨i,q,hi1,hi,rfl,rfl,hq,HR⟩:=hrel;have hp:=zgp (show i<=4 by omega);have hq2:q<67108864:=by omega
   have HP:=z9 (pow4 i);have Hq:=z9 hq;clear hp hq
   by_cases hlt:i<s.size
   ·have hcc:=s[i].toNat_lt;have HO:Hid (bits .or .i64 ((q:Int)*64) (bits .and .i64 (s[i].toNat:Int) 63)=((q*64+s[i].toNat % 64:Nat):Int)):=z9 (by rw[zig s[i].toNat (by omega)];exact or64 q (s[i].toNat % 64) (by omega) (by omega));have HN:Hid (zdr s.data.toList=zdE (s.data.toList.drop (i+1)) (q*64+s[i].toNat % 64)):=z9 (by rw[HR.out,zcd s i hlt];rfl)
    go_wp2_with fail
    go_round
    case rel=>
     refine⟨i+1,q*64+s[i].toNat % 64,by omega,by omega,by go_num,by rw[HO.out],?_,HN⟩;rw[HP.out];have:=Hq.out;generalize 4*64 ^ i=P at *;omega
    case measure=>simp[intOf];omega
   ·have HN:Hid (zdr s.data.toList=q):=z9 (by rw[HR.out,xh (by rw[zap];omega)];rfl)
    go_wp2_with fail
    go_ret
    exact⟨zda (by rw[HN.out]),(Qb.refl _).drewN _⟩
 ·have HE:Hid (zdr s.data.toList=zdE (s.data.toList.drop 1) (s[0].toNat % 8)):=z9 (by rw[HV.out,hz];rfl);have HA:Hid (bits .and .i64 (s[0].toNat:Int) 7=((s[0].toNat % 8:Nat):Int)):=z9 H.out.2.2
  go_enter Try.func79,Try.ntmps79
  go_wp2_with fail
  go_quiet (fail)
  go_wp2_with fail
  rw[HA.out]
  go_loop [3,4] (fun r x=>∃i q:Nat,1<=i/\i<=s.size/\x=.int .i64 i/\r=.int .i64 q/\q<4*64 ^ i/\Hid (zdr s.data.toList=zdE (s.data.toList.drop i) q)) (fun _ x=>s.size - (intOf x).toNat)
  case atStart=>exact⟨1,s[0].toNat % 8,zd _,h1,rfl,rfl,by omega,HE⟩
  case round=>
   obtain⟨i,q,hi1,hi,rfl,rfl,hq,HR⟩:=hrel;have hp:=zgp (show i<=4 by omega);have hq2:q<67108864:=by omega
   have HP:=z9 (pow4 i);have Hq:=z9 hq;clear hp hq
   by_cases hlt:i<s.size
   ·have hcc:=s[i].toNat_lt;have HO:Hid (bits .or .i64 ((q:Int)*64) (bits .and .i64 (s[i].toNat:Int) 63)=((q*64+s[i].toNat % 64:Nat):Int)):=z9 (by rw[zig s[i].toNat (by omega)];exact or64 q (s[i].toNat % 64) (by omega) (by omega));have HN:Hid (zdr s.data.toList=zdE (s.data.toList.drop (i+1)) (q*64+s[i].toNat % 64)):=z9 (by rw[HR.out,zcd s i hlt];rfl)
    go_wp2_with fail
    go_round
    case rel=>
     refine⟨i+1,q*64+s[i].toNat % 64,by omega,by omega,by go_num,by rw[HO.out],?_,HN⟩;rw[HP.out];have:=Hq.out;generalize 4*64 ^ i=P at *;omega
    case measure=>simp[intOf];omega
   ·have HN:Hid (zdr s.data.toList=q):=z9 (by rw[HR.out,xh (by rw[zap];omega)];rfl)
    go_wp2_with fail
    go_ret
    exact⟨zda (by rw[HN.out]),(Qb.refl _).drewN _⟩
theorem valN_enc {r:Nat} (h:cpB (r:Int)=true):zdr (zcW r)=r:=by
 have hr:=(of_decide_eq_true h).2.1;unfold zcW
 by_cases h1:r<128
 ·rw[if_pos h1];show (u8b r).toNat=r;exact zaG (by omega)
 rw[if_neg h1]
 by_cases h2:r<2048
 ·rw[if_pos h2];show (u8b (192+r / 64)).toNat % 32*64+(u8b (128+r % 64)).toNat % 64=r;rw[zaG (by omega),zaG (by omega)];omega
 rw[if_neg h2]
 by_cases h3:r<65536
 ·rw[if_pos h3];show ((u8b (224+r / 4096)).toNat % 16*64+(u8b (128+r / 64 % 64)).toNat % 64)*64+(u8b (128+r % 64)).toNat % 64=r;rw[zaG (by omega),zaG (by omega),zaG (by omega)];omega
 ·rw[if_neg h3];show (((u8b (240+r / 262144)).toNat % 8*64+(u8b (128+r / 4096 % 64)).toNat % 64)*64+(u8b (128+r / 64 % 64)).toNat % 64)*64+(u8b (128+r % 64)).toNat % 64=r;rw[zaG (by omega),zaG (by omega),zaG (by omega),zaG (by omega)];omega
def zgA (l:List UInt8):Bool:=decide ((zfg (zdr l)).1=0)&&((zfg (zdr l)).2==l)
theorem zkT {l:List UInt8} {n:Nat} (hn:n<=l.length) (h:zgA (l.take n)=true):zdz l=some (zdr (l.take n),n):=by
 unfold zgA at h;rw[Bool.and_eq_true,decide_eq_true_eq,beq_iff_eq] at h;rcases hc:cpB (zdr (l.take n):Int) with _|_
 ·have:=h.1;unfold zfg at this;rw[hc,if_neg Bool.false_ne_true] at this;exact absurd this (by decide)
 ·have h2:=h.2;unfold zfg at h2;rw[hc,if_pos rfl,jc] at h2;exact zgG hc h2 hn
theorem isEnc_no {l:List UInt8} {n r:Nat} (h:zdz l=some (r,n)):zgA (l.take n)=true:=by
 have hb:=zcn h;have hv:zdr (l.take n)=r:=by rw[<-hb.2.1];exact valN_enc hb.1
 unfold zgA zfg;rw[hv,hb.1,if_pos rfl,jc,hb.2.1];simp
theorem zfM (s:ByteArray) (a:Int) (w:World) (hs:s.size<=140737488351232) :
  Calls Try.prog 74 #[.string s,.int .i64 a] w fun e w'=>e=.returned (triV (zce s.data.toList a))/\Qb w w':=by
 by_cases h:a<0\/(s.size:Int)<=a
 ·rw[ziG (by rw[zap];exact h)]
  by_cases h0:a<0
  ·clear h
   go_enter Try.func74,Try.ntmps74
   go_wp2_with fail
   go_ret3
   exact⟨rfl,Qb.refl _⟩
  ·have h1:(s.size:Int)<=a:=by omega
   clear h
   go_enter Try.func74,Try.ntmps74
   go_wp2_with fail
   go_ret3
   exact⟨rfl,Qb.refl _⟩
 ·obtain⟨k,rfl⟩:=xq (show 0<=a by omega);have hk:k<s.size:=by omega
  clear h;have hb0:decide ((k:Int)<0)=false:=decide_eq_false (by omega);have hbs:decide (s.size<=k)=false:=decide_eq_false (by omega)
  go_enter Try.func74,Try.ntmps74
  go_wp2_with fail
  go_loopw [7,8,9,10] (fun x _ _ _ wr=>∃n:Nat,1<=n/\n<=5/\x=.int .i64 n/\Hid (∀r m,zdz (s.data.toList.drop k)=some (r,m)->n<=m)/\Qb w wr) (fun x _ _ _ _=>5 - (intOf x).toNat)
  case atStart=>exact⟨1,zd _,by omega,rfl,z9 fun r m hd=>(zcn hd).2.2.2.1,Qb.refl w⟩
  case round=>
   obtain⟨n,h1,h5,rfl,HM,hq⟩:=hrel
   by_cases hlt:n<=4/\k+n<=s.size
   ·obtain⟨h4,hle⟩:=hlt;have hx:Hid ((s.extract k (k+n)).data.toList=(s.data.toList.drop k).take n):=z9 (by rw[Lib.extract_data,Nat.add_sub_cancel_left]);have hsz:=size_extract s k (k+n) hle;have hz1:1<=(s.extract k (k+n)).size:=by omega
    have hz4:(s.extract k (k+n)).size<=4:=by omega
    clear hsz
    go_wp2_with fail
    refine(ziq _ hz1 hz4 _).mono ?_;rintro e w1 ⟨rfl,hq1⟩;rw[hx.out];rcases hi:zgA ((s.data.toList.drop k).take n) with _|_
    ·have HN:Hid (∀r m,zdz (s.data.toList.drop k)=some (r,m)->n+1<=m):=z9 fun r m hd=>by
      have h6:=HM.out r m hd;have h7:n≠m:=by
       rintro rfl;rw[isEnc_no hd] at hi;cases hi
      omega
     obtain⟨er,eb,hres,hor⟩:∃er eb,resV (zfg (zdr ((s.data.toList.drop k).take n)))=.tuple #[.string eb,.int .i64 er]/\((er==0)=false\/(eb.toList==(s.extract k (k+n)).toList)=false):=by
      refine⟨_,_,rfl,?_⟩;unfold zgA at hi;rw[Bool.and_eq_false_iff,decide_eq_false_iff_not,beq_eq_false_iff_ne] at hi;rcases hi with hi|hi
      ·exact .inl (beq_eq_false_iff_ne.2 hi)
      ·refine .inr (beq_eq_false_iff_ne.2 fun e=>hi ?_);rw[ByteArray.toList_eq,ByteArray.toList_eq,hx.out] at e;exact e
     have HR:=z9 hres;clear hres hi;generalize zdr ((s.data.toList.drop k).take n)=q at *
     go_wp2_with fail
     refine(zca _ _).mono ?_;rintro e w2 ⟨rfl,hq2⟩;rw[HR.out];rcases hor with ho|ho
     ·go_wp2_with fail
      go_roundw
      case rel=>exact⟨n+1,by omega,by omega,by go_num,HN,(hq.trans hq1).trans hq2⟩
      case measure=>simp[intOf];omega
     ·by_cases he:er=0
      ·subst he
       go_wp2_with fail
       go_roundw
       case rel=>exact⟨n+1,by omega,by omega,by go_num,HN,(hq.trans hq1).trans hq2⟩
       case measure=>simp[intOf];omega
      ·have he1:(er==0)=false:=beq_eq_false_iff_ne.2 he;clear he
       go_wp2_with fail
       go_roundw
       case rel=>exact⟨n+1,by omega,by omega,by go_num,HN,(hq.trans hq1).trans hq2⟩
       case measure=>simp[intOf];omega
    ·have HD:=z9 (zkT (by rw[zv,zap];omega) hi);have hres:resV (zfg (zdr ((s.data.toList.drop k).take n)))=.tuple #[.string (s.extract k (k+n)),.int .i64 0]:=by
      unfold zgA at hi;rw[Bool.and_eq_true,decide_eq_true_eq,beq_iff_eq] at hi;unfold resV;rw[hi.1,hi.2,<-hx.out]
     have HR:=z9 hres;clear hres hi;generalize zdr ((s.data.toList.drop k).take n)=q at *
     go_wp2_with fail
     refine(zca _ _).mono ?_;rintro e w2 ⟨rfl,hq2⟩;rw[HR.out]
     go_wp2_with fail
     go_ret3
     exact⟨by rw[zgI (by rw[zap];exact hk) HD.out];rfl,(hq.trans hq1).trans hq2⟩
   ·have HN:Hid (zdz (s.data.toList.drop k)=none):=z9 (by
     rcases hd:zdz (s.data.toList.drop k) with _|⟨r,m⟩
     ·rfl
     ·have h6:=HM.out r m hd;have hb:=zcn hd;have hb1:=hb.2.2.1;rw[zv,zap] at hb1;omega)
    by_cases h4:n<=4
    ·have hgt:s.size<k+n:=by omega
     clear hlt
     go_wp2_with fail
     go_ret3
     exact⟨by rw[zed (by rw[zap];exact hk) HN.out];rfl,hq⟩
    ·clear hlt
     go_wp2_with fail
     go_ret3
     exact⟨by rw[zed (by rw[zap];exact hk) HN.out];rfl,hq⟩
open Sx
class Utf (P:Program) [Tabs P]:Prop where
 ut:∀w:World,Tabs.T (P:=P) w->UTabs w
section
variable [Tabs Try.prog] {objs:List OB} {K:List OB->AV->Prop}
theorem zir (s:List UInt8) (a:Int) (hs:s.length<=140737488351232) (hk:K objs (.tup [.i .i64 (zce s a).1,.i .i64 (zce s a).2.1,.i .i64 (zce s a).2.2])):zag Try.prog 74 [.s s,.i .i64 a] objs K :=
 conv (vs:=[.string (S s),.int .i64 a]) rfl rfl (fun w=>zfM (S s) a w (by rw[zdA];exact hs)) hk
end
end Go.Proofs.Ytceenajkieomoaa
namespace Go.Proofs.Ytceenajkieomoaa.Sx
open Go.RowKit
theorem zfo {k:IntKind} {r:Int} {K K':Int->Prop} (hk:∀v,K v->K' v) (h:arK k r K):arK k r K':=by
 cases k
 all_goals first|exact hk _ h|exact⟨h.1,hk _ h.2⟩
theorem zlH {op:BinOp} {x y:AV} {K K':AV->Prop} (hk:∀v,K v->K' v) (h:binK op x y K):binK op x y K':=by
 unfold binK at h ⊢
 split at h
 ·refine⟨h.1,?_⟩
  replace h:=h.2
  cases op
  all_goals first
   | exact h.elim
   | exact zfo (fun _ g=>hk _ g) h
   | exact⟨h.1,zfo (fun _ g=>hk _ g) h.2⟩
   | exact⟨h.1,hk _ h.2⟩
   | exact hk _ h
 all_goals
  revert h
  cases op
  all_goals first
   | exact fun h=>h.elim
   | exact fun h=>⟨h.1,hk _ h.2⟩
   | exact fun h=>hk _ h
section
variable {P:Program} [Tabs P] {C:Cx}
theorem zdF {so:SOp} {objs:List OB} {tm:List AV} {K K':List OB->AV->Prop} (hk:∀o v,K o v->K' o v) (h:wpS P so objs tm K):wpS P so objs tm K':=by
 cases so
 all_goals simp only[wpS] at h ⊢
 all_goals try exact hk _ _ h
 all_goals try exact⟨h.1,hk _ _ h.2⟩
 all_goals try exact zlH (fun _ g=>hk _ _ g) h
 all_goals try exact h.mono hk
 all_goals try exact⟨h.1,h.2.mono fun _ _ g=>⟨g.1,hk _ _ g.2⟩⟩
 all_goals
  revert h
  repeat' split
  all_goals first
   | exact fun h=>h.elim
   | exact fun h=>hk _ _ h
   | exact fun h=>⟨h.1,hk _ _ h.2⟩
   | exact fun h=>zfo (fun _ g=>hk _ _ g) h
   | exact fun h=>⟨fun e=>hk _ _ (h.1 e),fun e=>hk _ _ (h.2 e)⟩
   | exact fun ⟨v,h1,h2⟩=>⟨v,h1,hk _ _ h2⟩
   | exact fun ⟨h0,l,h1,h2⟩=>⟨h0,l,h1,hk _ _ h2⟩
   | exact fun h=>⟨h.1,h.2.mono hk⟩
theorem zaL:∀{l:List SO} {objs:List OB} {tm:List AV} {K K':List OB->List AV->Prop},(∀o t,K o t->K' o t)->wpR P l objs tm K->wpR P l objs tm K'
 | [],_,_,_,_,hk,h=>hk _ _ h
 | ⟨dst,op,none⟩::r,_,_,_,_,hk,h=>zdF (fun _ _ g=>zaL hk g) h
 | ⟨dst,op,some (t,want)⟩::r,objs,tm,K,K',hk,h=>by
  simp only[wpR] at h ⊢
  revert h
  split
  ·exact fun h=>⟨fun e=>zdF (fun _ _ g=>zaL hk g) (h.1 e),fun e=>zaL hk (h.2 e)⟩
  ·exact fun h=>zaL hk h
  ·exact fun h=>h.elim
theorem zb0:∀{l:List SO} {objs:List OB} {tm:List AV} {K K':List OB->List AV->Prop},(∀o t,K o t->K' o t)->wpD P l objs tm K->wpD P l objs tm K'
 | [],_,_,_,_,hk,h=>hk _ _ h
 | ⟨dst,op,none⟩::r,_,_,_,_,hk,h=>by
  simp only[wpD] at h ⊢
  revert h
  split
  ·exact fun ⟨v,h1,h2⟩=>⟨v,h1,zb0 hk h2⟩
  ·exact fun h=>zdF (fun _ _ g=>zb0 hk g) h
 | ⟨dst,op,some (t,want)⟩::r,objs,tm,K,K',hk,h=>by
  simp only[wpD] at h ⊢
  revert h
  split
  ·refine fun h=>⟨fun e=>?_,fun e=>zb0 hk (h.2 e)⟩;have h1:=h.1 e
   revert h1
   split
   ·exact fun ⟨v,h1,h2⟩=>⟨v,h1,zb0 hk h2⟩
   ·exact fun h=>zdF (fun _ _ g=>zb0 hk g) h
  ·exact fun h=>zb0 hk h
  ·exact fun h=>h.elim
theorem zio {N N':List OB->List AV->Prop} {K K':zaE} (hn:∀o t,N o t->N' o t) (hk:∀e o t,K e o t->K' e o t):∀e o t,zdB N K e o t->zdB N' K' e o t:=by
 intro e o t h
 cases e<;>first|exact hn _ _ h|exact hk _ _ _ h
theorem zlG {id:Nat} {K K':zaE} (hk:∀e o t,K e o t->K' e o t):∀e o t,blkK id K e o t->blkK id K' e o t:=by
 intro e o t h
 cases e
 all_goals try exact hk _ _ _ h
 rename_i i;unfold blkK at h ⊢;simp only at h ⊢
 split at h
 ·rename_i g;rw[if_pos g];exact hk _ _ _ h
 ·rename_i g;rw[if_neg g];exact hk _ _ _ h
theorem zeN:∀(st:List (List SO×SO)) (h:List (List SO×List AV×List AV)) (last:List SO) (o:List OB) (t:List AV) {K K':List OB->List AV->Prop},(∀o t,K o t->K' o t)->wpT P st h last o t K->wpT P st h last o t K'
 | [],h,last,o,t,K,K',hk,g=>zaL hk g
 | (L,c)::st,h,last,o,t,K,K',hk,g=>zaL (fun _ _ g=>zaL (fun _ _ g=>⟨g.1,zeN st _ last _ _ hk g.2⟩) g) g
theorem zgR (d:Nat) (T:TypeId) (z:List AV):∀(st:List (List SO×SO)) (h:List (List SO×List AV×List AV)) (last:List SO) (o:List OB) (t:List AV) {K K':List OB->List AV->Prop},(∀o t,K o t->K' o t)->wpB P d T z st h last o t K->wpB P d T z st h last o t K'
 | [],h,last,o,t,K,K',hk,g=>zaL (fun _ _ g=>⟨g.1,hk _ _ g.2⟩) g
 | (L,c)::st,h,last,o,t,K,K',hk,g=>zaL (fun _ _ g=>⟨⟨g.1.1,zaL (fun _ _ g=>⟨g.1,zeN st _ last _ _ hk g.2⟩) g.1.2⟩,zaL (fun _ _ g=>⟨g.1,zgR d T z st _ last _ _ hk g.2⟩) g.2⟩) g
theorem zch:∀(c:SCode) {K K':zaE} {objs:List OB} {tm:List AV},(∀e o t,K e o t->K' e o t)->wpC P C c K objs tm->wpC P C c K' objs tm
 | .skip,_,_,_,_,hk,h=>hk _ _ _ h
 | .reg l,_,_,_,_,hk,h=>zaL (fun _ _ g=>hk _ _ _ g) h
 | .drw l k ap,_,_,_,_,hk,h=>zb0 (fun _ _ g=>⟨g.1,zaL (fun _ _ g=>hk _ _ _ g) g.2⟩) h
 | .crg pre cl post,_,_,_,_,hk,h=>zaL (fun _ _ g=>zaL (fun _ _ g=>⟨g.1,zaL (fun _ _ g=>hk _ _ _ g) g.2⟩) g) h
 | .crs st last,_,_,_,_,hk,h=>zeN st [] last _ _ (fun _ _ g=>hk _ _ _ g) h
 | .cra d T z st last sr,_,_,_,_,hk,h=>⟨h.1,zgR d T z st [] last _ _ (fun _ _ g=>zaL (fun _ _ g=>hk _ _ _ g) g) h.2⟩
 | .seq x y,_,_,_,_,hk,h=>zch x (zio (fun _ _ g=>zch y hk g) hk) h
 | .cond c x y,_,_,_,_,hk,h=>by
  simp only[wpC] at h ⊢
  revert h
  split
  ·exact fun h=>⟨fun e=>zch x hk (h.1 e),fun e=>zch y hk (h.2 e)⟩
  ·exact fun h=>h.elim
 | .blk id c,_,_,_,_,hk,h=>zch c (zlG hk) h
 | .loop c,_,_,_,_,hk,h=>fun c hc=>WP.mono (fun e o t g=>by cases e<;>first|exact hk _ _ _ g|exact g) (h c hc)
 | .exit id,_,_,_,_,hk,h=>hk _ _ _ h
 | .ret,_,_,_,_,hk,h=>hk _ _ _ h
 | .dead,_,_,_,_,hk,h=>h.elim
def cutF (P:Program) [Tabs P] (C:Cx) (J:List OB->List AV->Prop) (k:List IT) (F:zaE):zaE:=zdB J (zeg P C F k)
variable {F:zaE} {k:List IT} {objs:List OB} {tm:List AV}
theorem zab (J:List OB->List AV->Prop):cutF P C J k F .normal objs tm=J objs tm:=Eq.trans rfl rfl
theorem zbi (J:List OB->List AV->Prop) (id:Nat):cutF P C J k F (.exit id) objs tm=xit P C id k objs tm F:=Eq.trans rfl rfl
theorem cutF_ret (J:List OB->List AV->Prop):cutF P C J k F .ret objs tm=F .ret objs tm:=zbN k
theorem zaz {x:SCode} (J:List OB->List AV->Prop) (h:run P C [.code x] objs tm (cutF P C J k F)) (hJ:∀o t,J o t->run P C k o t F):run P C (.code x::k) objs tm F :=
 zch x (fun e o t g=>by
  cases e
  ·exact hJ _ _ g
  all_goals exact g) h
end
section
variable {P:Program} [Tabs P] {C:Cx} {F:zaE} {k:List IT} {objs:List OB} {tm:List AV}
theorem zaa {x y:SCode} (h:∀Y,Y=y->run P C (.code x::.code Y::k) objs tm F):run P C (.code (.seq x y)::k) objs tm F:=h y rfl
theorem zbx (J:List AV->Prop) (h:J tm) (hk:∀t,J t->run P C k objs t F):run P C k objs tm F:=hk tm h
end
end Go.Proofs.Ytceenajkieomoaa.Sx
namespace Go.Proofs.Ytceenajkieomoaa
open Go.RowKit Sx
open Int renaming toNat_natCast->jc
open Lib renaming below_iterAt->xk, hid->z9, iterAt_heap->xj, run_next_ascii_at->xi
open List renaming all_eq_true->zu, append_assoc->ja, drop_drop->qu, drop_eq_getElem_cons->jn, drop_length->xf, drop_of_length_le->xh, getElem?_drop->qx, getElem?_eq_getElem->zk, getElem?_eq_none->zr, getElem?_eq_some_iff->za, getElem?_set->z4, length_append->zq, length_cons->qb, length_drop->zv, length_nil->qo, length_pos_iff->jx, length_take->qd, replicate->qg, replicate_succ->xn
open Nat renaming add_zero->qp, le_refl->zd, lt_or_ge->zh, zero_le->zo
open Option renaming getD_some->zx
theorem iv {k:IntKind} {x y:Int} (h:x=y):some (AV.i k x)=some (AV.i k y):=by rw[h]
theorem run_at (s:List UInt8) (i:Nat) (h:i<s.length):zaY (s.drop i)=if zas s[i]=true then zaY (s.drop (i+1))+1 else 0:=by
 rw[jn h,zaY]
theorem run_end (s:List UInt8):zaY (s.drop s.length)=0:=by rw[xf];rfl
theorem get_some {s:List UInt8} {i:Nat} (h:i<s.length) {c:UInt8}:(s[i]? = some c)↔s[i]=c:=by
 rw[zk h,Option.some.injEq]
theorem zcm {s:List UInt8} {i:Nat} (h:¬i<s.length) {c:UInt8}:¬s[i]? = some c:=by
 rw[zr (by omega)];simp
theorem zc2 {c:UInt8} {k:Nat} (hk:k<256):(((c.toNat:Nat):Int)=((k:Nat):Int))↔c=UInt8.ofNat k:=by
 constructor
 ·intro h;have h2:c.toNat=k:=by omega
  rw[<-h2];simp
 ·rintro rfl;rw[UInt8.toNat_ofNat'];omega
theorem ziN {s:List UInt8} {i:Nat} (h:i<s.length) (k:Nat) (hk:k<256):s[i]? = some (UInt8.ofNat k)↔((s[i].toNat:Nat):Int)=((k:Nat):Int):=by
 rw[get_some h];exact(zc2 hk).symm
theorem zec (s:List UInt8) (a i:Nat):(s.drop a)[i]? = s[a+i]?:=qx
section
variable [Tabs Try.prog] {objs:List OB} {K:List OB->AV->Prop}
end
section
variable [Tabs Try.prog] {objs:List OB} {K:List OB->AV->Prop}
end
theorem zcI {c:UInt8} (h:zas c=true):c.toNat<128/\([101,69]:List UInt8).contains c=false/\c≠46:=by
 have:=zfj h;refine⟨by omega,?_,?_⟩
 ·have h1:c≠101:=fun e=>by subst e;exact absurd this (by decide)
  have h2:c≠69:=fun e=>by subst e;exact absurd this (by decide)
  simp[h1,h2]
 ·rintro rfl;exact absurd this (by decide)
def NumS.body (p:NumS):List UInt8:=p.int++(frT p.fr++exT p.ex)
theorem frT_mem {f:List UInt8} (hf:f.all zas=true):∀c∈frT f,c.toNat<128/\([101,69]:List UInt8).contains c=false:=by
 intro c hc
 cases f with
 | nil=>cases hc
 | cons a t=>
  have hc:c=46\/c∈a::t:=by simpa[frT] using hc
  rcases hc with rfl|hc
  ·exact⟨by decide,by decide⟩
  ·have:=zcI (zu.1 hf c hc);exact⟨this.1,this.2.1⟩
theorem zlx {p:NumS} (hp:p.Good):zh8 46 (p.int++frT p.fr)=(p.int,p.fr,!p.fr.isEmpty):=by
 have key:∀(u v:List UInt8),(∀c∈u,c≠46)->zh8 46 (u++v)=(u++(zh8 46 v).1,(zh8 46 v).2.1,(zh8 46 v).2.2):=by
  intro u v
  induction u with
  | nil=>intro _;rfl
  | cons c u ih=>
   intro h;rw[List.cons_append,zee,if_neg (h c (by simp)),ih (fun x hx=>h x (by simp[hx]))]
   rfl
 rw[key _ _ (fun c hc=>(zcI (zu.1 hp.i1 c hc)).2.2)]
 cases hf:p.fr with
 | nil=>simp[frT,zh8]
 | cons a t=>simp[frT,zee]
section
variable [Tabs Try.prog] {objs:List OB} {K:List OB->AV->Prop}
end
theorem zbS {l:List UInt8} {n:Nat} (h:zb1 l=some n):6<=l.length/\n<=65535:=by
 unfold zb1 at h
 split at h
 ·cases h
 ·rename_i g
  split at h
  ·injection h with h
   have:=zhi zbP 16 65535 ((l.drop 2).take 4)
   constructor
   ·apply Classical.byContradiction
    intro h1;exact g (.inl (by omega))
   ·omega
  ·cases h
section
variable [Tabs Try.prog] {objs:List OB} {K:List OB->AV->Prop}
end
theorem zlw {s:List UInt8} {i:Nat} (h:i<s.length):zce s i=match zdz (s.drop i) with|none=>(0,0,7)|some (r,n)=>((r:Int),((i+n:Nat):Int),0):=by
 unfold zce;rw[if_neg (by omega),jc]
 cases zdz (s.drop i)<;>simp
theorem zdV (s:List UInt8) (i m:Nat):(s.take (i+m)).drop i=(s.drop i).take m:=by
 rw[List.drop_take,show i+m - i=m by omega]
def zcu (n:Nat) (r:List UInt8):Nat×Nat :=
 if 55296<=n/\n<56320 then (match zb1 r with
  | some m=>if 56320<=m/\m<=57343 then (65536+(n - 55296)*1024+(m - 56320),12) else (n,6)
  | none=>(n,6)) else (n,6)
theorem zk6 {l:List UInt8} {n:Nat} (h0:(l[1]?).bind zdX=none) (h:zb1 l=some n):zdy l=if cpB ((zcu n (l.drop 6)).1:Int)=true then (0,zcW (zcu n (l.drop 6)).1,(zcu n (l.drop 6)).2) else (7,[],0):=by
 have hn:=(zbS h).2;have hcp:∀k:Nat,cpB (k:Int)=decide (k<=1114111/\(k<55296\/57343<k)):=by
  intro k;unfold cpB
  by_cases h1:k<=1114111/\(k<55296\/57343<k)
  ·rw[decide_eq_true (by omega),decide_eq_true h1]
  ·rw[decide_eq_false (by omega),decide_eq_false h1]
 have hE:zdy l=(if n<55296\/57343<n then ((0:Int),zcW n,6)
   else if 56319<n then (7,[],0)
   else match zb1 (l.drop 6) with
    | none=>(7,[],0)
    | some m=>if m<56320\/57343<m then (7,[],0) else (0,zcW (65536+(n - 55296)*1024+(m - 56320)),12)):=by
  unfold zdy;rw[h0,h]
  rfl
 rw[hE]
 by_cases c1:n<55296\/57343<n
 ·have hU:zcu n (l.drop 6)=(n,6):=by unfold zcu;rw[if_neg (show ¬(55296<=n/\n<56320) by omega)]
  rw[if_pos c1,hU,hcp,if_pos (decide_eq_true (by omega))]
 ·by_cases c2:56319<n
  ·have hU:zcu n (l.drop 6)=(n,6):=by unfold zcu;rw[if_neg (show ¬(55296<=n/\n<56320) by omega)]
   rw[if_neg c1,if_pos c2,hU,hcp,if_neg (by rw[decide_eq_true_eq];omega)]
  ·rw[if_neg c1,if_neg c2]
   cases hu:zb1 (l.drop 6) with
   | none=>
    have hU:zcu n (l.drop 6)=(n,6):=by unfold zcu;rw[if_pos (show 55296<=n/\n<56320 by omega),hu]
    rw[hU,hcp,if_neg (by rw[decide_eq_true_eq];omega)]
   | some m=>
    by_cases c3:m<56320\/57343<m
    ·have hU:zcu n (l.drop 6)=(n,6):=by
      unfold zcu;rw[if_pos (show 55296<=n/\n<56320 by omega),hu];simp only;rw[if_neg (show ¬(56320<=m/\m<=57343) by omega)]
     simp only;rw[if_pos c3,hU,hcp,if_neg (by rw[decide_eq_true_eq];omega)]
    ·have hU:zcu n (l.drop 6)=(65536+(n - 55296)*1024+(m - 56320),12):=by
      unfold zcu;rw[if_pos (show 55296<=n/\n<56320 by omega),hu];simp only;rw[if_pos (show 56320<=m/\m<=57343 by omega)]
     simp only;rw[if_neg c3,hU,hcp,if_pos (decide_eq_true (by omega))]
theorem escU_ge (n:Nat) (r:List UInt8):6<=(zcu n r).2:=by
 unfold zcu
 repeat' split
 all_goals first|exact zd _|(show 6<=12;omega)
theorem escU_len {l:List UInt8} {n:Nat} (h:zb1 l=some n):(zcu n (l.drop 6)).2<=l.length/\(zcu n (l.drop 6)).1<=1114111:=by
 have h1:=zbS h;unfold zcu
 split
 ·cases hu:zb1 (l.drop 6) with
  | none=>simp only;omega
  | some m=>
   have h2:=zbS hu;rw[zv] at h2;simp only
   split
   ·simp only;omega
   ·simp only;omega
 ·simp only;omega
theorem zhP {l x:List UInt8} {n:Nat} (h:zdy l=(0,x,n)):x.length<=n/\1<=n/\n<=l.length:=by
 cases hse:(l[1]?).bind zdX with
 | some d=>
  have he:zdy l=(0,[d],2):=by unfold zdy;rw[hse]
  rw[he] at h;injection h with _ h;injection h with h1 h2
  subst h1 h2;obtain⟨c,h2,_⟩:=Option.bind_eq_some_iff.1 hse;have:=(za.1 h2).1;exact⟨by simp,by omega,by omega⟩
 | none=>
  cases hu:zb1 l with
  | none=>
   have he:zdy l=(130,[],0):=by unfold zdy;rw[hse,hu]
   rw[he] at h;injection h with h _;cases h
  | some k=>
   have he:=zk6 hse hu;have h3:=escU_len hu;have h4:=escU_ge k (l.drop 6);have h5:=encU_len (r:=(zcu k (l.drop 6)).1);rw[h] at he
   split at he
   ·injection he with _ he;injection he with h1 h2
    subst h1 h2;omega
   ·injection he with he _;cases he
section
variable [Tabs Try.prog] [Utf Try.prog] {objs:List OB} {K:List OB->AV->Prop}
end
def za3 (s:List UInt8) (a:Int):(Int×List UInt8×Int)×Int×Int :=
 if a<0\/(s.length:Int)<a then ((0,[],0),0,4)
 else if (zbj (s.drop (a.toNat+za7 (s.drop a.toNat)))).1≠0 then ((0,[],0),0,(zbj (s.drop (a.toNat+za7 (s.drop a.toNat)))).1)
 else (((zbj (s.drop (a.toNat+za7 (s.drop a.toNat)))).2.1,(zbj (s.drop (a.toNat+za7 (s.drop a.toNat)))).2.2.1,((a.toNat+za7 (s.drop a.toNat):Nat):Int)),((a.toNat+za7 (s.drop a.toNat)+(zbj (s.drop (a.toNat+za7 (s.drop a.toNat)))).2.2.2:Nat):Int),0)
def zkc (r:(Int×List UInt8×Int)×Int×Int):AV:=.tup [.agg [.i .i64 r.1.1,.s r.1.2.1,.i .i64 r.1.2.2],.i .i64 r.2.1,.i .i64 r.2.2]
theorem word_at (s:List UInt8) (i:Nat) (h:i<s.length):zbv (s.drop i)=if zdi s[i]=true then zbv (s.drop (i+1))+1 else 0:=by
 rw[jn h,zbv]
theorem white_at (s:List UInt8) (i:Nat) (h:i<s.length):za7 (s.drop i)=if zfd s[i]=true then za7 (s.drop (i+1))+1 else 0:=by
 rw[jn h,za7]
theorem zeQ:∀l:List UInt8,zbv l<=l.length
 | []=>zd _
 | c::t=>by
  have:=zeQ t;unfold zbv
  split<;>simp only[qb]<;>omega
theorem zdR:∀l:List UInt8,za7 l<=l.length
 | []=>zd _
 | c::t=>by
  have:=zdR t;unfold za7
  split<;>simp only[qb]<;>omega
section
variable [Tabs Try.prog] [Utf Try.prog] {objs:List OB} {K:List OB->AV->Prop}
end
open Nat renaming reduceAdd -> z5, reduceSub -> z6, reduceLeDiff -> z7, reduceLT -> z8, reduceMul -> j4, reduceEqDiff -> j5
open Int renaming reduceToNat -> j6, reduceAdd -> j7, reduceSub -> j8, reduceMul -> j9, reduceNeg -> x9, reduceLT -> y3, reduceLE -> y4, reduceEq -> y5, reduceNe -> y6
theorem rn_condH {P:Program} [Tabs P] {C:Cx} {F:zaE} {k:List IT} {objs:List OB} {tm:List AV} {c:SV} {x y:SCode} (h:∀X,X=x->run P C (.code (.cond c X y)::k) objs tm F):run P C (.code (.cond c x y)::k) objs tm F:=h x rfl
section
variable [Tabs Try.prog] {objs:List OB} {K:List OB->AV->Prop}
theorem rwhite_k (c:UInt8) (hk:K objs (.b (zfd c))):zag Try.prog 66 [.i .u8 c.toNat] objs K:=by
 refine zby is_ref13_white rfl fun C _=>?_;simp only[c_ref13_white,sxZ,z5,z6,z7,z8,j4,j5,j6,j7,j8,j9,x9,y3,y4,y5,y6,reduceCtorEq,↓reduceIte];refine zam (zfJ c _ (by decide) ?_);simp only[sxZ,z5,z6,z7,z8,j4,j5,j6,j7,j8,j9,x9,y3,y4,y5,y6,reduceCtorEq,↓reduceIte];exact hk
theorem zgk (s:List UInt8) (a:Nat) (hk:K objs (.s (s.drop a))):zag Try.prog 64 [.s s,.i .i64 (a:Nat)] objs K:=by
 refine zby is_ref13_tail rfl fun C _=>?_
 by_cases c0:(s.length:Int)<=a
 ·rw[xh (by omega)] at hk;simp only[c0,c_ref13_tail,sxZ,z5,z6,z7,z8,j4,j5,j6,j7,j8,j9,x9,y3,y4,y5,y6,reduceCtorEq,↓reduceIte];exact hk
 ·simp only[c0,c_ref13_tail,sxZ,z5,z6,z7,z8,j4,j5,j6,j7,j8,j9,x9,y3,y4,y5,y6,reduceCtorEq,↓reduceIte];exact⟨by omega,hk⟩
theorem zjf (s:List UInt8) (hs:s.length<=9000000000000000000) (hk:K objs (.i .i64 (zaY s:Nat))):zag Try.prog 72 [.s s] objs K:=by
 refine zby is_ref13_run rfl fun C _=>?_;simp only[c_ref13_run,sxZ,z5,z6,z7,z8,j4,j5,j6,j7,j8,j9,x9,y3,y4,y5,y6,reduceCtorEq,↓reduceIte];refine zaU (fun n objs tm=>∃i:Nat,i<=s.length/\n=s.length - i/\objs=[]/\zaY s=i+zaY (s.drop i)/\tm.length=17/\tm[0]? = some (.s s)/\tm[3]? = some (.i .i64 i)) s.length ⟨0,zo _,rfl,rfl,by simp,rfl,rfl,rfl⟩ ?_;rintro n _ tm ⟨i,hi,rfl,rfl,hr,hlen,t0,t3⟩
 by_cases hlt:(i:Int)<s.length
 ·have hlt':i<s.length:=by omega
  have hg:=zaP hlt';have hrn:=run_at s i hlt';simp only[sxZ,z5,z6,z7,z8,j4,j5,j6,j7,j8,j9,x9,y3,y4,y5,y6,reduceCtorEq,↓reduceIte,z4,hlen,t0,t3,hlt];refine⟨by omega,?_⟩;rw[hg];refine zam (zd5 s[i] ?_)
  by_cases hd:zas s[i]=true
  ·rw[if_pos hd] at hrn;simp only[hd,sxZ,z5,z6,z7,z8,j4,j5,j6,j7,j8,j9,x9,y3,y4,y5,y6,reduceCtorEq,↓reduceIte,z4,hlen,t0,t3];exact⟨⟨by omega,by omega⟩,s.length - (i+1),by omega,i+1,by omega,rfl,by omega,rfl⟩
  ·rw[if_neg hd] at hrn;simp only[Bool.not_eq_true] at hd;simp only[hd,sxZ,z5,z6,z7,z8,j4,j5,j6,j7,j8,j9,x9,y3,y4,y5,y6,reduceCtorEq,↓reduceIte,z4,hlen,t0,t3];rw[hr,hrn] at hk;exact hk
 ·obtain rfl:i=s.length:=by omega
  simp only[sxZ,z5,z6,z7,z8,j4,j5,j6,j7,j8,j9,x9,y3,y4,y5,y6,reduceCtorEq,↓reduceIte,z4,hlen,t0,t3,hlt];rw[hr,run_end] at hk;exact hk
set_option maxHeartbeats 4000000 in
theorem zes (s:List UInt8) (hs:s.length<=140737488351232) (hk:K objs (.i .i64 (zdH s:Nat))):zag Try.prog 61 [.s s] objs K:=by
 refine zby is_ref13_numeral rfl fun C _=>?_;have hmx:=zdf;rw[c_ref13_numeral];refine zaa fun Y1 hY1=>?_;simp only[sxZ,z5,z6,z7,z8,j4,j5,j6,j7,j8,j9,x9,y3,y4,y5,y6,reduceCtorEq,↓reduceIte];subst hY1;refine zaa fun Y1 hY1=>?_;simp only[sxZ,z5,z6,z7,z8,j4,j5,j6,j7,j8,j9,x9,y3,y4,y5,y6,reduceCtorEq,↓reduceIte];subst hY1;refine zaa fun Y1 hY1=>?_;refine zaz (fun o t=>o=[]/\t.length=99/\t[0]? = some (.s s)/\t[3]? = some (.i .i64 (zbl s:Nat))) ?_ ?_
 ·unfold zbl
  by_cases c1:(0:Int)<s.length
  ·have c1':0<s.length:=by omega
   have hg:=zaP c1';have h45:s[0]? = some 45↔((s[0].toNat:Nat):Int)=45:=ziN c1' 45 (by decide)
   by_cases c2:((s[0].toNat:Nat):Int)=45
   ·rw[if_pos (h45.2 c2)];simp only[c1,hg,c2,zab,sxZ,z5,z6,z7,z8,j4,j5,j6,j7,j8,j9,x9,y3,y4,y5,y6,reduceCtorEq,↓reduceIte]
    rfl
   ·rw[if_neg (fun h=>c2 (h45.1 h))];simp only[c1,hg,c2,zab,sxZ,z5,z6,z7,z8,j4,j5,j6,j7,j8,j9,x9,y3,y4,y5,y6,reduceCtorEq,↓reduceIte]
    rfl
  ·rw[if_neg (zcm (by omega))];simp only[c1,zab,sxZ,z5,z6,z7,z8,j4,j5,j6,j7,j8,j9,x9,y3,y4,y5,y6,reduceCtorEq,↓reduceIte]
   rfl
 rintro _ tm ⟨rfl,hlen,t0,t3⟩;subst hY1;have hsg:zbl s<=s.length:=by
  unfold zbl
  split
  ·rename_i h;have:=(za.1 h).1;omega
  ·omega
 refine zaa fun Y1 hY1=>?_;unfold zdH at hk;have hw:zaV s=if s[zbl s]? = some 48 then zbl s+1 else zbl s+zaY (s.drop (zbl s)):=rfl
 have hrl:0<zaY (s.drop (zbl s))->zbl s+zaY (s.drop (zbl s))<=s.length:=zaX s _;generalize zbl s=g at *
 by_cases c0:(g:Int)=s.length
 ·have hr0:zaY (s.drop g)=0:=by rw[xh (by omega)];rfl
  rw[if_pos hr0] at hk;simp only[c0,sxZ,z5,z6,z7,z8,j4,j5,j6,j7,j8,j9,x9,y3,y4,y5,y6,reduceCtorEq,↓reduceIte,z4,hlen,t0,t3];exact hk
 have c1':g<s.length:=by omega
 have hg:=zaP c1';have hrun:=run_at s g c1';simp only[c0,hg,sxZ,z5,z6,z7,z8,j4,j5,j6,j7,j8,j9,x9,y3,y4,y5,y6,reduceCtorEq,↓reduceIte,z4,hlen,t0,t3];refine⟨by omega,?_⟩;refine zam (zd5 s[g] ?_)
 by_cases c2:zas s[g]=true
 case neg=>
  rw[if_neg c2] at hrun;rw[if_pos hrun] at hk;simp only[Bool.not_eq_true] at c2;simp only[c2,sxZ,z5,z6,z7,z8,j4,j5,j6,j7,j8,j9,x9,y3,y4,y5,y6,reduceCtorEq,↓reduceIte,z4,hlen,t0,t3];exact hk
 rw[if_pos c2] at hrun;rw[if_neg (by omega)] at hk;simp only[c2,sxZ,z5,z6,z7,z8,j4,j5,j6,j7,j8,j9,x9,y3,y4,y5,y6,reduceCtorEq,↓reduceIte,z4,hlen,t0,t3];subst hY1;refine zaa fun Y1 hY1=>?_;refine zaz (fun o t=>o=[]/\t.length=99/\t[0]? = some (.s s)/\t[3]? = some (.i .i64 (zaV s:Nat))) ?_ ?_
 ·have h48:s[g]? = some 48↔((s[g].toNat:Nat):Int)=48:=ziN c1' 48 (by decide);rw[hw]
  by_cases c3:((s[g].toNat:Nat):Int)=48
  ·rw[if_pos (h48.2 c3)];simp only[hg,c3,zab,sxZ,z5,z6,z7,z8,j4,j5,j6,j7,j8,j9,x9,y3,y4,y5,y6,reduceCtorEq,↓reduceIte,z4,hlen,t0,t3]
   and_intros<;>first|omega|exact iv (by omega)|rfl|assumption
  ·rw[if_neg (fun h=>c3 (h48.1 h))];simp only[hg,c3,zab,sxZ,z5,z6,z7,z8,j4,j5,j6,j7,j8,j9,x9,y3,y4,y5,y6,reduceCtorEq,↓reduceIte,z4,hlen,t0,t3];refine⟨by omega,by omega,?_⟩;refine zam (zjf _ (by rw[zv];omega) ?_);have:=hrl (by omega);simp only[zab,sxZ,z5,z6,z7,z8,j4,j5,j6,j7,j8,j9,x9,y3,y4,y5,y6,reduceCtorEq,↓reduceIte,z4,hlen,t0,t3]
   and_intros<;>first|omega|exact iv (by omega)|rfl|assumption
 rintro _ tm ⟨rfl,hlen,t0,t3⟩;subst hY1;refine zaa fun Y1 hY1=>?_;have hwl:zaV s<=s.length:=by
  rw[hw];have:=hrl (by omega)
  split<;>omega
 have hf:zb6 s (zaV s)=if s[zaV s]? = some 46/\0<zaY (s.drop (zaV s+1)) then zaV s+1+zaY (s.drop (zaV s+1)) else zaV s:=rfl
 generalize zaV s=w at *;clear hw hrl hrun hg c2 c0 c1';refine zaz (fun o t=>o=[]/\t.length=99/\t[0]? = some (.s s)/\t[3]? = some (.i .i64 (zb6 s w:Nat))) ?_ ?_
 ·rw[hf];simp only[sxZ,z5,z6,z7,z8,j4,j5,j6,j7,j8,j9,x9,y3,y4,y5,y6,reduceCtorEq,↓reduceIte,z4,hlen,t0,t3];refine⟨by omega,?_⟩;refine zam (zgk s (w+1) ?_);simp only[sxZ,z5,z6,z7,z8,j4,j5,j6,j7,j8,j9,x9,y3,y4,y5,y6,reduceCtorEq,↓reduceIte,z4,hlen,t0,t3];refine zam (zjf _ (by rw[zv];omega) ?_);have hr:=zaX s (w+1);generalize zaY (s.drop (w+1))=r at *
  by_cases c1:(w:Int)<s.length
  ·have c1':w<s.length:=by omega
   have hg:=zaP c1';have h46:s[w]? = some 46↔((s[w].toNat:Nat):Int)=46:=ziN c1' 46 (by decide)
   by_cases c2:((s[w].toNat:Nat):Int)=46
   ·by_cases c3:0<r
    ·rw[if_pos ⟨h46.2 c2,c3⟩];have c3':(0:Int)<r:=by omega
     simp only[c1,hg,c2,c3',zab,sxZ,z5,z6,z7,z8,j4,j5,j6,j7,j8,j9,x9,y3,y4,y5,y6,reduceCtorEq,↓reduceIte,z4,hlen,t0,t3]
     and_intros<;>first|omega|exact iv (by omega)|rfl|assumption
    ·rw[if_neg (fun h=>c3 h.2)];have c3':¬(0:Int)<r:=by omega
     simp only[c1,hg,c2,c3',zab,sxZ,z5,z6,z7,z8,j4,j5,j6,j7,j8,j9,x9,y3,y4,y5,y6,reduceCtorEq,↓reduceIte,z4,hlen,t0,t3]
     and_intros<;>first|omega|exact iv (by omega)|rfl|assumption
   ·rw[if_neg (fun h=>c2 (h46.1 h.1))];simp only[c1,hg,c2,zab,sxZ,z5,z6,z7,z8,j4,j5,j6,j7,j8,j9,x9,y3,y4,y5,y6,reduceCtorEq,↓reduceIte,z4,hlen,t0,t3]
    and_intros<;>first|omega|exact iv (by omega)|rfl|assumption
  ·rw[if_neg (fun h=>zcm (by omega) h.1)];simp only[c1,zab,sxZ,z5,z6,z7,z8,j4,j5,j6,j7,j8,j9,x9,y3,y4,y5,y6,reduceCtorEq,↓reduceIte,z4,hlen,t0,t3]
 rintro _ tm ⟨rfl,hlen,t0,t3⟩;subst hY1;refine zaa fun Y1 hY1=>?_;have hfl:zb6 s w<=s.length:=by
  rw[hf]
  split
  ·rename_i h;have:=zaX s (w+1) h.2;omega
  ·exact hwl
 generalize zb6 s w=f at *;clear hf;have hx:zbc s f=if s[f+1]? = some 43\/s[f+1]? = some 45 then f+2 else f+1:=rfl
 have he:expN s f=if (s[f]? = some 101\/s[f]? = some 69)/\0<zaY (s.drop (zbc s f)) then zbc s f+zaY (s.drop (zbc s f)) else f:=rfl
 have in2:∀(i:Nat) (hi:i<s.length) (x y:UInt8),zcF s[i] [x,y]=decide (s[i]? = some x\/s[i]? = some y):=by
  intro i hi x y;rw[zk hi];simp[zcF,eq_comm]
 refine zaz (fun o t=>o=[]/\t.length=99/\t[3]? = some (.i .i64 (expN s f:Nat))) ?_ ?_
 ·refine zaa fun Y2 hY2=>?_;refine zaz (fun o t=>o=[]/\t.length=99/\t[0]? = some (.s s)/\t[3]? = some (.i .i64 (f:Nat))/\t[74]? = some (.b (decide (s[f]? = some 101\/s[f]? = some 69)))) ?_ ?_
  ·by_cases c1:(f:Int)<s.length
   ·have c1':f<s.length:=by omega
    have hg:=zaP c1';simp only[c1,hg,sxZ,z5,z6,z7,z8,j4,j5,j6,j7,j8,j9,x9,y3,y4,y5,y6,reduceCtorEq,↓reduceIte,z4,hlen,t0,t3];refine⟨by omega,?_⟩;refine zam (zfJ _ _ (by decide) ?_);rw[in2 f c1'];generalize decide (s[f]? = some 101\/s[f]? = some 69)=E;simp only[zab,sxZ,z5,z6,z7,z8,j4,j5,j6,j7,j8,j9,x9,y3,y4,y5,y6,reduceCtorEq,↓reduceIte,z4,hlen,t0,t3]
   ·have hE:¬(s[f]? = some 101\/s[f]? = some 69):=fun h=>h.elim (zcm (by omega)) (zcm (by omega));simp only[c1,hE,zab,sxZ,z5,z6,z7,z8,j4,j5,j6,j7,j8,j9,x9,y3,y4,y5,y6,reduceCtorEq,↓reduceIte,z4,hlen,t0,t3]
  rintro _ tm ⟨rfl,hlen,t0,t3,t74⟩;subst hY2;refine rn_condH fun X hX=>?_
  by_cases hE:s[f]? = some 101\/s[f]? = some 69
  case neg=>
   rw[he,if_neg (fun h=>hE h.1)];simp only[hE,zab,sxZ,z5,z6,z7,z8,j4,j5,j6,j7,j8,j9,x9,y3,y4,y5,y6,reduceCtorEq,↓reduceIte,z4,hlen,t0,t3,t74]
  have c1':f<s.length:=by
   rcases hE with h|h
   all_goals exact(za.1 h).1
  simp only[hE,sxZ,z5,z6,z7,z8,j4,j5,j6,j7,j8,j9,x9,y3,y4,y5,y6,reduceCtorEq,↓reduceIte,z4,hlen,t0,t3,t74];subst hX;refine zaa fun Y2 hY2=>?_;refine zaz (fun o t=>o=[]/\t.length=99/\t[0]? = some (.s s)/\t[3]? = some (.i .i64 (f:Nat))/\t[5]? = some (.i .i64 ((f:Int)+1))) ?_ ?_
  ·simp only[zab,sxZ,z5,z6,z7,z8,j4,j5,j6,j7,j8,j9,x9,y3,y4,y5,y6,reduceCtorEq,↓reduceIte,z4,hlen,t0,t3]
   and_intros<;>first|omega|exact iv (by omega)|rfl|assumption
  rintro _ tm ⟨rfl,hlen,t0,t3,t5⟩;subst hY2;refine zaa fun Y2 hY2=>?_;refine zaz (fun o t=>o=[]/\t.length=99/\t[0]? = some (.s s)/\t[3]? = some (.i .i64 (f:Nat))/\t[5]? = some (.i .i64 (zbc s f:Nat))) ?_ ?_
  ·rw[hx]
   by_cases d1:(f:Int)+1<s.length
   ·have d1':f+1<s.length:=by omega
    have hg2:=zaP d1';have e1:((f:Int)+1).toNat=f+1:=by omega
    simp only[d1,e1,hg2,sxZ,z5,z6,z7,z8,j4,j5,j6,j7,j8,j9,x9,y3,y4,y5,y6,reduceCtorEq,↓reduceIte,z4,hlen,t0,t3,t5];refine⟨by omega,?_⟩;refine zam (zfJ _ _ (by decide) ?_);rw[in2 (f+1) d1']
    by_cases c4:s[f+1]? = some 43\/s[f+1]? = some 45
    ·rw[if_pos c4];simp only[c4,zab,sxZ,z5,z6,z7,z8,j4,j5,j6,j7,j8,j9,x9,y3,y4,y5,y6,reduceCtorEq,↓reduceIte,z4,hlen,t0,t3,t5]
     and_intros<;>first|omega|exact iv (by omega)|rfl|assumption
    ·rw[if_neg c4];simp only[c4,zab,sxZ,z5,z6,z7,z8,j4,j5,j6,j7,j8,j9,x9,y3,y4,y5,y6,reduceCtorEq,↓reduceIte,z4,hlen,t0,t3,t5]
     and_intros<;>first|omega|exact iv (by omega)|rfl|assumption
   ·rw[if_neg (fun h=>h.elim (zcm (by omega)) (zcm (by omega)))];simp only[d1,zab,sxZ,z5,z6,z7,z8,j4,j5,j6,j7,j8,j9,x9,y3,y4,y5,y6,reduceCtorEq,↓reduceIte,z4,hlen,t0,t3,t5]
    and_intros<;>first|omega|exact iv (by omega)|rfl|assumption
  rintro _ tm ⟨rfl,hlen,t0,t3,t5⟩;subst hY2;have hxl:zbc s f<=s.length:=by
   rw[hx]
   split
   ·rename_i h;rcases h with h|h
    all_goals
     have:=(za.1 h).1;omega
   ·omega
  have hrl:=zaX s (zbc s f);generalize zbc s f=x at *;simp only[sxZ,z5,z6,z7,z8,j4,j5,j6,j7,j8,j9,x9,y3,y4,y5,y6,reduceCtorEq,↓reduceIte,z4,hlen,t0,t3,t5];refine zam (zgk s x ?_);simp only[sxZ,z5,z6,z7,z8,j4,j5,j6,j7,j8,j9,x9,y3,y4,y5,y6,reduceCtorEq,↓reduceIte,z4,hlen,t0,t3,t5];refine zam (zjf _ (by rw[zv];omega) ?_);generalize zaY (s.drop x)=r at *;rw[he]
  by_cases c4:0<r
  ·rw[if_pos ⟨hE,c4⟩];have c4':(0:Int)<r:=by omega
   simp only[c4',zab,sxZ,z5,z6,z7,z8,j4,j5,j6,j7,j8,j9,x9,y3,y4,y5,y6,reduceCtorEq,↓reduceIte,z4,hlen,t0,t3,t5]
   and_intros<;>first|omega|exact iv (by omega)|rfl|assumption
  ·rw[if_neg (fun h=>c4 h.2)];have c4':¬(0:Int)<r:=by omega
   simp only[c4',zab,sxZ,z5,z6,z7,z8,j4,j5,j6,j7,j8,j9,x9,y3,y4,y5,y6,reduceCtorEq,↓reduceIte,z4,hlen,t0,t3,t5]
 rintro _ tm ⟨rfl,hlen,t3⟩;subst hY1;simp only[sxZ,z5,z6,z7,z8,j4,j5,j6,j7,j8,j9,x9,y3,y4,y5,y6,reduceCtorEq,↓reduceIte,z4,hlen,t3];exact hk
end
theorem zi0 {p:NumS} (hp:p.Good):p.neg=decide (p.txt[0]? = some 45):=by
 obtain⟨c,t,e1,e2⟩:=zbY hp.i0 hp.i1;unfold NumS.txt
 cases p.neg with
 | true=>rfl
 | false=>
  rw[e1];have:c≠45:=zbH e2 rfl;simp[sgT,this]
theorem num_uniq {p q:NumS} (hp:p.Good) (hq:q.Good) (h:p.txt=q.txt):p=q:=by
 have hn:p.neg=q.neg:=by rw[zi0 hp,zi0 hq,h]
 unfold NumS.txt at h;rw[hn] at h;have h:=List.append_cancel_left h;have r1:=zbJ p.int _ hp.i1 (zd2 hp);have r2:=zbJ q.int _ hq.i1 (zd2 hq);rw[h,r2] at r1;obtain⟨hi,hR⟩:=List.append_inj h r1.symm;have hx:p.fr=q.fr/\exT p.ex=exT q.ex:=by
  cases h1:p.fr with
  | nil=>
   cases h2:q.fr with
   | nil=>rw[h1,h2] at hR;exact⟨rfl,hR⟩
   | cons b u=>
    rw[h1,h2] at hR;exfalso;rcases zcV hp 46 (by rw[show exT p.ex=frT (b::u)++exT q.ex from hR];rfl) with h3|h3<;>cases h3
  | cons a t=>
   cases h2:q.fr with
   | nil=>
    rw[h1,h2] at hR;exfalso;rcases zcV hq 46 (by rw[show exT q.ex=frT (a::t)++exT p.ex from hR.symm];rfl) with h3|h3<;>cases h3
   | cons b u=>
    rw[h1,h2] at hR;have hR:(46:UInt8)::((a::t)++exT p.ex)=46::((b::u)++exT q.ex):=hR;injection hR with _ hR
    have hd:∀{r:NumS},r.Good->∀c,(exT r.ex)[0]? = some c->zas c=false:=fun hr c h=>by
     rcases zcV hr c h with rfl|rfl<;>rfl
    have k1:=zbJ (a::t) _ (by rw[<-h1];exact hp.f1) (hd hp);have k2:=zbJ (b::u) _ (by rw[<-h2];exact hq.f1) (hd hq);rw[hR,k2] at k1;exact List.append_inj hR k1.symm
 have he:p.ex=q.ex:=by
  have h3:=hx.2
  cases h1:p.ex with
  | none=>
   cases h2:q.ex with
   | none=>rfl
   | some e=>obtain⟨c,s,d⟩:=e;rw[h1,h2] at h3;cases h3
  | some e=>
   obtain⟨c,s,d⟩:=e
   cases h2:q.ex with
   | none=>rw[h1,h2] at h3;cases h3
   | some e'=>
    obtain⟨c',s',d'⟩:=e';have k1:=(zgE 0 hp h1).2;have k2:=(zgE 0 hq h2).2;rw[h1,h2] at h3;have h3:c::(s++d)=c'::(s'++d'):=h3;injection h3 with e1 e2
    rw[e2,k2] at k1;subst k1;rw[e1,List.append_cancel_right e2]
 obtain⟨pn,pi,pf,pe⟩:=p;obtain⟨qn,qi,qf,qe⟩:=q;simp only at hn hi hx he;rw[hn,hi,hx.1,he]
section
variable [Tabs Try.prog] {objs:List OB} {K:List OB->AV->Prop}
end
theorem minV_at (c:Nat) (l:List UInt8) (i n:Nat) (h:i<l.length):zgt c (l.drop i) n=zgt c (l.drop (i+1)) (min (n*10+(l[i].toNat - 48)) c):=by
 rw[jn h,zgt]
theorem zlF {p:NumS} (hp:p.Good):ziD p.body [101,69]=(p.int++frT p.fr).length:=by
 have hno:(p.int++frT p.fr).findIdx (fun c=>zcF c [101,69])=(p.int++frT p.fr).length:=by
  rw[List.findIdx_eq_length];intro c hc;rcases List.mem_append.1 hc with h|h
  ·exact(zcI (zu.1 hp.i1 c h)).2.1
  ·exact(frT_mem hp.f1 c h).2
 unfold ziD NumS.body;rw[<-ja,List.findIdx_append,hno,if_neg (by omega)]
 cases he:p.ex with
 | none=>simp[exT]
 | some e=>
  obtain⟨k,s,d⟩:=e;have:(exT (some (k,s,d))).findIdx (fun c=>zcF c [101,69])=0:=by
   unfold exT;rw[List.findIdx_cons];rcases(hp.e1 k s d he).1 with rfl|rfl<;>rfl
  rw[this,Nat.zero_add]
theorem zf6 (p:NumS):p.body.take (p.int++frT p.fr).length=p.int++frT p.fr:=by
 unfold NumS.body;rw[<-ja,List.take_left]
theorem body_exp {p:NumS} (hp:p.Good) (c:Nat):expC c (p.body.drop ((p.int++frT p.fr).length+1))=zeb c p.ex/\(zc3 (p.body.drop ((p.int++frT p.fr).length+1))).all zas=true:=by
 have hd:p.body.drop ((p.int++frT p.fr).length+1)=(exT p.ex).drop 1:=by
  unfold NumS.body;rw[<-ja,<-qu,List.drop_left]
 rw[hd]
 cases he:p.ex with
 | none=>exact⟨rfl,rfl⟩
 | some e=>
  obtain⟨k,s,d⟩:=e;have h:=zgE c hp he;have h4:=(hp.e1 k s d he).2.2.2;rw[he] at h;show expC c (s++d)=_/\(zc3 (s++d)).all zas=true;rw[h.2];exact⟨h.1,h4⟩
theorem zR_last {l:List UInt8} (h:l≠[]) (h2:l.getLast h≠48):zR l=l:=by
 unfold zR;rw[zL_id,List.reverse_reverse];intro c hc;rw[<-List.head?_eq_getElem?,List.head?_reverse,List.getLast?_eq_some_getLast h] at hc;injection hc with hc
 rw[<-hc];exact h2
section
variable [Tabs Try.prog] {objs:List OB} {K:List OB->AV->Prop}
set_option maxHeartbeats 2000000 in
theorem zgl (l:List UInt8) (hl:l.length<=140737488351232) (hd:(zc3 l).all zas=true) (hk:K objs (.i .i64 (expC 1073741824 l))):zag Try.prog 63 [.s l] objs K:=by
 refine zby is_ref13_exponent rfl fun C _=>?_;rw[c_ref13_exponent];refine zaa fun Y1 hY1=>?_;simp only[sxZ,z5,z6,z7,z8,j4,j5,j6,j7,j8,j9,x9,y3,y4,y5,y6,reduceCtorEq,↓reduceIte];subst hY1;refine zaa fun Y1 hY1=>?_;refine zaz (fun o t=>o=[]/\t.length=41/\t[0]? = some (.s l)/\t[3]? = some (.b (negE l))) ?_ ?_
 ·unfold negE
  by_cases c0:l=[]
  ·subst c0;simp[zab,sxZ,z5,z6,z7,z8,j4,j5,j6,j7,j8,j9,x9,y3,y4,y5,y6,reduceCtorEq,↓reduceIte]
  ·have l0:0<l.length:=jx.2 c0;have g0:=zaP l0;have h45:l[0]? = some 45↔((l[0].toNat:Nat):Int)=45:=ziN l0 45 (by decide);simp only[c0,g0,zab,sxZ,z5,z6,z7,z8,j4,j5,j6,j7,j8,j9,x9,y3,y4,y5,y6,reduceCtorEq,↓reduceIte];refine⟨by omega,?_⟩
   by_cases c1:((l[0].toNat:Nat):Int)=45
   ·rw[decide_eq_true c1,decide_eq_true (h45.2 c1)]
   ·rw[decide_eq_false c1,decide_eq_false (fun h=>c1 (h45.1 h))]
 rintro _ tm ⟨rfl,hlen,t0,t3⟩;subst hY1;refine zaa fun Y1 hY1=>?_;refine zaz (fun o t=>o=[]/\t.length=41/\t[0]? = some (.s (zc3 l))/\t[3]? = some (.b (negE l))) ?_ ?_
 ·unfold zc3
  by_cases c0:l=[]
  ·subst c0;simp only[zab,sxZ,z5,z6,z7,z8,j4,j5,j6,j7,j8,j9,x9,y3,y4,y5,y6,reduceCtorEq,↓reduceIte,z4,hlen,t0,t3]
   rfl
  ·have l0:0<l.length:=jx.2 c0;have g0:=zaP l0;simp only[c0,g0,sxZ,z5,z6,z7,z8,j4,j5,j6,j7,j8,j9,x9,y3,y4,y5,y6,reduceCtorEq,↓reduceIte,z4,hlen,t0,t3];refine⟨by omega,?_⟩;refine zam (zfJ _ _ (by decide) ?_);have hin:zcF l[0] [43,45]=decide (l[0]? = some 43\/l[0]? = some 45):=by
    rw[zk l0];simp[zcF,eq_comm]
   rw[hin]
   by_cases c1:l[0]? = some 43\/l[0]? = some 45
   ·rw[if_pos c1];simp only[c1,zab,sxZ,z5,z6,z7,z8,j4,j5,j6,j7,j8,j9,x9,y3,y4,y5,y6,reduceCtorEq,↓reduceIte,z4,hlen,t0,t3]
    and_intros<;>first|omega|exact iv (by omega)|rfl|assumption
   ·rw[if_neg c1];simp only[c1,zab,sxZ,z5,z6,z7,z8,j4,j5,j6,j7,j8,j9,x9,y3,y4,y5,y6,reduceCtorEq,↓reduceIte,z4,hlen,t0,t3]
 rintro _ tm ⟨rfl,hlen,t0,t3⟩;subst hY1;have hsl:(zc3 l).length<=l.length:=by unfold zc3;split<;>simp
 unfold expC at hk;generalize negE l=ng at *;generalize zc3 l=d at *;refine zaa fun Y1 hY1=>?_;simp only[sxZ,z5,z6,z7,z8,j4,j5,j6,j7,j8,j9,x9,y3,y4,y5,y6,reduceCtorEq,↓reduceIte,z4,hlen,t0,t3];subst hY1;refine zaa fun Y1 hY1=>?_;refine zaz (fun o t=>o=[]/\t.length=41/\t[3]? = some (.b ng)/\t[4]? = some (.i .i64 (zgt 1073741824 d 0:Nat))) ?_ ?_
 ·simp only[sxZ,z5,z6,z7,z8,j4,j5,j6,j7,j8,j9,x9,y3,y4,y5,y6,reduceCtorEq,↓reduceIte,z4,hlen,t0,t3];refine zaU (fun k objs tm=>∃(i n:Nat),i<=d.length/\k=d.length - i/\objs=[]/\n<=1073741824/\zgt 1073741824 d 0=zgt 1073741824 (d.drop i) n/\tm.length=41/\tm[0]? = some (.s d)/\tm[3]? = some (.b ng)/\tm[4]? = some (.i .i64 (n:Nat))/\tm[5]? = some (.i .i64 (i:Nat))) d.length
   ⟨0,0,zo _,rfl,rfl,by omega,rfl,by simp[hlen],by simp[t0],by simp[t3],by simp[hlen],by simp[hlen]⟩ ?_
  rintro k _ tm ⟨i,n,hi,rfl,rfl,hn,hm,hlen,t0,t3,t4,t5⟩
  by_cases hlt:(i:Int)<d.length
  ·have hlt':i<d.length:=by omega
   have hg:=zaP hlt';have hdi:=zfj (zu.1 hd _ (List.getElem_mem hlt'));have hmv:=minV_at 1073741824 d i n hlt';have hw:IntKind.u8.wrap (((d[i].toNat:Nat):Int) - 48)=((d[i].toNat - 48:Nat):Int):=by
    simp[IntKind.wrap,IntKind.bits,IntKind.signed];omega
   have hw2:IntKind.i64.wrap ((d[i].toNat - 48:Nat):Int)=((d[i].toNat - 48:Nat):Int):=by rw[IntKind.wrap_i64];omega
   simp only[hlt,hg,hw,hw2,sxZ,z5,z6,z7,z8,j4,j5,j6,j7,j8,j9,x9,y3,y4,y5,y6,reduceCtorEq,↓reduceIte,z4,hlen,t0,t3,t4,t5];have hv:d[i].toNat - 48<=9:=by omega
   generalize d[i].toNat - 48=v at *;exact⟨by omega,by omega,by omega,by omega,d.length - (i+1),by omega,i+1,min (n*10+v) 1073741824,by omega,rfl,by omega,by rw[hm,hmv],iv (by split<;>omega),iv (by omega)⟩
  ·obtain rfl:i=d.length:=by omega
   rw[xf,zgt] at hm;simp only[hlt,zbi,zab,sxZ,z5,z6,z7,z8,j4,j5,j6,j7,j8,j9,x9,y3,y4,y5,y6,reduceCtorEq,↓reduceIte,z4,hlen,t0,t3,t4,t5];rw[hm]
 rintro _ tm ⟨rfl,hlen,t3,t4⟩;subst hY1;have hml:=minV_le 1073741824 d 0 (by omega);generalize zgt 1073741824 d 0=n at *
 cases ng with
 | true=>
  simp only[sxZ,z5,z6,z7,z8,j4,j5,j6,j7,j8,j9,x9,y3,y4,y5,y6,reduceCtorEq,↓reduceIte,z4,hlen,t3,t4];rw[if_pos rfl] at hk;refine⟨by omega,?_⟩;rw[Int.zero_sub];exact hk
 | false=>
  simp only[sxZ,z5,z6,z7,z8,j4,j5,j6,j7,j8,j9,x9,y3,y4,y5,y6,reduceCtorEq,↓reduceIte,z4,hlen,t3,t4];rw[if_neg (by simp)] at hk;exact hk
set_option maxHeartbeats 4000000 in
theorem zjh (s:List UInt8) (hs:s.length<=140737488351232) (h1:(s=[]\/zdH s≠s.length)->K objs (.tup [.s [],.i .i64 130]))
  (h2:∀p:NumS,p.Good->s=p.txt->K objs (.tup [.s (canP 1073741824 p).2,.i .i64 (canP 1073741824 p).1])):zag Try.prog 50 [.s s] objs K:=by
 refine zby is_ref13_Number rfl fun C _=>?_;have hmx:=zdf
 by_cases c0:s=[]
 ·have h1:=h1 (.inl c0);simp only[c0,c_ref13_Number,sxZ,z5,z6,z7,z8,j4,j5,j6,j7,j8,j9,x9,y3,y4,y5,y6,reduceCtorEq,↓reduceIte];exact h1
 rw[c_ref13_Number];refine zaa fun Y1 hY1=>?_;simp only[sxZ,z5,z6,z7,z8,j4,j5,j6,j7,j8,j9,x9,y3,y4,y5,y6,reduceCtorEq,↓reduceIte];subst hY1;refine zaa fun Y1 hY1=>?_;simp only[c0,sxZ,z5,z6,z7,z8,j4,j5,j6,j7,j8,j9,x9,y3,y4,y5,y6,reduceCtorEq,↓reduceIte];refine zam (zes s hs ?_)
 by_cases c1:zdH s=s.length
 case neg=>
  have c1':¬((zdH s:Nat):Int)=s.length:=by omega
  simp only[c1',sxZ,z5,z6,z7,z8,j4,j5,j6,j7,j8,j9,x9,y3,y4,y5,y6,reduceCtorEq,↓reduceIte];exact h1 (.inr c1)
 clear h1;obtain⟨p,hp,rfl⟩:=zka c0 c1;have h2:=h2 p hp rfl;simp only[c1,sxZ,z5,z6,z7,z8,j4,j5,j6,j7,j8,j9,x9,y3,y4,y5,y6,reduceCtorEq,↓reduceIte];subst hY1;refine zaa fun Y1 hY1=>?_;simp only[sxZ,z5,z6,z7,z8,j4,j5,j6,j7,j8,j9,x9,y3,y4,y5,y6,reduceCtorEq,↓reduceIte];subst hY1;refine zaa fun Y1 hY1=>?_;have hbl:p.body.length<=p.txt.length:=by unfold NumS.txt NumS.body;simp
 have htl:=zi1 p;have hml:(p.int++frT p.fr).length<=p.txt.length:=by unfold NumS.txt;simp;omega
 refine zaz (fun o t=>o=[]/\t.length=117/\t[0]? = some (.s p.body)/\t[4]? = some (.s (sgT p.neg))) ?_ ?_
 ·obtain⟨c,t,e1,e2⟩:=zbY hp.i0 hp.i1;have n45:¬((c.toNat:Nat):Int)=45:=by have:=zfj e2;omega
  have hb:p.txt=sgT p.neg++p.body:=rfl;have hpos:0<p.txt.length:=jx.2 c0
  cases hn:p.neg with
  | true=>
   have g1:(((p.txt.getD 0 0).toNat:Nat):Int)=45:=by rw[hb,hn];rfl
   have g2:p.txt.drop 1=p.body:=by rw[hb,hn];rfl
   generalize p.txt=W at *;simp only[sgT,g1,g2,zab,sxZ,z5,z6,z7,z8,j4,j5,j6,j7,j8,j9,x9,y3,y4,y5,y6,reduceCtorEq,↓reduceIte]
   and_intros<;>first|omega|exact iv (by omega)|rfl|assumption
  | false=>
   have g1:(p.txt.getD 0 0)=c:=by rw[hb,hn];unfold NumS.body;rw[e1];rfl
   have g2:p.txt=p.body:=by rw[hb,hn];rfl
   rw[g2] at g1 hpos ⊢;generalize p.body=W at *;simp only[sgT,g1,n45,zab,sxZ,z5,z6,z7,z8,j4,j5,j6,j7,j8,j9,x9,y3,y4,y5,y6,reduceCtorEq,↓reduceIte]
   and_intros<;>first|omega|exact iv (by omega)|rfl|assumption
 rintro _ tm ⟨rfl,hlen,t0,t4⟩;subst hY1;clear c0 c1;have hbe:=body_exp hp 1073741824;have hbt:=zf6 p;have hil:(p.int++frT p.fr).length<=p.body.length:=by
  have h:=congrArg List.length (zf6 p);rw[qd] at h;omega
 have hbi:=zlF hp;generalize hG:p.int++frT p.fr=G at *;refine zaa fun Y1 hY1=>?_;simp only[sxZ,z5,z6,z7,z8,j4,j5,j6,j7,j8,j9,x9,y3,y4,y5,y6,reduceCtorEq,↓reduceIte,z4,hlen,t0,t4];refine zam (zg9 _ _ (by omega) (by decide) ?_);rw[hbi];simp only[sxZ,z5,z6,z7,z8,j4,j5,j6,j7,j8,j9,x9,y3,y4,y5,y6,reduceCtorEq,↓reduceIte,z4,hlen,t0,t4];subst hY1;refine zaa fun Y1 hY1=>?_;refine zaz (fun o t=>o=[]/\t.length=117/\t[4]? = some (.s (sgT p.neg))/\t[6]? = some (.i .i64 (zeb 1073741824 p.ex))/\t[7]? = some (.s G)) ?_ ?_
 ·simp only[sxZ,z5,z6,z7,z8,j4,j5,j6,j7,j8,j9,x9,y3,y4,y5,y6,reduceCtorEq,↓reduceIte,z4,hlen,t0,t4];refine⟨by omega,?_⟩;refine zhs (zgk p.body (G.length+1) ⟨rfl,rfl⟩) ?_;simp only[sxZ,z5,z6,z7,z8,j4,j5,j6,j7,j8,j9,x9,y3,y4,y5,y6,reduceCtorEq,↓reduceIte,z4,hlen,t0,t4];refine zhs (zgl _ (by rw[zv];omega) hbe.2 ⟨rfl,rfl⟩) ?_;simp only[hbe.1,hbt,zab,sxZ,z5,z6,z7,z8,j4,j5,j6,j7,j8,j9,x9,y3,y4,y5,y6,reduceCtorEq,↓reduceIte,z4,hlen,t0,t4]
  and_intros<;>first|omega|exact iv (by omega)|rfl|assumption
 rintro _ tm ⟨rfl,hlen,t4,t6,t7⟩;subst hY1;refine zaa fun Y1 hY1=>?_;have hei:=expI_le 1073741824 p.ex;have hcp:=zlx hp;rw[hG] at hcp;have hi1:ziD G [46]=p.int.length:=by rw[zhL,hcp]
 have hGt:G.take p.int.length=p.int:=by rw[<-hG,List.take_left]
 have hGd:G.drop (p.int.length+1)=p.fr:=by
  rw[<-hG,<-qu,List.drop_left]
  cases p.fr<;>rfl
 have hGl:G.length=p.int.length+(frT p.fr).length:=by rw[<-hG,zq]
 refine zaz (fun o t=>o=[]/\t.length=117/\t[4]? = some (.s (sgT p.neg))/\t[6]? = some (.i .i64 (zeb 1073741824 p.ex - (p.fr.length:Int)))/\t[7]? = some (.s (p.int++p.fr))) ?_ ?_
 ·simp only[sxZ,z5,z6,z7,z8,j4,j5,j6,j7,j8,j9,x9,y3,y4,y5,y6,reduceCtorEq,↓reduceIte,z4,hlen,t4,t6,t7];refine zam (zg9 _ _ (by omega) (by decide) ?_);rw[hi1]
  cases hf:p.fr with
  | nil=>
   have c2:¬((p.int.length:Nat):Int)<G.length:=by rw[hf] at hGl;simp[frT] at hGl;omega
   have hG2:G=p.int:=by rw[<-hG,hf];simp[frT]
   simp only[c2,zab,sxZ,z5,z6,z7,z8,j4,j5,j6,j7,j8,j9,x9,y3,y4,y5,y6,reduceCtorEq,↓reduceIte,z4,hlen,t4,t6,t7];rw[hG2]
   and_intros<;>first|omega|exact iv (by omega)|rfl|assumption
  | cons a u=>
   rw[hf] at hGd;have c2:((p.int.length:Nat):Int)<G.length:=by rw[hf] at hGl;simp[frT] at hGl;omega
   have hfl:G.length=p.int.length+(u.length+1)+1:=by rw[hf] at hGl;simp[frT] at hGl;omega
   have e1:(((p.int.length:Nat):Int)+1).toNat=p.int.length+1:=by omega
   simp only[c2,e1,hGt,hGd,zab,sxZ,z5,z6,z7,z8,j4,j5,j6,j7,j8,j9,x9,y3,y4,y5,y6,reduceCtorEq,↓reduceIte,z4,hlen,t4,t6,t7]
   and_intros<;>first|omega|exact iv (by omega)|rfl|assumption
 rintro _ tm ⟨rfl,hlen,t4,t6,t7⟩;subst hY1;clear hbe hbt hil hcp hbi hi1 hGt hGd hGl hG hml;refine zaa fun Y1 hY1=>?_;have hzl:=zL_len (p.int++p.fr);rw[zq] at hzl;refine zaz (fun o t=>o=[]/\t.length=117/\t[4]? = some (.s (sgT p.neg))/\t[6]? = some (.i .i64 (zeb 1073741824 p.ex - (p.fr.length:Int)))/\t[7]? = some (.s (zdh p))) ?_ ?_
 ·simp only[sxZ,z5,z6,z7,z8,j4,j5,j6,j7,j8,j9,x9,y3,y4,y5,y6,reduceCtorEq,↓reduceIte];refine zaU (fun k o t=>∃l:List UInt8,k=l.length/\o=[]/\zL l=zdh p/\t.length=117/\t[4]? = some (.s (sgT p.neg))/\t[6]? = some (.i .i64 (zeb 1073741824 p.ex - (p.fr.length:Int)))/\t[7]? = some (.s l)) (p.int++p.fr).length ⟨p.int++p.fr,rfl,rfl,rfl,hlen,t4,t6,t7⟩ ?_;rintro k _ tm ⟨l,rfl,rfl,hz,hlen,t4,t6,t7⟩
  cases l with
  | nil=>
   have z:¬(0:Int)<((0:Nat):Int):=by decide
   simp only[z,zbi,zab,sxZ,z5,z6,z7,z8,j4,j5,j6,j7,j8,j9,x9,y3,y4,y5,y6,reduceCtorEq,↓reduceIte,z4,hlen,t4,t6,t7];rw[<-hz];rfl
  | cons c u=>
   have hp1:(0:Int)<((u.length+1:Nat):Int):=by omega
   have hp2:(c::u).getD 0 0=c:=rfl;rw[zeL] at hz
   by_cases c1:((c.toNat:Nat):Int)=48
   ·have hc:c=48:=(zc2 (by decide)).1 c1;rw[if_pos hc] at hz;simp only[hp1,hp2,c1,zbi,zab,sxZ,z5,z6,z7,z8,j4,j5,j6,j7,j8,j9,x9,y3,y4,y5,y6,reduceCtorEq,↓reduceIte,z4,hlen,t4,t6,t7];exact⟨by omega,u.length,by omega,u,rfl,hz,rfl⟩
   ·have hc:¬c=48:=fun h=>c1 ((zc2 (by decide)).2 h);rw[if_neg hc] at hz;simp only[hp1,hp2,c1,zbi,zab,sxZ,z5,z6,z7,z8,j4,j5,j6,j7,j8,j9,x9,y3,y4,y5,y6,reduceCtorEq,↓reduceIte,z4,hlen,t4,t6,t7];rw[hz]
 rintro _ tm ⟨rfl,hlen,t4,t6,t7⟩;subst hY1;refine zaa fun Y1 hY1=>?_;have hmh:=zki p;unfold canP at h2;unfold expX at h2
 by_cases c2:zdh p=[]
 ·rw[if_pos c2] at h2;simp only[c2,sxZ,z5,z6,z7,z8,j4,j5,j6,j7,j8,j9,x9,y3,y4,y5,y6,reduceCtorEq,↓reduceIte,z4,hlen,t4,t6,t7];exact h2
 rw[if_neg c2] at h2;have hml2:=zhn p;simp only[c2,sxZ,z5,z6,z7,z8,j4,j5,j6,j7,j8,j9,x9,y3,y4,y5,y6,reduceCtorEq,↓reduceIte,z4,hlen,t4,t6,t7];subst hY1;have hX:-(300000000000000:Int)<=zeb 1073741824 p.ex - (p.fr.length:Int)/\zeb 1073741824 p.ex - (p.fr.length:Int)<=300000000000000:=by omega
 generalize zeb 1073741824 p.ex - (p.fr.length:Int)=X at *;generalize zdh p=M at *;refine zaa fun Y1 hY1=>?_;refine zaz (fun o t=>o=[]/\t.length=117/\t[4]? = some (.s (sgT p.neg))/\t[6]? = some (.i .i64 (X+((M.length:Int) - (zR M).length)))/\t[7]? = some (.s (zR M))) ?_ ?_
 ·simp only[sxZ,z5,z6,z7,z8,j4,j5,j6,j7,j8,j9,x9,y3,y4,y5,y6,reduceCtorEq,↓reduceIte];refine zaU (fun k o t=>∃(l:List UInt8) (j:Nat),k=l.length/\o=[]/\l≠[]/\M=l++qg j 48/\t.length=117/\t[4]? = some (.s (sgT p.neg))/\t[6]? = some (.i .i64 (X+(j:Nat)))/\t[7]? = some (.s l)) M.length ⟨M,0,rfl,rfl,c2,by simp,by simp[hlen],by simp[t4],by simp[t6],by simp[t7]⟩ ?_;rintro k _ tm ⟨l,j,rfl,rfl,hl0,hM,hlen,t4,t6,t7⟩;have hl1:0<l.length:=jx.2 hl0;have hi:l.length - 1<l.length:=by omega
  have hg:=zaP hi;have e1:(((l.length:Nat):Int) - 1).toNat=l.length - 1:=by omega
  have hll:l.getLast hl0=l[l.length - 1]:=List.getLast_eq_getElem hl0;have hMl:M.length=l.length+j:=by rw[hM];simp
  by_cases c3:((l[l.length - 1].toNat:Nat):Int)=48
  ·have hc:l[l.length - 1]=48:=(zc2 (by decide)).1 c3;have hsp:l=l.take (l.length - 1)++[48]:=by
    have h:=List.dropLast_concat_getLast hl0;rw[hll,hc,List.dropLast_eq_take] at h;exact h.symm
   have hM2:M=l.take (l.length - 1)++qg (j+1) 48:=by
    conv=>lhs;rw[hM,hsp]
    rw[ja,xn];rfl
   have hne:¬l.take (l.length - 1)=[]:=by
    intro h;rw[h,List.nil_append,xn] at hM2;exact hmh 48 (by rw[hM2];rfl) rfl
   have htk:(l.take (l.length - 1)).length=l.length - 1:=by rw[qd];omega
   simp only[e1,hg,c3,sxZ,z5,z6,z7,z8,j4,j5,j6,j7,j8,j9,x9,y3,y4,y5,y6,reduceCtorEq,↓reduceIte,z4,hlen,t4,t6,t7];exact⟨by omega,by omega,by omega,by omega,by omega,(l.take (l.length - 1)).length,by omega,l.take (l.length - 1),j+1,rfl,hne,hM2,iv (by omega),rfl⟩
  ·have hc:¬l[l.length - 1]=48:=fun h=>c3 ((zc2 (by decide)).2 h);have hz:zR M=l:=by rw[hM,zR_rep,zR_last hl0 (by rw[hll];exact hc)]
   simp only[e1,hg,c3,zbi,zab,sxZ,z5,z6,z7,z8,j4,j5,j6,j7,j8,j9,x9,y3,y4,y5,y6,reduceCtorEq,↓reduceIte,z4,hlen,t4,t6,t7];rw[hz];exact⟨by omega,by omega,iv (by omega),rfl⟩
 rintro _ tm ⟨rfl,hlen,t4,t6,t7⟩;subst hY1;have hzr:=zR_len M;generalize X+((M.length:Int) - ((zR M).length:Int))=x at *;generalize zR M=m at *
 by_cases d1:(40:Int)<m.length
 ·rw[if_pos (.inl (by omega))] at h2;simp only[d1,sxZ,z5,z6,z7,z8,j4,j5,j6,j7,j8,j9,x9,y3,y4,y5,y6,reduceCtorEq,↓reduceIte,z4,hlen,t4,t6,t7];exact h2
 by_cases d3:400<x
 ·rw[if_pos (.inr (.inr d3))] at h2;simp only[d1,d3,sxZ,z5,z6,z7,z8,j4,j5,j6,j7,j8,j9,x9,y3,y4,y5,y6,reduceCtorEq,↓reduceIte,z4,hlen,t4,t6,t7];exact h2
 by_cases d2:x < -400
 ·rw[if_pos (.inr (.inl d2))] at h2;simp only[d1,d2,d3,sxZ,z5,z6,z7,z8,j4,j5,j6,j7,j8,j9,x9,y3,y4,y5,y6,reduceCtorEq,↓reduceIte,z4,hlen,t4,t6,t7];exact h2
 rw[if_neg (by omega)] at h2;have hsg:(sgT p.neg).length<=1:=by unfold sgT;split<;>simp
 unfold expS at h2;generalize sgT p.neg=sg at *;have hdl:(Lib.decDigits x.natAbs).length<=20:=by rw[Lib.decDigits_length];exact Lib.nDigits_le20 _ (by omega)
 by_cases d4:x<0
 ·rw[if_neg (show ¬x=0 by omega)] at h2;have hw:IntKind.u64.wrap (0 - x)=((x.natAbs:Nat):Int):=by rw[wrap_u64 _ (by omega) (by omega)];omega
  have hit:=Lib.itoa_neg x.natAbs (by omega);rw[show -((x.natAbs:Nat):Int)=x by omega] at hit;rw[hit] at h2;simp only[d1,d2,d3,d4,hw,sxZ,z5,z6,z7,z8,j4,j5,j6,j7,j8,j9,x9,y3,y4,y5,y6,reduceCtorEq,↓reduceIte,z4,hlen,t4,t6,t7]
  (and_intros<;>try omega)
  refine zam (zeu _ (by omega) ?_);simp only[sxZ,z5,z6,z7,z8,j4,j5,j6,j7,j8,j9,x9,y3,y4,y5,y6,reduceCtorEq,↓reduceIte,z4,hlen,t4,t6,t7]
  (and_intros<;>try omega)
  simpa using h2
 by_cases d5:0<x
 ·rw[if_neg (show ¬x=0 by omega)] at h2;have hw:IntKind.u64.wrap x=((x.natAbs:Nat):Int):=by rw[wrap_u64 _ (by omega) (by omega)];omega
  have hit:=Lib.itoa_nonneg x.natAbs;rw[show ((x.natAbs:Nat):Int)=x by omega] at hit;rw[hit] at h2;simp only[d1,d2,d3,d4,d5,hw,sxZ,z5,z6,z7,z8,j4,j5,j6,j7,j8,j9,x9,y3,y4,y5,y6,reduceCtorEq,↓reduceIte,z4,hlen,t4,t6,t7]
  (and_intros<;>try omega)
  refine zam (zeu _ (by omega) ?_);simp only[sxZ,z5,z6,z7,z8,j4,j5,j6,j7,j8,j9,x9,y3,y4,y5,y6,reduceCtorEq,↓reduceIte,z4,hlen,t4,t6,t7]
  (and_intros<;>try omega)
  simpa using h2
 ·rw[if_pos (show x=0 by omega)] at h2;simp only[d1,d2,d3,d4,d5,sxZ,z5,z6,z7,z8,j4,j5,j6,j7,j8,j9,x9,y3,y4,y5,y6,reduceCtorEq,↓reduceIte,z4,hlen,t4,t6,t7]
  (and_intros<;>try omega)
  simpa using h2
end
theorem zik {n:Nat} (h:n<=65535):IntKind.i64.wrap ((n:Nat):Int)=n:=by rw[IntKind.wrap_i64];omega
section
variable [Tabs Try.prog] {objs:List OB} {K:List OB->AV->Prop}
theorem runit_k (s:List UInt8) (a:Nat) (ha:a<=9000000000000000000) (hs:s.length<=140737488351232) (hk:match zb1 (s.drop a) with|some n=>K objs (.tup [.i .i64 (n:Nat),.b true])|none=>∀x,K objs (.tup [.i .i64 x,.b false])):zag Try.prog 77 [.s s,.i .i64 (a:Nat)] objs K:=by
 refine zby is_ref13_unit rfl fun C _=>?_;have hb:=zhi zbP 16 65535 (((s.drop a).drop 2).take 4);unfold zb1 at hk;rw[zv,zec,zec,qp] at hk
 by_cases c0:(s.length:Int)<(a:Int)+6
 ·rw[if_pos (.inl (by omega))] at hk;simp only[c0,c_ref13_unit,sxZ,z5,z6,z7,z8,j4,j5,j6,j7,j8,j9,x9,y3,y4,y5,y6,reduceCtorEq,↓reduceIte];exact⟨by omega,hk 0⟩
 have l0:a<s.length:=by omega
 have l1:a+1<s.length:=by omega
 have g0:=zaP l0;have g1:=zaP l1;have e2:((a:Int)+1).toNat=a+1:=by omega
 have e0:s[a]? = some 92↔((s[a].toNat:Nat):Int)=92:=ziN l0 92 (by decide);have e1:s[a+1]? = some 117↔((s[a+1].toNat:Nat):Int)=117:=ziN l1 117 (by decide);have e3:((a:Int)+2).toNat=a+2:=by omega
 have e4:((a:Int)+6).toNat=a+6:=by omega
 by_cases c1:((s[a].toNat:Nat):Int)=92
 ·by_cases c2:((s[a+1].toNat:Nat):Int)=117
  ·rw[if_neg (by rintro(h|h|h);exact absurd h (by omega);exact h (e0.2 c1);exact h (e1.2 c2))] at hk;simp only[c0,c1,c2,e2,e3,e4,g0,g1,c_ref13_unit,sxZ,z5,z6,z7,z8,j4,j5,j6,j7,j8,j9,x9,y3,y4,y5,y6,reduceCtorEq,↓reduceIte];refine⟨by omega,by omega,by omega,by omega,by omega,by omega,by omega,?_⟩;have hx:(s.take (a+6)).drop (a+2)=((s.drop a).drop 2).take 4:=by
    rw[qu,show a+6=(a+2)+4 by omega,zdV]
   rw[hx];refine zam (rnHex_k _ 65535 (by rw[qd,zv,zdf];omega) (by decide) ?_);simp only[sxZ,z5,z6,z7,z8,j4,j5,j6,j7,j8,j9,x9,y3,y4,y5,y6,reduceCtorEq,↓reduceIte];generalize zdD zbP 16 65535 (((s.drop a).drop 2).take 4)=q at *;obtain⟨e,n⟩:=q;simp only at hk hb ⊢;rw[zik hb]
   by_cases c3:e=0
   ·rw[if_pos c3] at hk;rw[decide_eq_true c3];exact hk
   ·rw[if_neg c3] at hk;rw[decide_eq_false c3];exact hk _
  ·rw[if_pos (.inr (.inr (fun h=>c2 (e1.1 h))))] at hk;simp only[c0,c1,c2,e2,g0,g1,c_ref13_unit,sxZ,z5,z6,z7,z8,j4,j5,j6,j7,j8,j9,x9,y3,y4,y5,y6,reduceCtorEq,↓reduceIte];refine⟨by omega,by omega,by omega,by omega,hk 0⟩
 ·rw[if_pos (.inr (.inl (fun h=>c1 (e0.1 h))))] at hk;simp only[c0,c1,g0,g1,c_ref13_unit,sxZ,z5,z6,z7,z8,j4,j5,j6,j7,j8,j9,x9,y3,y4,y5,y6,reduceCtorEq,↓reduceIte];refine⟨by omega,by omega,hk 0⟩
end
theorem zgc {P:Program} [Tabs P] {f:FuncId} {args:List AV} {vs:List Value} {Q:Value->Prop} {w:World} (ha:vals args=some vs) (hT:Tabs.T (P:=P) w) (h:zag P f args [] (fun _ r=>∃v,val r=some v/\Q v)) :
  Calls P f vs.toArray w fun e w'=>∃v,e=.returned v/\Q v/\Qb w w':=by
 haveI:On P ⟨w,fun _=>False,fun g o v=>w.cell? ⟨g,o,none⟩=some v,Gh.none⟩:=⟨hT,fun _ h=>h⟩
 have hd:=(zbw Gh.none (fun g o v=>w.cell? ⟨g,o,none⟩=some v) args vs ha vs).2 rfl;have hc:=h ⟨w,fun _=>False,fun g o v=>w.cell? ⟨g,o,none⟩=some v,Gh.none⟩ Gh.none (fun g o v=>w.cell? ⟨g,o,none⟩=some v) w
  ⟨rfl,rfl,rfl,zd _,fun _ _ _=>rfl,fun _ _ _ h=>h,fun _ _ _ h=>.inl h,fun b g hb=>by simp[Gh.own,Gh.none] at hb,Gh.le.refl _⟩
  ⟨fun _ _ _ h=>h,by simp,by simp,by simp,fun b b' g hb=>by simp[Gh.own,Gh.none] at hb,fun b g hb=>by simp[Gh.own,Gh.none] at hb,fun b g o v hb=>by simp[Gh.own,Gh.none] at hb,fun b _=>⟨rfl,rfl⟩⟩ vs hd
 refine hc.mono ?_;rintro e w' ⟨y,objs',r,G',I',rfl,⟨v,hv,hq⟩,_,_,hin,_,hy⟩;rw[(zdS _ _ r v hv y).1 hy];exact⟨v,rfl,hq,hin.os,hin.tape,hin.output,hin.size,fun k hk=>hin.block k hk (fun h=>h)⟩
def zim (l:List UInt8) (v:Value):Prop:=match zb1 l with|some n=>v=.tuple #[.int .i64 (n:Nat),.bool true] | none=>∃x,v=.tuple #[.int .i64 x,.bool false]
theorem zjd [Tabs Try.prog] (s:List UInt8) (a:Nat) (ha:a<=9000000000000000000) (hs:s.length<=140737488351232) (w:World) (hT:Tabs.T (P:=Try.prog) w) :
  Calls Try.prog 77 #[.string (S s),.int .i64 (a:Nat)] w fun e w'=>∃v,e=.returned v/\zim (s.drop a) v/\Qb w w' :=
 zgc (args:=[.s s,.i .i64 (a:Nat)]) rfl hT (runit_k s a ha hs (by
  unfold zim
  cases zb1 (s.drop a) with
  | some n=>exact⟨_,rfl,rfl⟩
  | none=>exact fun x=>⟨_,rfl,x,rfl⟩))
def za5 (s:List UInt8) (a:Nat):List UInt8×Int×Int:=if (zdy (s.drop a)).1=0 then ((zdy (s.drop a)).2.1,((a+(zdy (s.drop a)).2.2:Nat):Int),0) else ([],0,(zdy (s.drop a)).1)
def tokEscV (r:List UInt8×Int×Int):Value:=.tuple #[.string (S r.1),.int .i64 r.2.1,.int .i64 r.2.2]
def zaF:ByteArray:=⟨#[34,92,47,98,102,110,114,116]⟩
theorem zgi [Tabs Try.prog] (b:ByteArray) (a:Nat) (x:Int) (hx:x=(a:Nat)) (ha:a<=9000000000000000000) (hs:b.size<=140737488351232) (w:World) (hT:Tabs.T (P:=Try.prog) w) :
  Calls Try.prog 77 #[.string b,.int .i64 x] w fun e w'=>∃v,e=.returned v/\zim (b.data.toList.drop a) v/\Qb w w':=by
 subst hx;have h:=zjd b.data.toList a ha (by rw[zap];exact hs) w hT;rw[S_of b] at h;exact h
def zeG:List UInt8:=[34,92,47,98,102,110,114,116]
def zlD:List UInt8:=[34,92,47,8,12,10,13,9]
theorem codes_ok:∀i:Fin 8,zdX (zeG.getD i.val 0)=some (zlD.getD i.val 0):=by decide +kernel
theorem codes_no (c:UInt8) (h:∀j,j<8->zeG.getD j 0≠c):zdX c=none:=by
 have key:∀n:Fin 256,zdX (UInt8.ofNat n.val)=none\/∃i:Fin 8,zeG.getD i.val 0=UInt8.ofNat n.val:=by decide +kernel
 have h2:=key ⟨c.toNat,c.toNat_lt⟩;simp only[UInt8.ofNat_toNat] at h2;rcases h2 with h2|⟨i,h2⟩
 ·exact h2
 ·exact absurd h2 (h i.val i.isLt)
theorem zcc (b:ByteArray) (a k:Nat) (hk:k<8) (h:a+1<b.size) (hx:zeG.getD k 0=b[a+1]):za5 b.data.toList a=([zlD.getD k 0],((a+2:Nat):Int),0):=by
 have he:zdy (b.data.toList.drop a)=(0,[zlD.getD k 0],2):=by
  unfold zdy;rw[zec,zk (by rw[zap];exact h),Option.bind_some,show b.data.toList[a+1]'(by rw[zap];exact h)=zeG.getD k 0 from(zgN b (a+1) h).symm.trans hx.symm,codes_ok ⟨k,hk⟩]
 unfold za5;rw[he];rfl
theorem zlP [Tabs Try.prog] {w w':World} (hT:Tabs.T (P:=Try.prog) w) (hq:Qb w w'):Tabs.T (P:=Try.prog) w' :=
 Tabs.keep w w' hT (fun k hk=>hq.block k hk) hq.size
set_option maxRecDepth 1000000 in
set_option maxHeartbeats 4000000 in
theorem zgj [Tabs Try.prog] (b:ByteArray) (a:Nat) (ha:a<b.size) (hs:b.size<=140737488351232) (w:World) (hT:Tabs.T (P:=Try.prog) w) :
  Calls Try.prog 73 #[.string b,.int .i64 (a:Nat)] w fun e w'=>e=.returned (tokEscV (za5 b.data.toList a))/\Qb w w':=by
 by_cases c0:(a:Int)+1<b.size
 ·have c0':a+1<b.size:=by omega
  have HC:Hid (b[a+1]=b.data.toList[a+1]'(by rw[zap];exact c0')):=z9 (zgN b (a+1) c0');have HG:Hid (b.data.toList[a+1]? = some b[a+1]):=z9 (by rw[zk (by rw[zap];exact c0'),zgN b (a+1) c0']);have q1:IntKind.i64.wrap ((a:Int)+1)=(a:Int)+1:=IntWalk.i64_in _ (by omega);have q2:(0:Int)<=(a:Int)+1:=by omega
  have q3:((a:Int)+1).toNat=a+1:=by omega
  have q4:(a:Int)+1<b.size:=by omega
  go_enter Try.func73,Try.ntmps73
  go_wp2_with fail
  go_loopg [7] 8 (fun g _ wx=>∃i:Nat,i+g=8/\wx.heap[w.heap.size]? = some (.stringIter zaF i)/\Qb w wx/\Hid (∀j,j<i->zeG.getD j 0≠b[a+1]))
  case atStart=>exact⟨0,rfl,World.iter_heap _ _ _,(Qb.refl w).alloc _,z9 (fun j hj=>absurd hj (by omega))⟩
  case round=>
   obtain⟨i,hig,hk,hq,HN⟩:=hrel
   by_cases hi:i<8
   ·obtain⟨g,rfl⟩:∃g,gk=g+1:=⟨gk - 1,by omega⟩;have hcases:i=0\/i=1\/i=2\/i=3\/i=4\/i=5\/i=6\/i=7:=by omega
    rcases hcases with rfl|rfl|rfl|rfl|rfl|rfl|rfl|rfl
    ·have hnx:=fun ty=>xi (P:=Try.prog) wr w.heap.size zaF 0 ty hk (by decide) (by decide);have hk':=z9 (xj wr w.heap.size zaF 0 1 hk);have hq':Qb w (wr.iterAt w.heap.size zaF 1):=xk hq (zd _) zaF 1;clear hk
     by_cases hx:(34:UInt8)=b[a+1]
     ·have HE:=z9 (zcc b a 0 (by decide) c0' hx);have hd:∀x:Int,x=34->(x==((b[a+1].toNat:Nat):Int))=true:=by
       rintro x rfl;rw[<-hx];rfl
      clear hx
      go_wp2_with fail
      go_quiet (fail)
      rw[hd]
      rotate_left
      ·rfl
      go_wp2_with fail
      go_ret3
      exact⟨by rw[HE.out];rfl,hq'.drewN _⟩
     ·have HX:=z9 hx;have hd:∀x:Int,x=34->(x==((b[a+1].toNat:Nat):Int))=false:=by
       rintro x rfl;rw[beq_eq_false_iff_ne];intro h;have h2:(34:UInt8).toNat=b[a+1].toNat:=by
        have:(34:UInt8).toNat=34:=rfl;omega
       exact hx (UInt8.toNat_inj.1 h2)
      clear hx
      go_wp2_with fail
      go_quiet (fail)
      rw[hd]
      rotate_left
      ·rfl
      go_wp2_with fail
      go_roundg g
      case measure=>omega
      case rel=>exact⟨1,by omega,hk'.out,hq'.drewN _,z9 (fun j hj=>by
       rcases zh j 0 with h|h
       ·exact HN.out j h
       ·obtain rfl:j=0:=by omega
        exact HX.out)⟩
    ·have hnx:=fun ty=>xi (P:=Try.prog) wr w.heap.size zaF 1 ty hk (by decide) (by decide);have hk':=z9 (xj wr w.heap.size zaF 1 2 hk);have hq':Qb w (wr.iterAt w.heap.size zaF 2):=xk hq (zd _) zaF 2;clear hk
     by_cases hx:(92:UInt8)=b[a+1]
     ·have HE:=z9 (zcc b a 1 (by decide) c0' hx);have hd:∀x:Int,x=92->(x==((b[a+1].toNat:Nat):Int))=true:=by
       rintro x rfl;rw[<-hx];rfl
      clear hx
      go_wp2_with fail
      go_quiet (fail)
      rw[hd]
      rotate_left
      ·rfl
      go_wp2_with fail
      go_ret3
      exact⟨by rw[HE.out];rfl,hq'.drewN _⟩
     ·have HX:=z9 hx;have hd:∀x:Int,x=92->(x==((b[a+1].toNat:Nat):Int))=false:=by
       rintro x rfl;rw[beq_eq_false_iff_ne];intro h;have h2:(92:UInt8).toNat=b[a+1].toNat:=by
        have:(92:UInt8).toNat=92:=rfl;omega
       exact hx (UInt8.toNat_inj.1 h2)
      clear hx
      go_wp2_with fail
      go_quiet (fail)
      rw[hd]
      rotate_left
      ·rfl
      go_wp2_with fail
      go_roundg g
      case measure=>omega
      case rel=>exact⟨2,by omega,hk'.out,hq'.drewN _,z9 (fun j hj=>by
       rcases zh j 1 with h|h
       ·exact HN.out j h
       ·obtain rfl:j=1:=by omega
        exact HX.out)⟩
    ·have hnx:=fun ty=>xi (P:=Try.prog) wr w.heap.size zaF 2 ty hk (by decide) (by decide);have hk':=z9 (xj wr w.heap.size zaF 2 3 hk);have hq':Qb w (wr.iterAt w.heap.size zaF 3):=xk hq (zd _) zaF 3;clear hk
     by_cases hx:(47:UInt8)=b[a+1]
     ·have HE:=z9 (zcc b a 2 (by decide) c0' hx);have hd:∀x:Int,x=47->(x==((b[a+1].toNat:Nat):Int))=true:=by
       rintro x rfl;rw[<-hx];rfl
      clear hx
      go_wp2_with fail
      go_quiet (fail)
      rw[hd]
      rotate_left
      ·rfl
      go_wp2_with fail
      go_ret3
      exact⟨by rw[HE.out];rfl,hq'.drewN _⟩
     ·have HX:=z9 hx;have hd:∀x:Int,x=47->(x==((b[a+1].toNat:Nat):Int))=false:=by
       rintro x rfl;rw[beq_eq_false_iff_ne];intro h;have h2:(47:UInt8).toNat=b[a+1].toNat:=by
        have:(47:UInt8).toNat=47:=rfl;omega
       exact hx (UInt8.toNat_inj.1 h2)
      clear hx
      go_wp2_with fail
      go_quiet (fail)
      rw[hd]
      rotate_left
      ·rfl
      go_wp2_with fail
      go_roundg g
      case measure=>omega
      case rel=>exact⟨3,by omega,hk'.out,hq'.drewN _,z9 (fun j hj=>by
       rcases zh j 2 with h|h
       ·exact HN.out j h
       ·obtain rfl:j=2:=by omega
        exact HX.out)⟩
    ·have hnx:=fun ty=>xi (P:=Try.prog) wr w.heap.size zaF 3 ty hk (by decide) (by decide);have hk':=z9 (xj wr w.heap.size zaF 3 4 hk);have hq':Qb w (wr.iterAt w.heap.size zaF 4):=xk hq (zd _) zaF 4;clear hk
     by_cases hx:(98:UInt8)=b[a+1]
     ·have HE:=z9 (zcc b a 3 (by decide) c0' hx);have hd:∀x:Int,x=98->(x==((b[a+1].toNat:Nat):Int))=true:=by
       rintro x rfl;rw[<-hx];rfl
      clear hx
      go_wp2_with fail
      go_quiet (fail)
      rw[hd]
      rotate_left
      ·rfl
      go_wp2_with fail
      go_ret3
      exact⟨by rw[HE.out];rfl,hq'.drewN _⟩
     ·have HX:=z9 hx;have hd:∀x:Int,x=98->(x==((b[a+1].toNat:Nat):Int))=false:=by
       rintro x rfl;rw[beq_eq_false_iff_ne];intro h;have h2:(98:UInt8).toNat=b[a+1].toNat:=by
        have:(98:UInt8).toNat=98:=rfl;omega
       exact hx (UInt8.toNat_inj.1 h2)
      clear hx
      go_wp2_with fail
      go_quiet (fail)
      rw[hd]
      rotate_left
      ·rfl
      go_wp2_with fail
      go_roundg g
      case measure=>omega
      case rel=>exact⟨4,by omega,hk'.out,hq'.drewN _,z9 (fun j hj=>by
       rcases zh j 3 with h|h
       ·exact HN.out j h
       ·obtain rfl:j=3:=by omega
        exact HX.out)⟩
    ·have hnx:=fun ty=>xi (P:=Try.prog) wr w.heap.size zaF 4 ty hk (by decide) (by decide);have hk':=z9 (xj wr w.heap.size zaF 4 5 hk);have hq':Qb w (wr.iterAt w.heap.size zaF 5):=xk hq (zd _) zaF 5;clear hk
     by_cases hx:(102:UInt8)=b[a+1]
     ·have HE:=z9 (zcc b a 4 (by decide) c0' hx);have hd:∀x:Int,x=102->(x==((b[a+1].toNat:Nat):Int))=true:=by
       rintro x rfl;rw[<-hx];rfl
      clear hx
      go_wp2_with fail
      go_quiet (fail)
      rw[hd]
      rotate_left
      ·rfl
      go_wp2_with fail
      go_ret3
      exact⟨by rw[HE.out];rfl,hq'.drewN _⟩
     ·have HX:=z9 hx;have hd:∀x:Int,x=102->(x==((b[a+1].toNat:Nat):Int))=false:=by
       rintro x rfl;rw[beq_eq_false_iff_ne];intro h;have h2:(102:UInt8).toNat=b[a+1].toNat:=by
        have:(102:UInt8).toNat=102:=rfl;omega
       exact hx (UInt8.toNat_inj.1 h2)
      clear hx
      go_wp2_with fail
      go_quiet (fail)
      rw[hd]
      rotate_left
      ·rfl
      go_wp2_with fail
      go_roundg g
      case measure=>omega
      case rel=>exact⟨5,by omega,hk'.out,hq'.drewN _,z9 (fun j hj=>by
       rcases zh j 4 with h|h
       ·exact HN.out j h
       ·obtain rfl:j=4:=by omega
        exact HX.out)⟩
    ·have hnx:=fun ty=>xi (P:=Try.prog) wr w.heap.size zaF 5 ty hk (by decide) (by decide);have hk':=z9 (xj wr w.heap.size zaF 5 6 hk);have hq':Qb w (wr.iterAt w.heap.size zaF 6):=xk hq (zd _) zaF 6;clear hk
     by_cases hx:(110:UInt8)=b[a+1]
     ·have HE:=z9 (zcc b a 5 (by decide) c0' hx);have hd:∀x:Int,x=110->(x==((b[a+1].toNat:Nat):Int))=true:=by
       rintro x rfl;rw[<-hx];rfl
      clear hx
      go_wp2_with fail
      go_quiet (fail)
      rw[hd]
      rotate_left
      ·rfl
      go_wp2_with fail
      go_ret3
      exact⟨by rw[HE.out];rfl,hq'.drewN _⟩
     ·have HX:=z9 hx;have hd:∀x:Int,x=110->(x==((b[a+1].toNat:Nat):Int))=false:=by
       rintro x rfl;rw[beq_eq_false_iff_ne];intro h;have h2:(110:UInt8).toNat=b[a+1].toNat:=by
        have:(110:UInt8).toNat=110:=rfl;omega
       exact hx (UInt8.toNat_inj.1 h2)
      clear hx
      go_wp2_with fail
      go_quiet (fail)
      rw[hd]
      rotate_left
      ·rfl
      go_wp2_with fail
      go_roundg g
      case measure=>omega
      case rel=>exact⟨6,by omega,hk'.out,hq'.drewN _,z9 (fun j hj=>by
       rcases zh j 5 with h|h
       ·exact HN.out j h
       ·obtain rfl:j=5:=by omega
        exact HX.out)⟩
    ·have hnx:=fun ty=>xi (P:=Try.prog) wr w.heap.size zaF 6 ty hk (by decide) (by decide);have hk':=z9 (xj wr w.heap.size zaF 6 7 hk);have hq':Qb w (wr.iterAt w.heap.size zaF 7):=xk hq (zd _) zaF 7;clear hk
     by_cases hx:(114:UInt8)=b[a+1]
     ·have HE:=z9 (zcc b a 6 (by decide) c0' hx);have hd:∀x:Int,x=114->(x==((b[a+1].toNat:Nat):Int))=true:=by
       rintro x rfl;rw[<-hx];rfl
      clear hx
      go_wp2_with fail
      go_quiet (fail)
      rw[hd]
      rotate_left
      ·rfl
      go_wp2_with fail
      go_ret3
      exact⟨by rw[HE.out];rfl,hq'.drewN _⟩
     ·have HX:=z9 hx;have hd:∀x:Int,x=114->(x==((b[a+1].toNat:Nat):Int))=false:=by
       rintro x rfl;rw[beq_eq_false_iff_ne];intro h;have h2:(114:UInt8).toNat=b[a+1].toNat:=by
        have:(114:UInt8).toNat=114:=rfl;omega
       exact hx (UInt8.toNat_inj.1 h2)
      clear hx
      go_wp2_with fail
      go_quiet (fail)
      rw[hd]
      rotate_left
      ·rfl
      go_wp2_with fail
      go_roundg g
      case measure=>omega
      case rel=>exact⟨7,by omega,hk'.out,hq'.drewN _,z9 (fun j hj=>by
       rcases zh j 6 with h|h
       ·exact HN.out j h
       ·obtain rfl:j=6:=by omega
        exact HX.out)⟩
    ·have hnx:=fun ty=>xi (P:=Try.prog) wr w.heap.size zaF 7 ty hk (by decide) (by decide);have hk':=z9 (xj wr w.heap.size zaF 7 8 hk);have hq':Qb w (wr.iterAt w.heap.size zaF 8):=xk hq (zd _) zaF 8;clear hk
     by_cases hx:(116:UInt8)=b[a+1]
     ·have HE:=z9 (zcc b a 7 (by decide) c0' hx);have hd:∀x:Int,x=116->(x==((b[a+1].toNat:Nat):Int))=true:=by
       rintro x rfl;rw[<-hx];rfl
      clear hx
      go_wp2_with fail
      go_quiet (fail)
      rw[hd]
      rotate_left
      ·rfl
      go_wp2_with fail
      go_ret3
      exact⟨by rw[HE.out];rfl,hq'.drewN _⟩
     ·have HX:=z9 hx;have hd:∀x:Int,x=116->(x==((b[a+1].toNat:Nat):Int))=false:=by
       rintro x rfl;rw[beq_eq_false_iff_ne];intro h;have h2:(116:UInt8).toNat=b[a+1].toNat:=by
        have:(116:UInt8).toNat=116:=rfl;omega
       exact hx (UInt8.toNat_inj.1 h2)
      clear hx
      go_wp2_with fail
      go_quiet (fail)
      rw[hd]
      rotate_left
      ·rfl
      go_wp2_with fail
      go_roundg g
      case measure=>omega
      case rel=>exact⟨8,by omega,hk'.out,hq'.drewN _,z9 (fun j hj=>by
       rcases zh j 7 with h|h
       ·exact HN.out j h
       ·obtain rfl:j=7:=by omega
        exact HX.out)⟩
   ·have hnx:=fun ty=>Lib.run_next_end_at (P:=Try.prog) wr w.heap.size zaF i ty hk (by show ¬i<8;exact hi);have HS:Hid ((b.data.toList.drop a)[1]?.bind zdX=none):=z9 (by
     rw[zec,HG.out,Option.bind_some];exact codes_no _ (fun j hj=>HN.out j (by omega)))
    go_wp2_with fail
    refine(zgi b a a rfl (by omega) hs _ (zlP hT hq)).mono ?_;rintro e w1 ⟨v,rfl,hv,hq1⟩;have hq2:=hq.trans hq1;unfold zim at hv
    cases hu:zb1 (b.data.toList.drop a) with
    | none=>
     rw[hu] at hv;obtain⟨x,rfl⟩:=hv;have hE:za5 b.data.toList a=([],0,130):=by
      have:zdy (b.data.toList.drop a)=(130,[],0):=by unfold zdy;rw[HS.out,hu]
      unfold za5;rw[this];rfl
     go_wp2_with fail
     go_ret3
     exact⟨by rw[hE];rfl,hq2⟩
    | some n=>
     rw[hu] at hv;subst hv;have hul:=zbS hu;rw[zv,zap] at hul;have HU:=z9 hu;clear hu;have okE:∀(U Z:Nat),zcu n ((b.data.toList.drop a).drop 6)=(U,Z)->cpB (U:Int)=true->za5 b.data.toList a=(zcW U,((a+Z:Nat):Int),0):=by
      intro U Z h1 h2;have:=zk6 HS.out HU.out;rw[h1] at this;simp only at this;rw[if_pos h2] at this;unfold za5;rw[this];rfl
     have noE:∀(U Z:Nat),zcu n ((b.data.toList.drop a).drop 6)=(U,Z)->cpB (U:Int)=false->za5 b.data.toList a=([],0,7):=by
      intro U Z h1 h2;have:=zk6 HS.out HU.out;rw[h1] at this;simp only at this;rw[if_neg (by rw[h2];simp)] at this;unfold za5;rw[this];rfl
     have HO:=z9 okE;have HNo:=z9 noE;clear okE noE;have hq3:=zlP hT hq2;have HQ2:=z9 hq2;have b1:IntKind.i64.wrap ((a:Int)+6)=(a:Int)+6:=IntWalk.i64_in _ (by omega);have b2:IntKind.i64.wrap ((a:Int)+12)=(a:Int)+12:=IntWalk.i64_in _ (by omega);have encOk:∀U:Nat,cpB (U:Int)=true->∀wz,Calls Try.prog 78 #[.int .i64 (U:Nat)] wz fun e w'=>e=.returned (.tuple #[.string (S (zcW U)),.int .i64 0])/\Qb wz w':=by
      intro U hU wz;have:=zca (U:Nat) wz;unfold zfg at this;rw[if_pos hU,jc] at this;exact this
     by_cases c1:n<55296\/57343<n
     ·have hU:zcu n ((b.data.toList.drop a).drop 6)=(n,6):=by unfold zcu;rw[if_neg (show ¬(55296<=n/\n<56320) by omega)]
      have hcp:cpB (n:Int)=true:=decide_eq_true (by omega);have hE:=z9 (HO.out n 6 hU hcp);have hEn:=z9 (encOk n hcp);clear hU hcp encOk
      by_cases c2:n<55296
      ·have d1:decide ((n:Int)<55296)=true:=decide_eq_true (by omega);clear c1 c2 hul
       go_wp2_with fail
       refine(hEn.out _).mono ?_;rintro e w2 ⟨rfl,hq4⟩;have HE2:=hE.out;clear hE hEn;generalize zcW n=X at *;have HE3:=z9 HE2;clear HE2
       go_wp2_with fail
       go_ret3
       exact⟨by rw[HE3.out];rfl,HQ2.out.trans hq4⟩
      ·have d1:decide ((n:Int)<55296)=false:=decide_eq_false (by omega);have d2:decide ((57343:Int)<(n:Int))=true:=decide_eq_true (by omega);clear c1 c2 hul
       go_wp2_with fail
       refine(hEn.out _).mono ?_;rintro e w2 ⟨rfl,hq4⟩;have HE2:=hE.out;clear hE hEn;generalize zcW n=X at *;have HE3:=z9 HE2;clear HE2
       go_wp2_with fail
       go_ret3
       exact⟨by rw[HE3.out];rfl,HQ2.out.trans hq4⟩
     ·have d1:decide ((n:Int)<55296)=false:=decide_eq_false (by omega);have d2:decide ((57343:Int)<(n:Int))=false:=decide_eq_false (by omega);have C1:=z9 c1;have HL:=z9 hul;clear c1 hul
      go_wp2_with fail
      refine(zgi b (a+6) _ (by omega) (by omega) hs _ hq3).mono ?_;rintro e w2 ⟨v,rfl,hv,hq4⟩;have HQ5:=z9 (HQ2.out.trans hq4);unfold zim at hv;have hdd:(b.data.toList.drop a).drop 6=b.data.toList.drop (a+6):=qu;have hcn:=C1.out;have hln:=HL.out;have hne:cpB (n:Int)=false:=decide_eq_false (by omega)
      cases hu2:zb1 (b.data.toList.drop (a+6)) with
      | none=>
       rw[hu2] at hv;obtain⟨x,rfl⟩:=hv;have hU:zcu n ((b.data.toList.drop a).drop 6)=(n,6):=by unfold zcu;rw[hdd,hu2];simp
       have hE:=z9 (HNo.out n 6 hU hne);clear hU hcn hln hne hdd encOk
       by_cases c3:(56319:Int)<n
       ·have d3:decide ((56319:Int)<(n:Int))=true:=decide_eq_true c3;clear c3
        go_wp2_with fail
        go_ret3
        exact⟨by rw[hE.out];rfl,HQ5.out⟩
       ·have d3:decide ((56319:Int)<(n:Int))=false:=decide_eq_false c3;clear c3
        go_wp2_with fail
        go_ret3
        exact⟨by rw[hE.out];rfl,HQ5.out⟩
      | some m=>
       rw[hu2] at hv;subst hv;have hml:=(zbS hu2).2
       by_cases c3:(56319:Int)<n
       ·have hU:zcu n ((b.data.toList.drop a).drop 6)=(n,6):=by unfold zcu;rw[if_neg (show ¬(55296<=n/\n<56320) by omega)]
        have hE:=z9 (HNo.out n 6 hU hne);have d3:decide ((56319:Int)<(n:Int))=true:=decide_eq_true c3;clear hU hcn hln hne hdd encOk c3 hml hu2
        go_wp2_with fail
        go_ret3
        exact⟨by rw[hE.out];rfl,HQ5.out⟩
       have d3:decide ((56319:Int)<(n:Int))=false:=decide_eq_false c3
       by_cases c4:(m:Int)<56320
       ·have hU:zcu n ((b.data.toList.drop a).drop 6)=(n,6):=by
         unfold zcu;rw[hdd,hu2,if_pos (show 55296<=n/\n<56320 by omega)];simp only;rw[if_neg (by omega)]
        have hE:=z9 (HNo.out n 6 hU hne);have d4:decide ((m:Int)<56320)=true:=decide_eq_true c4;clear hU hcn hln hne hdd encOk c3 c4 hml hu2
        go_wp2_with fail
        go_ret3
        exact⟨by rw[hE.out];rfl,HQ5.out⟩
       have d4:decide ((m:Int)<56320)=false:=decide_eq_false c4
       by_cases c5:(57343:Int)<m
       ·have hU:zcu n ((b.data.toList.drop a).drop 6)=(n,6):=by
         unfold zcu;rw[hdd,hu2,if_pos (show 55296<=n/\n<56320 by omega)];simp only;rw[if_neg (by omega)]
        have hE:=z9 (HNo.out n 6 hU hne);have d5:decide ((57343:Int)<(m:Int))=true:=decide_eq_true c5;clear hU hcn hln hne hdd encOk c3 c4 c5 hml hu2
        go_wp2_with fail
        go_ret3
        exact⟨by rw[hE.out];rfl,HQ5.out⟩
       have d5:decide ((57343:Int)<(m:Int))=false:=decide_eq_false c5;have hU:zcu n ((b.data.toList.drop a).drop 6)=(65536+(n - 55296)*1024+(m - 56320),12):=by
        unfold zcu;rw[hdd,hu2,if_pos (show 55296<=n/\n<56320 by omega)];simp only;rw[if_pos (by omega)]
       have hcp:cpB ((65536+(n - 55296)*1024+(m - 56320):Nat):Int)=true:=decide_eq_true (by omega);have hE:=z9 (HO.out _ 12 hU hcp);have hEn:=z9 (encOk _ hcp);have e1:(n:Int) - 55296=((n - 55296:Nat):Int):=by omega
       have e2:((n - 55296:Nat):Int)*1024=(((n - 55296)*1024:Nat):Int):=by omega
       have e3:(65536:Int)+(((n - 55296)*1024:Nat):Int)=((65536+(n - 55296)*1024:Nat):Int):=by omega
       have e4:((65536+(n - 55296)*1024:Nat):Int)+(m:Int)=((65536+(n - 55296)*1024+m:Nat):Int):=by omega
       have e5:((65536+(n - 55296)*1024+m:Nat):Int) - 56320=((65536+(n - 55296)*1024+(m - 56320):Nat):Int):=by omega
       have hz:(65536:Int)+((n:Int) - 55296)*1024+(m:Int) - 56320=((65536+(n - 55296)*1024+(m - 56320):Nat):Int):=by omega
       have HZ:=z9 hz;clear hU hne hdd encOk c3 c4 c5 hu2 hcp e1 e2 e3 e4 e5 hz
       go_wp2_with fail
       rw[HZ.out];refine(hEn.out _).mono ?_;rintro e w3 ⟨rfl,hq6⟩;have HE2:=hE.out;clear hE hEn HZ;generalize zcW (65536+(n - 55296)*1024+(m - 56320))=X at *;have HE3:=z9 HE2;clear HE2 hcn hln hml
       go_wp2_with fail
       go_ret3
       exact⟨by rw[HE3.out];rfl,HQ5.out.trans hq6⟩
 ·go_enter Try.func73,Try.ntmps73
  have hu:zb1 (b.data.toList.drop a)=none:=by
   cases hu:zb1 (b.data.toList.drop a) with
   | none=>rfl
   | some n=>have:=(zbS hu).1;rw[zv,zap] at this;omega
  have hE:za5 b.data.toList a=([],0,130):=by
   have:zdy (b.data.toList.drop a)=(130,[],0):=by
    unfold zdy;rw[zec,zr (by rw[zap];omega),hu];rfl
   unfold za5;rw[this];rfl
  rw[hE]
  go_wp2_with fail
  refine(zgi b a a rfl (by omega) hs _ hT).mono ?_;rintro e w1 ⟨v,rfl,hv,hq⟩;unfold zim at hv;rw[hu] at hv;obtain⟨x,rfl⟩:=hv
  go_wp2_with fail
  go_ret3
  exact⟨rfl,hq⟩
section
variable [Tabs Try.prog] {objs:List OB} {K:List OB->AV->Prop}
theorem zje (s:List UInt8) (a:Nat) (ha:a<s.length) (hs:s.length<=140737488351232) (hk:K objs (.tup [.s (za5 s a).1,.i .i64 (za5 s a).2.1,.i .i64 (za5 s a).2.2])):zag Try.prog 73 [.s s,.i .i64 (a:Nat)] objs K :=
 convT (vs:=[.string (S s),.int .i64 (a:Nat)]) rfl rfl (fun w hT=>zgj (S s) a (by rw[zdA];exact ha) (by rw[zdA];exact hs) w hT) hk
set_option maxHeartbeats 4000000 in
theorem zis (s:List UInt8) (a:Nat) (hs:s.length<=140737488351232) (ha:a<s.length) (R:Int×List UInt8×Nat) (hR:zdT ((s.drop (a+1)).length+1) (s.drop (a+1)) [] 0=R)
  (h1:R.1≠0->K objs (.tup [.s [],.i .i64 0,.i .i64 R.1])) (h0:R.1=0->K objs (.tup [.s R.2.1,.i .i64 ((a+1+R.2.2:Nat):Int),.i .i64 0])):zag Try.prog 68 [.s s,.i .i64 (a:Nat)] objs K:=by
 refine zby is_ref13_text rfl fun C _=>?_;simp only[c_ref13_text,sxZ,z5,z6,z7,z8,j4,j5,j6,j7,j8,j9,x9,y3,y4,y5,y6,reduceCtorEq,↓reduceIte];refine⟨by omega,?_⟩;refine zaU (fun n o tm=>∃(i:Nat) (out:List UInt8) (m:Nat),i<=s.length/\a+1<=i/\n=s.length - i/\o=[]/\out.length<=i/\s.length - i<m/\zdT m (s.drop i) out (i - (a+1))=R/\tm.length=70/\tm[0]? = some (.s s)/\tm[7]? = some (.s out)/\tm[8]? = some (.i .i64 (i:Nat))) (s.length - (a+1))
  ⟨a+1,[],(s.drop (a+1)).length+1,ha,zd _,rfl,rfl,zo _,by rw[zv];omega,by rw[Nat.sub_self];exact hR,rfl,rfl,rfl,rfl⟩ ?_
 rintro n _ tm ⟨i,out,m,hi,hai,rfl,rfl,ho,hm,hT,hlen,t0,t7,t8⟩;obtain⟨m,rfl⟩:∃m',m=m'+1:=⟨m - 1,by omega⟩
 by_cases hlt:(i:Int)<s.length
 ·have hlt':i<s.length:=by omega
  have hg:=zaP hlt';have hdc:=jn hlt'
  by_cases c1:((s[i].toNat:Nat):Int)=34
  ·have hc:s[i]=34:=(zc2 (by decide)).1 c1;rw[hdc,zdT,if_pos hc] at hT;subst hT;have h0:=h0 rfl;rw[show a+1+(i - (a+1)+1)=i+1 by omega] at h0;simp only[hlt,hg,c1,sxZ,z5,z6,z7,z8,j4,j5,j6,j7,j8,j9,x9,y3,y4,y5,y6,reduceCtorEq,↓reduceIte,z4,hlen,t0,t7,t8];exact⟨by omega,by omega,h0⟩
  ·have hc:¬s[i]=34:=fun h=>c1 ((zc2 (by decide)).2 h)
   by_cases c2:((s[i].toNat:Nat):Int)=92
   ·have hc2:s[i]=92:=(zc2 (by decide)).1 c2;rw[hdc,zdT,if_neg hc,if_pos hc2,<-hdc] at hT;simp only[hlt,hg,c1,c2,sxZ,z5,z6,z7,z8,j4,j5,j6,j7,j8,j9,x9,y3,y4,y5,y6,reduceCtorEq,↓reduceIte,z4,hlen,t0,t7,t8];refine⟨by omega,by omega,?_⟩;refine zam (zje s i hlt' hs ?_);unfold za5;generalize hq:zdy (s.drop i)=q at *;obtain⟨e,x,m'⟩:=q;simp only at hT
    by_cases c3:e=0
    ·subst c3;rw[if_neg (by simp)] at hT;have hl:=zhP hq;rw[zv] at hl;simp only[sxZ,z5,z6,z7,z8,j4,j5,j6,j7,j8,j9,x9,y3,y4,y5,y6,reduceCtorEq,↓reduceIte,z4,hlen,t0,t7,t8];exact⟨by omega,s.length - (i+m'),by omega,i+m',out++x,m,by omega,by omega,rfl,by rw[zq];omega,by omega,by rw[<-qu,show i+m' - (a+1)=i - (a+1)+m' by omega];exact hT,rfl,rfl⟩
    ·rw[if_pos c3] at hT;subst hT;simp only[c3,sxZ,z5,z6,z7,z8,j4,j5,j6,j7,j8,j9,x9,y3,y4,y5,y6,reduceCtorEq,↓reduceIte,z4,hlen,t0,t7,t8];exact h1 c3
   ·have hc2:¬s[i]=92:=fun h=>c2 ((zc2 (by decide)).2 h);rw[hdc,zdT,if_neg hc,if_neg hc2,<-hdc] at hT
    by_cases c4:((s[i].toNat:Nat):Int)<32
    ·rw[if_pos (by omega)] at hT;subst hT;simp only[hlt,hg,c1,c2,c4,sxZ,z5,z6,z7,z8,j4,j5,j6,j7,j8,j9,x9,y3,y4,y5,y6,reduceCtorEq,↓reduceIte,z4,hlen,t0,t7,t8];exact⟨by omega,by omega,by omega,h1 (by decide)⟩
    ·rw[if_neg (by omega)] at hT;simp only[hlt,hg,c1,c2,c4,sxZ,z5,z6,z7,z8,j4,j5,j6,j7,j8,j9,x9,y3,y4,y5,y6,reduceCtorEq,↓reduceIte,z4,hlen,t0,t7,t8];refine⟨by omega,by omega,by omega,?_⟩;refine zam (zir s i hs ?_);rw[zlw hlt']
     cases hd:zdz (s.drop i) with
     | none=>
      rw[hd] at hT;simp only at hT;subst hT;simp only[sxZ,z5,z6,z7,z8,j4,j5,j6,j7,j8,j9,x9,y3,y4,y5,y6,reduceCtorEq,↓reduceIte,z4,hlen,t0,t7,t8];exact h1 (by decide)
     | some q=>
      obtain⟨r,m'⟩:=q;rw[hd] at hT;simp only at hT;have gg:m'<=(s.drop i).length/\1<=m':=⟨(zcn hd).2.2.1,(zcn hd).2.2.2.1⟩;have hxl:((s.drop i).take m').length<=m':=by rw[qd];omega
      rw[zv] at gg;simp only[sxZ,z5,z6,z7,z8,j4,j5,j6,j7,j8,j9,x9,y3,y4,y5,y6,reduceCtorEq,↓reduceIte,z4,hlen,t0,t7,t8];rw[zdV];exact⟨by omega,by omega,s.length - (i+m'),by omega,i+m',out++(s.drop i).take m',m,by omega,by omega,rfl,by rw[zq];omega,by omega,by rw[<-qu,show i+m' - (a+1)=i - (a+1)+m' by omega];exact hT,rfl,rfl⟩
 ·obtain rfl:i=s.length:=by omega
  rw[xf,zdT] at hT;subst hT;simp only[sxZ,z5,z6,z7,z8,j4,j5,j6,j7,j8,j9,x9,y3,y4,y5,y6,reduceCtorEq,↓reduceIte,z4,hlen,t0,t7,t8,hlt];exact h1 (by decide)
end
theorem zeZ {P:Program} [Tabs P] {C:Cx} {F:zaE} {k:List IT} {objs:List OB} {tm:List AV} {c:SV} {x y:SCode} (h:c.ev tm=.b true) (hr:run P C (.code x::k) objs tm F):run P C (.code (.cond c x y)::k) objs tm F:=by
 rw[ze1,h,kC_t];exact hr
theorem ze0 {P:Program} [Tabs P] {C:Cx} {F:zaE} {k:List IT} {objs:List OB} {tm:List AV} {c:SV} {x y:SCode} (h:c.ev tm=.b false) (hr:run P C (.code y::k) objs tm F):run P C (.code (.cond c x y)::k) objs tm F:=by
 rw[ze1,h,kC_f];exact hr
section
variable [Tabs Try.prog] {objs:List OB} {K:List OB->AV->Prop}
set_option maxHeartbeats 4000000 in
theorem zit (s:List UInt8) (a:Int) (hs:s.length<=140737488351232) (hk:K objs (zkc (za3 s a))):zag Try.prog 54 [.s s,.i .i64 a] objs K:=by
 refine zby is_ref13_Next rfl fun C _=>?_;unfold za3 zkc at hk
 by_cases c0:a<0
 ·rw[if_pos (.inl c0)] at hk;simp only[c0,c_ref13_Next,sxZ,z5,z6,z7,z8,j4,j5,j6,j7,j8,j9,x9,y3,y4,y5,y6,reduceCtorEq,↓reduceIte];exact hk
 by_cases c1:(s.length:Int)<a
 ·rw[if_pos (.inr c1)] at hk;simp only[c0,c1,c_ref13_Next,sxZ,z5,z6,z7,z8,j4,j5,j6,j7,j8,j9,x9,y3,y4,y5,y6,reduceCtorEq,↓reduceIte];exact hk
 rw[if_neg (by omega)] at hk;obtain⟨a,rfl⟩:∃n:Nat,a=n:=⟨a.toNat,by omega⟩;rw[jc] at hk;rw[c_ref13_Next];refine zaa fun Y1 hY1=>?_;simp only[sxZ,z5,z6,z7,z8,j4,j5,j6,j7,j8,j9,x9,y3,y4,y5,y6,reduceCtorEq,↓reduceIte];subst hY1;refine zaa fun Y1 hY1=>?_;simp only[c0,c1,sxZ,z5,z6,z7,z8,j4,j5,j6,j7,j8,j9,x9,y3,y4,y5,y6,reduceCtorEq,↓reduceIte];subst hY1;refine zaa fun Y1 hY1=>?_;have hwl:=zdR (s.drop a);rw[zv] at hwl;refine zaz (fun o t=>o=[.box 59 [.i .i64 0,.s [],.i .i64 0]]/\t.length=139/\t[0]? = some (.s s)/\t[1]? = some (.i .i64 ((a+za7 (s.drop a):Nat):Int))/\t[4]? = some (.p 0 0)) ?_ ?_
 ·simp only[sxZ,z5,z6,z7,z8,j4,j5,j6,j7,j8,j9,x9,y3,y4,y5,y6,reduceCtorEq,↓reduceIte];refine zaU (fun n objs tm=>∃i:Nat,i<=s.length/\n=s.length - i/\objs=[.box 59 [.i .i64 0,.s [],.i .i64 0]]/\a+za7 (s.drop a)=i+za7 (s.drop i)/\tm.length=139/\tm[0]? = some (.s s)/\tm[1]? = some (.i .i64 i)/\tm[4]? = some (.p 0 0)) (s.length - a) ⟨a,by omega,rfl,rfl,rfl,rfl,rfl,rfl,rfl⟩ ?_;rintro n _ tm ⟨i,hil,rfl,rfl,hr,hlen,t0,t1,t4⟩
  by_cases hlt2:(i:Int)<s.length
  ·have hlt':i<s.length:=by omega
   have hg2:=zaP hlt';have hrn:=white_at s i hlt';simp only[sxZ,z5,z6,z7,z8,j4,j5,j6,j7,j8,j9,x9,y3,y4,y5,y6,reduceCtorEq,↓reduceIte,z4,hlen,t0,t1,t4,hlt2];refine⟨by omega,?_⟩;rw[hg2];refine zam (rwhite_k s[i] ?_)
   by_cases hd:zfd s[i]=true
   ·rw[if_pos hd] at hrn;simp only[hd,sxZ,z5,z6,z7,z8,j4,j5,j6,j7,j8,j9,x9,y3,y4,y5,y6,reduceCtorEq,↓reduceIte,z4,hlen,t0,t1,t4];exact⟨⟨by omega,by omega⟩,s.length - (i+1),by omega,i+1,by omega,rfl,by omega,rfl⟩
   ·rw[if_neg hd] at hrn;simp only[Bool.not_eq_true] at hd;simp only[hd,zbi,zab,sxZ,z5,z6,z7,z8,j4,j5,j6,j7,j8,j9,x9,y3,y4,y5,y6,reduceCtorEq,↓reduceIte,z4,hlen,t0,t1,t4];rw[hr,hrn];rfl
  ·obtain rfl:i=s.length:=by omega
   have hw:za7 (s.drop s.length)=0:=by rw[xf];rfl
   simp only[hlt2,zbi,zab,sxZ,z5,z6,z7,z8,j4,j5,j6,j7,j8,j9,x9,y3,y4,y5,y6,reduceCtorEq,↓reduceIte,z4,hlen,t0,t1,t4];rw[hr,hw];rfl
 rintro _ tm ⟨rfl,hlen,t0,t1,t4⟩;subst hY1;have ha:a+za7 (s.drop a)<=s.length:=by omega
 generalize a+za7 (s.drop a)=i at *;have h1:∀e x n k,zbj (s.drop i)=(e,k,x,n)->e≠0->K objs (.tup [.agg [.i .i64 0,.s [],.i .i64 0],.i .i64 0,.i .i64 e]):=by
  intro e x n k h he;rw[h,if_pos he] at hk;exact hk
 have h0:∀x n k,zbj (s.drop i)=(0,k,x,n)->K objs (.tup [.agg [.i .i64 k,.s x,.i .i64 (i:Nat)],.i .i64 ((i+n:Nat):Int),.i .i64 0]):=by
  intro x n k h;rw[h,if_neg (by simp)] at hk;exact hk
 clear hk c0 c1;refine zaa fun Y1 hY1=>?_
 by_cases c0:(i:Int)=s.length
 ·obtain rfl:i=s.length:=by omega
  have:=h0 [] 0 1 (by rw[xf];rfl);simp only[c0,sxZ,z5,z6,z7,z8,j4,j5,j6,j7,j8,j9,x9,y3,y4,y5,y6,reduceCtorEq,↓reduceIte,z4,hlen,t0,t1,t4];exact this
 have hlt:i<s.length:=by omega
 have hg:=zaP hlt;have hdc:=jn hlt;simp only[c0,sxZ,z5,z6,z7,z8,j4,j5,j6,j7,j8,j9,x9,y3,y4,y5,y6,reduceCtorEq,↓reduceIte,z4,hlen,t0,t1,t4];subst hY1;refine zaa fun Y1 hY1=>?_;refine zaa fun Y2 hY2=>?_;refine zaz (fun o t=>o=[.box 59 [.i .i64 0,.s [],.i .i64 0]]/\t.length=139/\t[0]? = some (.s s)/\t[1]? = some (.i .i64 (i:Nat))/\t[4]? = some (.p 0 0)/\t[7]? = some (.i .u8 (s[i].toNat:Nat))) ?_ ?_
 ·simp only[hg,zab,sxZ,z5,z6,z7,z8,j4,j5,j6,j7,j8,j9,x9,y3,y4,y5,y6,reduceCtorEq,↓reduceIte,z4,hlen,t0,t1,t4]
  and_intros<;>first|omega|exact iv (by omega)|rfl|assumption
 rintro _ tm ⟨rfl,hlen,t0,t1,t4,t7⟩;subst hY2;rw[za8];refine zaa fun Y2 hY2=>?_;refine zaz (fun o t=>o=[.box 59 [.i .i64 0,.s [],.i .i64 0]]/\t.length=139/\t[0]? = some (.s s)/\t[1]? = some (.i .i64 (i:Nat))/\t[4]? = some (.p 0 0)/\t[7]? = some (.i .u8 (s[i].toNat:Nat))/\t[45]? = some (.b (zcF s[i] [123,125,91,93,58,44]))) ?_ ?_
 ·simp only[sxZ,z5,z6,z7,z8,j4,j5,j6,j7,j8,j9,x9,y3,y4,y5,y6,reduceCtorEq,↓reduceIte,z4,hlen,t0,t1,t4,t7];refine zam (zfJ s[i] _ (by decide) ?_);simp only[zab,sxZ,z5,z6,z7,z8,j4,j5,j6,j7,j8,j9,x9,y3,y4,y5,y6,reduceCtorEq,↓reduceIte,z4,hlen,t0,t1,t4,t7]
 rintro _ tm ⟨rfl,hlen,t0,t1,t4,t7,t45⟩;subst hY2
 by_cases c1:zcF s[i] [123,125,91,93,58,44]=true
 ·have hx:(s.take (i+1)).drop i=[s[i]]:=by rw[zdV,hdc];rfl
  have e1:((i:Int)+1).toNat=i+1:=by omega
  have:=h0 [s[i]] 1 2 (by rw[hdc,zbj,if_pos c1]);refine zeZ (by simp only[SV.ev,t45,zx,c1]) ?_;simp only[e1,hx,sxZ,z5,z6,z7,z8,j4,j5,j6,j7,j8,j9,x9,y3,y4,y5,y6,reduceCtorEq,↓reduceIte,z4,hlen,t0,t1,t4,t7]
  (and_intros<;>try omega)
  exact this
 refine ze0 (by rw[Bool.not_eq_true] at c1;simp only[SV.ev,t45,zx,c1]) ?_;refine zaa fun Y2 hY2=>?_;refine zaz (fun o t=>o=[.box 59 [.i .i64 0,.s [],.i .i64 0]]/\t.length=139/\t[0]? = some (.s s)/\t[1]? = some (.i .i64 (i:Nat))/\t[4]? = some (.p 0 0)/\t[7]? = some (.i .u8 (s[i].toNat:Nat))/\t[57]? = some (.b (decide (((s[i].toNat:Nat):Int)=34)))) ?_ ?_
 ·simp only[zab,sxZ,z5,z6,z7,z8,j4,j5,j6,j7,j8,j9,x9,y3,y4,y5,y6,reduceCtorEq,↓reduceIte,z4,hlen,t0,t1,t4,t7]
 rintro _ tm ⟨rfl,hlen,t0,t1,t4,t7,t57⟩;subst hY2
 by_cases c2:((s[i].toNat:Nat):Int)=34
 ·have hc:s[i]=34:=(zc2 (by decide)).1 c2;refine zeZ (by simp only[SV.ev,t57,zx,c2,decide_true]) ?_;have he:zbj (s.drop i)=if (zdT ((s.drop (i+1)).length+1) (s.drop (i+1)) [] 0).1≠0 then ((zdT ((s.drop (i+1)).length+1) (s.drop (i+1)) [] 0).1,0,[],0) else (0,3,(zdT ((s.drop (i+1)).length+1) (s.drop (i+1)) [] 0).2.1,(zdT ((s.drop (i+1)).length+1) (s.drop (i+1)) [] 0).2.2+1):=by
   rw[hdc,zbj,if_neg c1,if_pos hc]
  obtain⟨TT,hTT⟩:∃TT,zdT ((s.drop (i+1)).length+1) (s.drop (i+1)) [] 0=TT:=⟨_,rfl⟩;rw[hTT] at he;simp only[sxZ,z5,z6,z7,z8,j4,j5,j6,j7,j8,j9,x9,y3,y4,y5,y6,reduceCtorEq,↓reduceIte,z4,hlen,t0,t1,t4,t7];refine zam (zis s i hs hlt TT hTT (fun hR=>?_) (fun hR=>?_))
  ·rw[if_pos hR] at he;have:=h1 _ _ _ _ he hR;simp only[hR,sxZ,z5,z6,z7,z8,j4,j5,j6,j7,j8,j9,x9,y3,y4,y5,y6,reduceCtorEq,↓reduceIte,z4,hlen,t0,t1,t4,t7];exact this
  ·rw[if_neg (by rw[hR];simp)] at he;have:=h0 _ _ _ he;simp only[sxZ,z5,z6,z7,z8,j4,j5,j6,j7,j8,j9,x9,y3,y4,y5,y6,reduceCtorEq,↓reduceIte,z4,hlen,t0,t1,t4,t7];rw[show i+(TT.2.2+1)=i+1+TT.2.2 by omega] at this;exact this
 have hc:¬s[i]=34:=fun h=>c2 ((zc2 (by decide)).2 h);refine ze0 (by simp only[SV.ev,t57,zx,c2,decide_false]) ?_;refine zaa fun Y2 hY2=>?_;refine zaz (fun o t=>o=[.box 59 [.i .i64 0,.s [],.i .i64 0]]/\t.length=139/\t[0]? = some (.s s)/\t[1]? = some (.i .i64 (i:Nat))/\t[4]? = some (.p 0 0)/\t[7]? = some (.i .u8 (s[i].toNat:Nat))/\t[75]? = some (.b (decide (s[i]=45\/zas s[i]=true)))) ?_ ?_
 ·by_cases c3:((s[i].toNat:Nat):Int)=45
  ·have hc3:s[i]=45\/zas s[i]=true:=.inl ((zc2 (by decide)).1 c3);simp only[c3,hc3,zab,sxZ,z5,z6,z7,z8,j4,j5,j6,j7,j8,j9,x9,y3,y4,y5,y6,reduceCtorEq,↓reduceIte,z4,hlen,t0,t1,t4,t7]
  ·have hc3:¬s[i]=45:=fun h=>c3 ((zc2 (by decide)).2 h);simp only[c3,sxZ,z5,z6,z7,z8,j4,j5,j6,j7,j8,j9,x9,y3,y4,y5,y6,reduceCtorEq,↓reduceIte,z4,hlen,t0,t1,t4,t7];refine zam (zd5 s[i] ?_);have e3:decide (s[i]=45\/zas s[i]=true)=zas s[i]:=by
    cases zas s[i]<;>simp[hc3]
   rw[e3];generalize zas s[i]=dg;simp only[zab,sxZ,z5,z6,z7,z8,j4,j5,j6,j7,j8,j9,x9,y3,y4,y5,y6,reduceCtorEq,↓reduceIte,z4,hlen,t0,t1,t4,t7]
 rintro _ tm ⟨rfl,hlen,t0,t1,t4,t7,t75⟩;subst hY2
 by_cases c3:s[i]=45\/zas s[i]=true
 ·refine zeZ (by simp only[SV.ev,t75,zx,c3,decide_true]) ?_;have he:zbj (s.drop i)=if zdH (s.drop i)=0 then (130,0,[],0) else (0,4,(s.drop i).take (zdH (s.drop i)),zdH (s.drop i)):=by
   conv=>lhs;rw[hdc]
   rw[zbj,if_neg c1,if_neg hc,if_pos c3,<-hdc]
  have hnl:=zkb (s.drop i);rw[zv] at hnl;simp only[sxZ,z5,z6,z7,z8,j4,j5,j6,j7,j8,j9,x9,y3,y4,y5,y6,reduceCtorEq,↓reduceIte,z4,hlen,t0,t1,t4,t7];refine⟨by omega,?_⟩;refine zam (zes _ (by rw[zv];omega) ?_);generalize zdH (s.drop i)=n at *
  by_cases c4:((n:Nat):Int)=0
  ·rw[if_pos (by omega)] at he;have:=h1 _ _ _ _ he (by decide);simp only[c4,sxZ,z5,z6,z7,z8,j4,j5,j6,j7,j8,j9,x9,y3,y4,y5,y6,reduceCtorEq,↓reduceIte,z4,hlen,t0,t1,t4,t7];exact this
  ·rw[if_neg (by omega)] at he;have:=h0 _ _ _ he;have e2:((i:Int)+(n:Int)).toNat=i+n:=by omega
   simp only[c4,e2,sxZ,z5,z6,z7,z8,j4,j5,j6,j7,j8,j9,x9,y3,y4,y5,y6,reduceCtorEq,↓reduceIte,z4,hlen,t0,t1,t4,t7];rw[zdV]
   (and_intros<;>try omega)
   exact this
 refine ze0 (by simp only[SV.ev,t75,zx,c3,decide_false]) ?_;have he:zbj (s.drop i)=if (s.drop i).take (zbv (s.drop i))=[116,114,117,101]\/(s.drop i).take (zbv (s.drop i))=[102,97,108,115,101]\/(s.drop i).take (zbv (s.drop i))=[110,117,108,108] then (0,5,(s.drop i).take (zbv (s.drop i)),zbv (s.drop i)) else (130,0,[],0):=by
  conv=>lhs;rw[hdc]
  rw[zbj,if_neg c1,if_neg hc,if_neg c3,<-hdc]
 have hwl2:=zeQ (s.drop i);rw[zv] at hwl2;simp only[sxZ,z5,z6,z7,z8,j4,j5,j6,j7,j8,j9,x9,y3,y4,y5,y6,reduceCtorEq,↓reduceIte];subst hY1;refine zaa fun Y1 hY1=>?_;simp only[sxZ,z5,z6,z7,z8,j4,j5,j6,j7,j8,j9,x9,y3,y4,y5,y6,reduceCtorEq,↓reduceIte];subst hY1;refine zaa fun Y1 hY1=>?_;refine zaz (fun o t=>o=[.box 59 [.i .i64 0,.s [],.i .i64 0]]/\t.length=139/\t[0]? = some (.s s)/\t[1]? = some (.i .i64 (i:Nat))/\t[4]? = some (.p 0 0)/\t[12]? = some (.i .i64 (zbv (s.drop i):Nat))) ?_ ?_
 ·simp only[sxZ,z5,z6,z7,z8,j4,j5,j6,j7,j8,j9,x9,y3,y4,y5,y6,reduceCtorEq,↓reduceIte];refine zaU (fun n o t=>∃k:Nat,i+k<=s.length/\n=s.length - (i+k)/\zbv (s.drop i)=k+zbv (s.drop (i+k))/\o=[.box 59 [.i .i64 0,.s [],.i .i64 0]]/\t.length=139/\t[0]? = some (.s s)/\t[1]? = some (.i .i64 (i:Nat))/\t[4]? = some (.p 0 0)/\t[12]? = some (.i .i64 (k:Nat))) (s.length - i) ⟨0,by omega,rfl,by simp,rfl,by simp[hlen],by simp[t0],by simp[t1],by simp[t4],by simp[hlen]⟩ ?_;rintro n _ tm ⟨k,hk,rfl,hr,rfl,hlen,t0,t1,t4,t12⟩;have e1:((i:Int)+(k:Int)).toNat=i+k:=by omega
  by_cases hlt2:(i:Int)+(k:Int)<s.length
  ·have hlt':i+k<s.length:=by omega
   have hg2:=zaP hlt';have hrn:=word_at s (i+k) hlt';simp only[e1,hg2,hlt2,sxZ,z5,z6,z7,z8,j4,j5,j6,j7,j8,j9,x9,y3,y4,y5,y6,reduceCtorEq,↓reduceIte,z4,hlen,t0,t1,t4,t12];refine⟨by omega,by omega,by omega,?_⟩;refine zam (zjH s[i+k] ?_)
   by_cases hd:zdi s[i+k]=true
   ·rw[if_pos hd] at hrn;simp only[hd,sxZ,z5,z6,z7,z8,j4,j5,j6,j7,j8,j9,x9,y3,y4,y5,y6,reduceCtorEq,↓reduceIte,z4,hlen,t0,t1,t4,t12];exact⟨by omega,s.length - (i+(k+1)),by omega,k+1,by omega,rfl,by rw[<-Nat.add_assoc];omega,rfl⟩
   ·rw[if_neg hd] at hrn;simp only[Bool.not_eq_true] at hd;simp only[hd,zbi,zab,sxZ,z5,z6,z7,z8,j4,j5,j6,j7,j8,j9,x9,y3,y4,y5,y6,reduceCtorEq,↓reduceIte,z4,hlen,t0,t1,t4,t12];rw[hr,hrn];rfl
  ·have hie:i+k=s.length:=by omega
   have hw:zbv (s.drop (i+k))=0:=by rw[hie,xf];rfl
   simp only[hlt2,zbi,zab,sxZ,z5,z6,z7,z8,j4,j5,j6,j7,j8,j9,x9,y3,y4,y5,y6,reduceCtorEq,↓reduceIte,z4,hlen,t0,t1,t4,t12];refine⟨by omega,?_⟩;rw[hr,hw];rfl
 rintro _ tm ⟨rfl,hlen,t0,t1,t4,t12⟩;subst hY1;have hx:=zdV s i (zbv (s.drop i));generalize zbv (s.drop i)=n at *;rw[<-hx] at he;have e2:((i:Int)+(n:Int)).toNat=i+n:=by omega
 have n1:¬([102,97,108,115,101]:List UInt8)=[116,114,117,101]:=by decide
 have n2:¬([110,117,108,108]:List UInt8)=[116,114,117,101]:=by decide
 have n3:¬([110,117,108,108]:List UInt8)=[102,97,108,115,101]:=by decide
 refine zaa fun Y1 hY1=>?_;refine zaa fun Y2 hY2=>?_;refine zaz (fun o t=>o=[.box 59 [.i .i64 0,.s [],.i .i64 0]]/\t.length=139/\t[1]? = some (.i .i64 (i:Nat))/\t[4]? = some (.p 0 0)/\t[12]? = some (.i .i64 (n:Nat))/\t[13]? = some (.s ((s.take (i+n)).drop i))) ?_ ?_
 ·simp only[e2,zab,sxZ,z5,z6,z7,z8,j4,j5,j6,j7,j8,j9,x9,y3,y4,y5,y6,reduceCtorEq,↓reduceIte,z4,hlen,t0,t1,t4,t12]
  and_intros<;>first|omega|exact iv (by omega)|rfl|assumption
 rintro _ tm ⟨rfl,hlen,t1,t4,t12,t13⟩;subst hY2;generalize (s.take (i+n)).drop i=x at *
 by_cases hw:x=[116,114,117,101]\/x=[102,97,108,115,101]\/x=[110,117,108,108]
 ·rw[if_pos hw] at he;have:=h0 _ _ _ he;rcases hw with rfl|rfl|rfl
  ·simp only[sxZ,z5,z6,z7,z8,j4,j5,j6,j7,j8,j9,x9,y3,y4,y5,y6,reduceCtorEq,↓reduceIte,z4,hlen,t1,t4,t12,t13]
   (and_intros<;>try omega)
   exact this
  ·simp only[n1,sxZ,z5,z6,z7,z8,j4,j5,j6,j7,j8,j9,x9,y3,y4,y5,y6,reduceCtorEq,↓reduceIte,z4,hlen,t1,t4,t12,t13]
   (and_intros<;>try omega)
   exact this
  ·simp only[n2,n3,sxZ,z5,z6,z7,z8,j4,j5,j6,j7,j8,j9,x9,y3,y4,y5,y6,reduceCtorEq,↓reduceIte,z4,hlen,t1,t4,t12,t13]
   (and_intros<;>try omega)
   exact this
 ·rw[if_neg hw] at he;have:=h1 _ _ _ _ he (by decide);have d1:¬x=[116,114,117,101]:=fun h=>hw (.inl h);have d2:¬x=[102,97,108,115,101]:=fun h=>hw (.inr (.inl h));have d3:¬x=[110,117,108,108]:=fun h=>hw (.inr (.inr h));simp only[d1,d2,d3,sxZ,z5,z6,z7,z8,j4,j5,j6,j7,j8,j9,x9,y3,y4,y5,y6,reduceCtorEq,↓reduceIte,z4,hlen,t1,t4,t12,t13];subst hY1;simp only[sxZ,z5,z6,z7,z8,j4,j5,j6,j7,j8,j9,x9,y3,y4,y5,y6,reduceCtorEq,↓reduceIte,z4,hlen,t1,t4,t12,t13];exact this
end
section
attribute [local irreducible] run
def intN (l:List UInt8):List UInt8:=if l[zbl l]? = some 48 then [48] else (l.drop (zbl l)).take (zaY (l.drop (zbl l)))
def frN (l:List UInt8) (t:Nat):List UInt8:=if l[t]? = some 46/\0<zaY (l.drop (t+1)) then (l.drop (t+1)).take (zaY (l.drop (t+1))) else []
def sgnX (l:List UInt8) (f:Nat):List UInt8:=if l[f+1]? = some 43 then [43] else if l[f+1]? = some 45 then [45] else []
def exN (l:List UInt8) (f:Nat):Option (UInt8×List UInt8×List UInt8) :=
 if (l[f]? = some 101\/l[f]? = some 69)/\0<zaY (l.drop (zbc l f)) then some (if l[f]? = some 101 then 101 else 69,sgnX l f,l.drop (zbc l f)) else none
def zhd (l:List UInt8):NumS:=⟨decide (l[0]? = some 45),intN l,frN l (zaV l),exN l (zb6 l (zaV l))⟩
theorem zjV {l:List UInt8} (h0:l≠[]) (h:zdH l=l.length):(zhd l).Good/\l=(zhd l).txt:=by
 have hl:0<l.length:=jx.2 h0;unfold zdH at h
 by_cases hr:zaY (l.drop (zbl l))=0
 ·rw[if_pos hr] at h;omega
 rw[if_neg hr] at h;have hsg:l=sgT (decide (l[0]? = some 45))++l.drop (zbl l):=by
  unfold zbl sgT
  by_cases hc:l[0]? = some 45
  ·rw[if_pos hc,if_pos (by rw[hc];rfl)]
   conv=>lhs;rw[<-List.drop_zero (l:=l),za4 hc]
   rfl
  ·rw[if_neg hc,if_neg (by rw[decide_eq_false hc];exact Bool.false_ne_true)];simp
 have hrl:=zaX l (zbl l) (by omega);obtain⟨I,hIe,hI0,hI1,hI2,hIl,hI⟩:∃I:List UInt8,I=intN l/\I≠[]/\I.all zas=true/\(I[0]? = some 48->I=[48])/\zaV l<=l.length/\l.drop (zbl l)=I++l.drop (zaV l):=by
  have hd:=zc9 (l.drop (zbl l)) 0 (by omega);obtain⟨c,hc1,hc2⟩:=hd;rw[qx,qp] at hc1;have hdc:=za4 hc1;unfold zaV
  by_cases hz:l[zbl l]? = some 48
  ·rw[if_pos hz];refine⟨[48],by unfold intN;rw[if_pos hz],by simp,rfl,fun _=>rfl,?_,?_⟩
   ·have:=(za.1 hz).1;omega
   ·exact za4 hz
  ·rw[if_neg hz];refine⟨(l.drop (zbl l)).take (zaY (l.drop (zbl l))),by unfold intN;rw[if_neg hz],zeT (by omega) (zc8 _),zbD _,?_,hrl,?_⟩
   ·intro h1;exfalso;rw[List.getElem?_take,if_pos (by omega),qx,qp] at h1;exact hz h1
   ·have:=zdO l (show zbl l<=zbl l+zaY (l.drop (zbl l)) by omega);rw[show zbl l+zaY (l.drop (zbl l)) - zbl l=zaY (l.drop (zbl l)) by omega] at this;exact this
 unfold zhd;rw[<-hIe];clear hIe;generalize zaV l=t at *;obtain⟨F,hFe,hF1,hFl,hF⟩:∃F:List UInt8,F=frN l t/\F.all zas=true/\zb6 l t<=l.length/\l.drop t=frT F++l.drop (zb6 l t):=by
  unfold zb6
  by_cases hc:l[t]? = some 46/\0<zaY (l.drop (t+1))
  ·rw[if_pos hc];have hb:=zaX l (t+1) hc.2;refine⟨(l.drop (t+1)).take (zaY (l.drop (t+1))),by unfold frN;rw[if_pos hc],zbD _,hb,?_⟩;have h1:=zdO l (show t+1<=t+1+zaY (l.drop (t+1)) by omega);rw[show t+1+zaY (l.drop (t+1)) - (t+1)=zaY (l.drop (t+1)) by omega] at h1;have hne:=zeT hc.2 (zc8 (l.drop (t+1)));rw[za4 hc.1];generalize (l.drop (t+1)).take (zaY (l.drop (t+1)))=F at *
   cases F with
   | nil=>exact absurd rfl hne
   | cons a F=>
    show 46::l.drop (t+1)=46::(a::F++_);rw[<-h1]
  ·rw[if_neg hc];exact⟨[],by unfold frN;rw[if_neg hc],rfl,hIl,rfl⟩
 rw[<-hFe];clear hFe;generalize zb6 l t=f at *;obtain⟨E,hEe,hE1,hE⟩:∃E:Option (UInt8×List UInt8×List UInt8),E=exN l f/\(∀c s d,E=some (c,s,d)->(c=101\/c=69)/\(s=[]\/s=[43]\/s=[45])/\d≠[]/\d.all zas=true)/\l.drop f=exT E:=by
  unfold expN at h
  by_cases hc:(l[f]? = some 101\/l[f]? = some 69)/\0<zaY (l.drop (zbc l f))
  ·rw[if_pos hc] at h;have hex:exN l f=some (if l[f]? = some 101 then 101 else 69,sgnX l f,l.drop (zbc l f)):=by unfold exN;rw[if_pos hc]
   obtain⟨c,hc1,hc2,hc3⟩:∃c,l[f]? = some c/\(c=101\/c=69)/\(if l[f]? = some 101 then 101 else 69)=c:=by
    rcases hc.1 with h1|h1
    ·exact⟨_,h1,.inl rfl,by rw[if_pos h1]⟩
    ·exact⟨_,h1,.inr rfl,by rw[h1];rfl⟩
   rw[hc3] at hex;have hdig:l.drop (zbc l f)≠[]/\(l.drop (zbc l f)).all zas=true:=by
    have h1:=zbD (l.drop (zbc l f));have h2:zaY (l.drop (zbc l f))=(l.drop (zbc l f)).length:=by rw[zv];omega
    rw[h2,List.take_length] at h1;refine⟨fun e=>?_,h1⟩;rw[e] at hc;exact absurd hc.2 (by simp[zaY])
   rw[za4 hc1];unfold zbc at hdig hc hex
   by_cases hs:l[f+1]? = some 43\/l[f+1]? = some 45
   ·rw[if_pos hs] at hdig hex;obtain⟨s,hs1,hs2,hs3⟩:∃s,l[f+1]? = some s/\(s=43\/s=45)/\sgnX l f=[s]:=by
     unfold sgnX;rcases hs with h1|h1
     ·exact⟨_,h1,.inl rfl,by rw[if_pos h1]⟩
     ·exact⟨_,h1,.inr rfl,by rw[h1];rfl⟩
    refine⟨some (c,[s],l.drop (f+2)),by rw[hex,hs3],?_,?_⟩
    ·intro c' s' d' e;injection e with e;injection e with e1 e2;injection e2 with e2 e3
     subst e1 e2 e3;exact⟨hc2,by rcases hs2 with rfl|rfl<;>simp,hdig.1,hdig.2⟩
    ·rw[za4 hs1];rfl
   ·rw[if_neg hs] at hdig hex;have hs3:sgnX l f=[]:=by
     unfold sgnX;rw[if_neg (fun h=>hs (.inl h)),if_neg (fun h=>hs (.inr h))]
    refine⟨some (c,[],l.drop (f+1)),by rw[hex,hs3],?_,rfl⟩;intro c' s' d' e;injection e with e;injection e with e1 e2;injection e2 with e2 e3
    subst e1 e2 e3;exact⟨hc2,.inl rfl,hdig.1,hdig.2⟩
  ·rw[if_neg hc] at h;subst h;exact⟨none,by unfold exN;rw[if_neg hc],fun _ _ _ e=>(by cases e),by simp[exT]⟩
 rw[<-hEe];refine⟨⟨hI0,hI1,hI2,hF1,hE1⟩,?_⟩;show l=sgT _++(I++(frT F++exT E));rw[<-hE,<-hF,<-hI,<-hsg]
def zbW (l:List UInt8):Int×List UInt8:=if l=[]\/¬zdH l=l.length then (130,[]) else canP 1099511627776 (zhd l)
theorem numE_of {p:NumS} (hp:p.Good):zbW p.txt=canP 1099511627776 p:=by
 obtain⟨h1,h2⟩:=num_txt hp;unfold zbW;rw[if_neg (fun h=>h.elim h2 (fun h=>h h1))];obtain⟨q1,q2⟩:=zjV h2 h1;exact congrArg _ (num_uniq hp q1 q2).symm
theorem can_cut2 (p:NumS) (h:p.txt.length<=1048576):canP 1099511627776 p=canP 1073741824 p:=by
 have h1:=zi1 p;have h2:=zhn p;have h3:=zR_len (zdh p);unfold canP
 by_cases hm:zdh p=[]
 ·rw[if_pos hm,if_pos hm]
 rw[if_neg hm,if_neg hm]
 by_cases he:zeb 1099511627776 p.ex=zeb 1073741824 p.ex
 ·have:expX 1099511627776 p=expX 1073741824 p:=by unfold expX;rw[he]
  rw[this]
 ·have key:(zeb 1099511627776 p.ex < -100000000/\zeb 1073741824 p.ex < -100000000)\/(100000000<zeb 1099511627776 p.ex/\100000000<zeb 1073741824 p.ex):=by
   cases hx:p.ex with
   | none=>rw[hx] at he;exact absurd rfl he
   | some e=>
    obtain⟨c,s,d⟩:=e;rw[hx] at he;simp only[zeb] at he ⊢
    by_cases hs:s=[45]
    ·rw[if_pos hs,if_pos hs] at he ⊢;left;omega
    ·rw[if_neg hs,if_neg hs] at he ⊢;right;omega
  rw[if_pos,if_pos]
  ·unfold expX;omega
  ·unfold expX;omega
theorem zeS:∀(n:Nat) (l out x:List UInt8) (k m:Nat),zdT n l out k=(0,x,m)->k<m/\m<=k+l.length/\x.length<=out.length+(m - k)
 | 0,l,out,x,k,m,h=>by rw[zdT] at h;cases h
 | n+1,[],out,x,k,m,h=>by rw[zdT] at h;cases h
 | n+1,c::t,out,x,k,m,h=>by
  rw[zdT] at h;have hl:(c::t).length=t.length+1:=rfl
  split at h
  ·cases h;exact⟨by omega,by omega,by omega⟩
  ·split at h
   ·split at h
    ·rename_i g;injection h with h _;exact absurd h g
    ·rename_i g;have g:(zdy (c::t)).1=0:=by simpa using g
     obtain⟨⟨e,y,j⟩,hE⟩:∃r,zdy (c::t)=r:=⟨_,rfl⟩;rw[hE] at h g;simp only at g h;subst g;have hl2:=zhP hE;have:=zeS n _ _ _ _ _ h;rw[zv,zq] at this;omega
   ·split at h
    ·cases h
    ·split at h
     ·cases h
     ·rename_i r j hd;have hd':=zcn hd;have:=zeS n _ _ _ _ _ h;rw[zv,zq,qd] at this;omega
theorem zjF {l:List UInt8} (h:(zbj l).1=0):(zbj l).2.2.2<=l.length/\(¬(zbj l).2.1=1->1<=(zbj l).2.2.2)/\((zbj l).2.1=1->l=[])/\(zbj l).2.2.1.length<=l.length/\1<=(zbj l).2.1/\(zbj l).2.1<=5:=by
 cases l with
 | nil=>exact⟨by simp[zbj],fun h=>absurd rfl h,fun _=>rfl,by simp[zbj],by decide,by decide⟩
 | cons c t=>
  have hl:(c::t).length=t.length+1:=rfl;rw[zbj] at h ⊢
  by_cases c1:zcF c [123,125,91,93,58,44]=true
  ·simp only[if_pos c1];exact⟨by simp,fun _=>by simp,fun h=>by simp at h,by simp,by decide,by decide⟩
  simp only[if_neg c1] at h ⊢
  by_cases c2:c=34
  ·simp only[if_pos c2] at h ⊢
   by_cases c3:(zdT (t.length+1) t [] 0).1≠0
   ·simp only[if_pos c3] at h;exact absurd h c3
   ·simp only[if_neg c3] at h ⊢;obtain⟨⟨e,x,m⟩,hE⟩:∃r,zdT (t.length+1) t [] 0=r:=⟨_,rfl⟩;have c3:e=0:=by rw[hE] at c3;simpa using c3
    subst c3;have:=zeS _ _ _ _ _ _ hE;rw[qo] at this;rw[hE];exact⟨by show m+1<=_;omega,fun _=>by show 1<=m+1;omega,fun h=>by simp at h,by show x.length<=_;omega,by decide,by decide⟩
  simp only[if_neg c2] at h ⊢
  by_cases c3:c=45\/zas c=true
  ·simp only[if_pos c3] at h ⊢
   by_cases c4:zdH (c::t)=0
   ·simp only[if_pos c4] at h;cases h
   ·simp only[if_neg c4] at h ⊢;have:=zkb (c::t);exact⟨by show zdH (c::t)<=_;omega,fun _=>by show 1<=zdH (c::t);omega,fun h=>by simp at h,by show (List.take _ _).length<=_;rw[qd];omega,by decide,by decide⟩
  simp only[if_neg c3] at h ⊢
  split at h
  ·rename_i c4;rw[if_pos c4];have hw:=zeQ (c::t);refine⟨hw,fun _=>?_,fun h=>by simp at h,by show (List.take _ _).length<=_;rw[qd];omega,by show (1:Int)<=5;decide,by show (5:Int)<=5;decide⟩;show 1<=zbv (c::t);rcases Nat.eq_zero_or_pos (zbv (c::t)) with h0|h0
   ·rw[h0] at c4;simp at c4
   ·exact h0
  ·cases h
theorem zhj {s:List UInt8} {a:Int} (h0:0<=a) (h:(za3 s a).2.2=0) :
  (a<=(za3 s a).2.1/\(za3 s a).2.1<=s.length/\((za3 s a).1.1≠1->a<(za3 s a).2.1)/\((za3 s a).1.1=1->(za3 s a).2.1=s.length))/\(za3 s a).1.2.1.length<=s.length/\1<=(za3 s a).1.1/\(za3 s a).1.1<=5/\0<=(za3 s a).1.2.2/\(za3 s a).1.2.2<=s.length:=by
 unfold za3 at h ⊢
 by_cases c1:a<0\/(s.length:Int)<a
 ·simp only[if_pos c1] at h;cases h
 simp only[if_neg c1] at h ⊢;obtain⟨x,hx⟩:=Int.eq_ofNat_of_zero_le h0;subst hx;simp only[jc] at h ⊢;have hw:=zdR (s.drop x);rw[zv] at hw;generalize hA:x+za7 (s.drop x)=A at *
 by_cases c2:(zbj (s.drop A)).1≠0
 ·simp only[if_pos c2] at h;exact absurd h c2
 simp only[if_neg c2];have c2:(zbj (s.drop A)).1=0:=by simpa using c2
 obtain⟨r1,r2,r3,r4,r5,r6⟩:=zjF c2;rw[zv] at r1 r4;refine⟨⟨?_,?_,?_,?_⟩,?_,r5,r6,?_,?_⟩
 ·show (x:Int)<=((A+_:Nat):Int);omega
 ·show ((A+_:Nat):Int)<=_;omega
 ·intro h;have:=r2 h;show (x:Int)<((A+_:Nat):Int);omega
 ·intro h;have h1:=r3 h;have h2:=congrArg List.length h1;rw[zv,qo] at h2;show ((A+_:Nat):Int)=_;omega
 ·show (zbj (s.drop A)).2.2.1.length<=_;omega
 ·show (0:Int)<=((A:Nat):Int);omega
 ·show ((A:Nat):Int)<=_;omega
theorem next_lt {s:List UInt8} {a:Int} (h0:0<=a) (h:(za3 s a).2.2=0):a<=(za3 s a).2.1/\(za3 s a).2.1<=s.length/\((za3 s a).1.1≠1->a<(za3 s a).2.1)/\((za3 s a).1.1=1->(za3 s a).2.1=s.length):=(zhj h0 h).1
section
variable [Tabs Try.prog] [Pow Try.prog] {objs:List OB} {K:List OB->AV->Prop}
omit [Pow Try.prog] in
theorem zji (s:List UInt8) (hs:s.length<=1048576) (hk:K objs (.tup [.s (zbW s).2,.i .i64 (zbW s).1])):zag Try.prog 50 [.s s] objs K :=
 zjh s (by omega) (fun h=>by unfold zbW at hk;rw[if_pos (by simpa using h)] at hk;exact hk) (fun p hp e=>by subst e;rw[numE_of hp,can_cut2 p hs] at hk;exact hk)
end
end
section
attribute [local irreducible] run
inductive JV where
 | mk (k:Int) (t:List UInt8) (ks:List (List UInt8)) (its:List JV)
def jvZ:JV:=.mk 0 [] [] []
abbrev Tk:=Int×List UInt8×Int
def tkZ:Tk:=(0,[],0)
def isP (t:Tk) (c:UInt8):Bool:=decide (t.1=2)&&decide (t.2.1=[c])
def trueL:List UInt8:=[116,114,117,101]
def zk5:List UInt8:=[102,97,108,115,101]
def zel (l:List UInt8):Int:=if l=trueL then 3 else if l=zk5 then 2 else 1
def vkE (t:Tk):Int :=
 if t.1=3 then 5 else if t.1=4 then 4 else if isP t 91=true then 6 else if isP t 123=true then 7 else if ¬t.1=5 then 0 else zel t.2.1
structure Fr where
 obj:Bool
 ks:List (List UInt8)
 its:List JV
structure Ms where
 st:Int
 stk:List Fr
 nodes:Nat
 root:JV
def Fr.val (f:Fr):JV:=.mk (if f.obj=true then 7 else 6) [] f.ks f.its
structure Rs where
 pos:Int
 nodes:Nat
 fail:Int
 wh:Int
def zaI (ρ:Rs) (a e:Int):Rs:=if ρ.fail=0 then ⟨ρ.pos,ρ.nodes,e,a⟩ else ρ
def zal (s:List UInt8) (ρ:Rs):Tk×Rs :=
 if ¬ρ.fail=0 then (tkZ,ρ)
 else if ¬(za3 s ρ.pos).2.2=0 then (tkZ,zaI ρ ρ.pos (za3 s ρ.pos).2.2)
 else ((za3 s ρ.pos).1,⟨(za3 s ρ.pos).2.1,ρ.nodes,ρ.fail,ρ.wh⟩)
def zaR (ρ:Rs) (t:Tk) (c:UInt8):Rs:=if ρ.fail=0/\isP t c=false then zaI ρ t.2.2 140 else ρ
def zcC (s:List UInt8) (val:Rs->Tk->JV×Rs):Nat->Rs->Tk->List JV->List JV×Rs
 | 0,ρ,_,acc=>(acc,ρ)
 | n+1,ρ,t,acc=>
  if ¬ρ.fail=0 then (acc,ρ) else
  let a:=val ρ t
  let b:=zal s a.2
  if isP b.1 93=true then (acc++[a.1],b.2) else
  let c:=zal s (zaR b.2 b.1 44)
  zcC s val n c.2 c.1 (acc++[a.1])
def zjB (ρ:Rs) (t:Tk) (ks:List (List UInt8)):Rs :=
 let ρ:=if ¬t.1=3 then zaI ρ t.2.2 140 else ρ
 if t.2.1∈ks then zaI ρ t.2.2 143 else ρ
def zb9 (s:List UInt8) (val:Rs->Tk->JV×Rs):Nat->Rs->Tk->List (List UInt8)->List JV->(List (List UInt8)×List JV)×Rs
 | 0,ρ,_,ks,its=>((ks,its),ρ)
 | n+1,ρ,t,ks,its=>
  if ¬ρ.fail=0 then ((ks,its),ρ) else
  let a:=zal s (zjB ρ t ks)
  let b:=zal s (zaR a.2 a.1 58)
  let v:=val b.2 b.1
  let c:=zal s v.2
  if isP c.1 125=true then ((ks++[t.2.1],its++[v.1]),c.2) else
  let d:=zal s (zaR c.2 c.1 44)
  zb9 s val n d.2 d.1 (ks++[t.2.1]) (its++[v.1])
def ze2 (s:List UInt8) (val:Rs->Tk->JV×Rs) (ρ:Rs):JV×Rs :=
 let a:=zal s ρ
 if isP a.1 93=true then (.mk 6 [] [] [],a.2) else
 let b:=zcC s val (s.length+2) a.2 a.1 []
 (.mk 6 [] [] b.1,b.2)
def zfs (s:List UInt8) (val:Rs->Tk->JV×Rs) (ρ:Rs):JV×Rs :=
 let a:=zal s ρ
 if isP a.1 125=true then (.mk 7 [] [] [],a.2) else
 let b:=zb9 s val (s.length+2) a.2 a.1 [] []
 (.mk 7 [] b.1.1 b.1.2,b.2)
def zbg (ρ:Rs) (t:Tk):Rs :=
 let ρ:=if t.1=4/\¬(zbW t.2.1).1=0 then zaI ρ t.2.2 (zbW t.2.1).1 else ρ
 if 20000<ρ.nodes+1 then zaI ⟨ρ.pos,ρ.nodes+1,ρ.fail,ρ.wh⟩ t.2.2 142 else ⟨ρ.pos,ρ.nodes+1,ρ.fail,ρ.wh⟩
def zay (s:List UInt8):Nat->Rs->Tk->Nat->JV×Rs
 | 0,ρ,_,_=>(jvZ,ρ)
 | f+1,ρ,t,d=>
  if ¬ρ.fail=0 then (jvZ,ρ)
  else if vkE t=0 then (jvZ,zaI ρ t.2.2 140)
  else if t.1=2/\d=64 then (jvZ,zaI ρ t.2.2 141)
  else if t.1=5 then (.mk (zel t.2.1) [] [] [],zbg ρ t)
  else if isP t 91=true then ze2 s (fun ρ t=>zay s f ρ t (d+1)) (zbg ρ t)
  else if isP t 123=true then zfs s (fun ρ t=>zay s f ρ t (d+1)) (zbg ρ t)
  else if t.1=4 then (.mk 4 (zbW t.2.1).2 [] [],zbg ρ t)
  else (.mk 5 t.2.1 [] [],zbg ρ t)
def rs0:Rs:=⟨0,0,0,0⟩
def zcw (s:List UInt8):JV×Int×Int :=
 if 1048576<s.length then (jvZ,0,142) else
 let a:=zal s rs0
 let v:=zay s 65 a.2 a.1 0
 let b:=zal s v.2
 let ρ:=if b.2.fail=0/\¬b.1.1=1 then zaI b.2 b.1.2.2 140 else b.2
 if ¬ρ.fail=0 then (jvZ,ρ.wh,ρ.fail) else (v.1,s.length,0)
def ziP (ρ ρ':Rs):Prop:=¬ρ.fail=0->ρ'.fail=ρ.fail/\ρ'.wh=ρ.wh
theorem ziP.refl (ρ:Rs):ziP ρ ρ:=fun _=>⟨rfl,rfl⟩
theorem ziP.trans {a b c:Rs} (h:ziP a b) (k:ziP b c):ziP a c:=fun ha=>by
 obtain⟨h1,h2⟩:=h ha;obtain⟨k1,k2⟩:=k (by rw[h1];exact ha);exact⟨k1.trans h1,k2.trans h2⟩
theorem ziu (ρ:Rs) (a e:Int):ziP ρ (zaI ρ a e):=fun h=>by unfold zaI;rw[if_neg h];exact⟨rfl,rfl⟩
theorem zbz (s:List UInt8) (ρ:Rs):ziP ρ (zal s ρ).2:=fun h=>by unfold zal;rw[if_pos h];exact⟨rfl,rfl⟩
theorem zc6 (ρ:Rs) (t:Tk) (c:UInt8):ziP ρ (zaR ρ t c):=by
 unfold zaR;split
 ·exact ziu _ _ _
 ·exact ziP.refl _
theorem zgh (s:List UInt8) (f:Nat) (ρ:Rs) (t:Tk) (d:Nat):ziP ρ (zay s f ρ t d).2:=fun h=>by
 cases f with
 | zero=>exact⟨rfl,rfl⟩
 | succ f=>rw[zay,if_pos h];exact⟨rfl,rfl⟩
theorem vk_val (t:Tk):vkE t=0\/vkE t=1\/vkE t=2\/vkE t=3\/vkE t=4\/vkE t=5\/vkE t=6\/vkE t=7:=by
 unfold vkE zel
 repeat' split
 all_goals simp
theorem vk_kind {t:Tk}:(vkE t=5↔t.1=3)/\(vkE t=4↔t.1=4)/\((vkE t=1\/vkE t=2\/vkE t=3)↔t.1=5)/\(vkE t=6↔isP t 91=true)/\(vkE t=7↔isP t 123=true)/\(t.1=5->vkE t=zel t.2.1):=by
 have e1:∀c,isP t c=true↔t.1=2/\t.2.1=[c]:=fun c=>by simp[isP]
 have hw:zel t.2.1=1\/zel t.2.1=2\/zel t.2.1=3:=by
  unfold zel
  by_cases a1:t.2.1=trueL
  ·rw[if_pos a1];exact .inr (.inr rfl)
  ·rw[if_neg a1]
   by_cases a2:t.2.1=zk5
   ·rw[if_pos a2];exact .inr (.inl rfl)
   ·rw[if_neg a2];exact .inl rfl
 unfold vkE;simp only[e1]
 by_cases h3:t.1=3
 ·simp[h3]
 by_cases h4:t.1=4
 ·simp[h4]
 by_cases h6:t.1=2/\t.2.1=[91]
 ·simp[h6]
 by_cases h7:t.1=2/\t.2.1=[123]
 ·simp[h7]
 by_cases h5:t.1=5
 ·simp only[h5];rcases hw with h|h|h<;>simp[h]
 ·simp only[h3,h4,h6,h7,h5];simp
def ValFroz (val:Rs->Tk->JV×Rs):Prop:=∀ρ t,ziP ρ (val ρ t).2
theorem zhK {t:Tk} {c:UInt8} (h:isP t c=true):t.1=2/\t.2.1=[c]:=by
 simpa[isP] using h
end
end Go.Proofs.Ytceenajkieomoaa
namespace Go.Proofs.Ytceenajkieomoaa.Sx
open Go.RowKit
def zbr (b gen n:Nat) (xs:List AV):AV->AV
 | .orow b' g'=>if b'=b/\g'=gen then .row n xs else .orow b' g'
 | x=>x
def zge (b gen n:Nat) (xs:List AV):OB->OB
 | .box T cs=>.box T (cs.map (zbr b gen n xs))
 | x=>x
def zjO (objs:List OB) (b gen n:Nat) (xs:List AV):List OB:=(objs.map (zge b gen n xs)).set b .dead
def zf8 (G:Gh) (b gen:Nat):Gh:=⟨G.blk,fun x=>if x=b then some (gen+1,.slice none 0 0) else G.cur x⟩
theorem zgo {G:Gh} {b gen:Nat} {v:Value} (h:G.cur b=some (gen,v)):G.le (zf8 G b gen) where
 blk:=fun _ _ h=>h
 cur:=fun x n w hx=>by
  by_cases hb:x=b
  ·subst hb;rw[h] at hx;injection hx with hx;injection hx with h1 h2
   exact⟨gen+1,.slice none 0 0,by simp[zf8],.inr (by omega)⟩
  ·exact⟨n,w,by simp[zf8,hb,hx],.inl ⟨rfl,rfl⟩⟩
theorem zcR {G:Gh} {b gen:Nat} (hb:G.blk b=none) {x g:Nat} (h:(zf8 G b gen).own x=some g):x≠b/\G.own x=some g:=by
 by_cases hx:x=b
 ·subst hx;exfalso;unfold Gh.own zf8 at h;simp only[hb] at h;simp[Value.ownBlock] at h
 ·refine⟨hx,?_⟩;unfold Gh.own zf8 at h;simp only[if_neg hx] at h;exact h
def pubI (I:Imm) (G:Gh) (b:Nat) (w:World):Imm:=fun g o v=>I g o v\/(w.cell? ⟨g,o,none⟩=some v/\G.own b=some g)
theorem zls {G:Gh} {I:Imm} {objs:List OB} {w:World} (hm:MemOk G I objs w) {b E sz gen n:Nat} {xs:List AV} (hb:objs[b]? = some (.orow E sz gen n xs)) (x:AV) (y:Value) (h:Den G I x y):Den (zf8 G b gen) (pubI I G b w) (zbr b gen n xs x) y:=by
 obtain⟨v',vs,m1,m2,m3,m4,m5⟩:=hm.row b E sz gen n xs hb;have hG:=zgo m1;have hI:Imm.le I (pubI I G b w):=fun _ _ _ h=>.inl h;have other:zbr b gen n xs x=x->Den (zf8 G b gen) (pubI I G b w) (zbr b gen n xs x) y:=fun e=>by rw[e];exact Den.mono hG hI x y h
 cases x with
 | orow b' g'=>
  by_cases hh:b'=b/\g'=gen
  ·obtain⟨rfl,rfl⟩:=hh;have e:zbr b' g' n xs (.orow b' g')=.row n xs:=by simp[zbr]
   rw[e];simp only[Den] at h ⊢;obtain⟨g0,v,k1,k2,k3,_⟩:=h;rw[k1] at m1;injection m1 with m1;injection m1 with m1 m6
   have hv:=k3 m1.symm;subst m1 m6 hv;have hown:=za9 m5 k1;have q1:=zae.mono hG hI xs vs m3;rcases m2.2 with ⟨rfl,rfl⟩|⟨g,cap,cur,rfl,hx1,hx2,hx3,hx4⟩
   ·have hvs:vs=[]:=List.eq_nil_of_length_eq_zero (by simpa using m2.1);subst hvs;exact⟨none,0,[],rfl,⟨Nat.le_refl _,by intro _ e;cases e⟩,q1,by simp,by simp⟩
   ·refine⟨some ⟨g,0,none⟩,cap,vs,rfl,⟨hx3,by rintro _ ⟨⟩ _;rfl⟩,q1,m4,fun j u hj=>⟨g,0,rfl,.inr ⟨?_,hown⟩⟩⟩;have:=m2.cells (g:=g) rfl j u hj
    rwa [zaw] at this
  ·exact other (by simp only[zbr,if_neg hh])
 | _=>exact other rfl
theorem zfk {G:Gh} {I:Imm} {objs:List OB} {w:World} (hm:MemOk G I objs w) {b E sz gen n:Nat} {xs:List AV} (hb:objs[b]? = some (.orow E sz gen n xs)):∀(l:List AV) (ys:List Value),zae G I l ys->zae (zf8 G b gen) (pubI I G b w) (l.map (zbr b gen n xs)) ys
 | [],ys,h=>by simpa[zae] using h
 | x::l,ys,h=>by
  simp only[zae] at h;obtain⟨y,ys',rfl,h1,h2⟩:=h;exact zae.cons (zls hm hb x y h1) (zfk hm hb l ys' h2)
theorem mem_pub {P:Program} [Tabs P] {C:Cx} {G:Gh} {I:Imm} {w:World} {objs:List OB} {b E sz gen n:Nat} {xs:List AV} (hb:objs[b]? = some (.orow E sz gen n xs)) (hin:In C G I w) (hm:MemOk G I objs w) :
  In C (zf8 G b gen) (pubI I G b w) w/\MemOk (zf8 G b gen) (pubI I G b w) (zjO objs b gen n xs) w:=by
 obtain⟨v',vs,m1,m2,m3,m4,m5⟩:=hm.row b E sz gen n xs hb;have hlt:b<objs.length:=by
  by_cases h:b<objs.length
  ·exact h
  ·rw[List.getElem?_eq_none (by omega)] at hb;cases hb
 have hG:=zgo m1;have hI:Imm.le I (pubI I G b w):=fun _ _ _ h=>.inl h;have hin':In C (zf8 G b gen) (pubI I G b w) w:={
  os:=hin.os,tape:=hin.tape,output:=hin.output,size:=hin.size,block:=hin.block
  imm:=fun g o v h=>.inl (hin.imm g o v h)
  news:=fun g o v h=>by
   rcases h with h|⟨_,h⟩
   ·exact hin.news g o v h
   ·exact .inr (hin.blk b g h)
  blk:=fun x g h=>hin.blk x g (zcR m5 h).2
  gh:=hin.gh.trans hG }
 have hat:∀x o,(zjO objs b gen n xs)[x]? = some o->o=.dead\/(x≠b/\∃o',objs[x]? = some o'/\zge b gen n xs o'=o):=by
  intro x o h;unfold zjO at h
  by_cases hx:x=b
  ·subst hx;rw[List.getElem?_set_self (by simpa using hlt)] at h;injection h with h;exact .inl h.symm
  ·rw[List.getElem?_set_ne (Ne.symm hx),List.getElem?_map] at h;obtain⟨o',h1,h2⟩:=Option.map_eq_some_iff.1 h;exact .inr ⟨hx,o',h1,h2⟩
 have hm':MemOk (zf8 G b gen) (pubI I G b w) (zjO objs b gen n xs) w:={
  imm:=fun g o v h=>by
   rcases h with h|⟨h,_⟩
   ·exact hm.imm g o v h
   ·exact h
  box:=fun x T cs h=>by
   rcases hat x _ h with h|⟨hx,o',h1,h2⟩
   ·cases h
   ·cases o' with
    | box T' cs'=>
     injection h2 with e1 e2
     subst e1 e2;obtain⟨g,ys,k1,k2,k3,k4⟩:=hm.box x _ _ h1;exact⟨g,ys,k1,k2,zfk hm hb _ _ k3,k4⟩
    | orow=>cases h2
    | mp=>cases h2
    | dead=>cases h2
  row:=fun x E' sz' gen' n' xs' h=>by
   rcases hat x _ h with h|⟨hx,o',h1,h2⟩
   ·cases h
   ·cases o' with
    | box T' cs'=>cases h2
    | orow=>
     injection h2 with e1 e2 e3 e4 e5
     subst e1 e2 e3 e4 e5;obtain⟨v,ys,k1,k2,k3,k4,k5⟩:=hm.row x _ _ _ _ _ h1;exact⟨v,ys,by simp[zf8,hx,k1],k2,zae.mono hG hI _ _ k3,k4,k5⟩
    | mp=>cases h2
    | dead=>cases h2
  map:=fun x es h=>by
   rcases hat x _ h with h|⟨hx,o',h1,h2⟩
   ·cases h
   ·cases o' with
    | box T' cs'=>cases h2
    | orow=>cases h2
    | mp=>
     injection h2 with e1
     subst e1;obtain⟨g,en,ck,k1,k2,k3⟩:=hm.map x _ h1;exact⟨g,en,ck,k1,k2,k3.mono hG hI⟩
    | dead=>cases h2
  inj:=fun x x' g h h'=>hm.inj x x' g (zcR m5 h).2 (zcR m5 h').2
  lt:=fun x g h=>hm.lt x g (zcR m5 h).2
  apart:=fun x g o v h h'=>by
   obtain⟨hx,h1⟩:=zcR m5 h;rcases h' with h' | ⟨_,h'⟩
   ·exact hm.apart x g o v h1 h'
   ·exact hx (hm.inj x b g h1 h')
  fresh:=fun x hx=>by
   have hx':objs.length<=x:=by simpa[zjO] using hx
   obtain⟨k1,k2⟩:=hm.fresh x hx';exact⟨k1,by simp[zf8,k2];omega⟩ }
 exact⟨hin',hm'⟩
section
variable {P:Program} [Tabs P] {C:Cx} [On P C] {F:zaE} {objs:List OB} {tm:List AV}
end
section
variable {P:Program} [Tabs P]
end
end Go.Proofs.Ytceenajkieomoaa.Sx
namespace Go.Proofs.Ytceenajkieomoaa
open Go.RowKit Sx
open List renaming getElem?_eq_some_iff->za, getElem?_set_ne->zf, map_append->qy, map_cons->zi, mem_append->zt, mem_append_left->jd, mem_append_right->ji, mem_cons->zy, mem_cons_of_mem->ql, mem_map_of_mem->xo, nodup_cons->xg
section
variable [Tabs Try.prog] {objs:List OB} {K:List OB->AV->Prop}
end
section
attribute [local irreducible] run
mutual
/-- a JSON value, cell for cell -/
def zak:JV->List AV
 | .mk k t ks its=>[.i .i64 k,.s t,.row ks.length (ks.map .s),.row its.length (zac its)]
def zac:List JV->List AV
 | []=>[]
 | v::l=>zak v++zac l
end
def JV.kind:JV->Int | .mk k _ _ _=>k
def JV.text:JV->List UInt8 | .mk _ t _ _=>t
def JV.keys:JV->List (List UInt8) | .mk _ _ ks _=>ks
def JV.items:JV->List JV | .mk _ _ _ its=>its
theorem zaj (v:JV):zak v=[.i .i64 v.kind,.s v.text,.row v.keys.length (v.keys.map .s),.row v.items.length (zac v.items)]:=by cases v;rw[zak];rfl
theorem zar:zac []=[]:=by rw[zac]
theorem zax (v:JV) (l:List JV):zac (v::l)=zak v++zac l:=by rw[zac]
theorem zcl (v:JV):(zak v).length=4:=by rw[zaj];rfl
theorem zaJ (l:List JV):(zac l).length=l.length*4:=by
 induction l with
 | nil=>rw[zar];rfl
 | cons v l ih=>rw[zax,List.length_append,zcl,ih,List.length_cons];omega
theorem zcD (a b:List JV):zac (a++b)=zac a++zac b:=by
 induction a with
 | nil=>rw[zar];rfl
 | cons v l ih=>rw[List.cons_append,zax,zax,ih,List.append_assoc]
theorem zfT:∀{l:List JV} {i:Nat} (hi:i<l.length),((zac l).drop (i*4)).take 4=zak l[i]
 | a::l,0,hi=>by
  rw[zax,Nat.zero_mul,List.drop_zero];exact List.take_left' (zcl a)
 | a::l,i+1,hi=>by
  rw[zax,show (i+1)*4=4+i*4 by omega,<-List.drop_drop,List.drop_left' (zcl a)];simpa using zfT (l:=l) (i:=i) (by simpa using hi)
theorem zaM (l:List (List UInt8)):zaq (l.map AV.s)=true:=by
 induction l with
 | nil=>rfl
 | cons a l ih=>simp[zaq,AV.plain,ih]
theorem zgz (a b:List AV):zaq (a++b)=(zaq a&&zaq b):=by
 induction a with
 | nil=>simp[zaq]
 | cons x a ih=>simp[zaq,ih,Bool.and_assoc]
mutual
theorem zcU:∀v:JV,zaq (zak v)=true
 | .mk k t ks its=>by
  rw[zak];simp only[zaq,AV.plain,zaM,zbh its,Bool.and_self]
theorem zbh:∀l:List JV,zaq (zac l)=true
 | []=>by rw[zac];rfl
 | v::l=>by rw[zac,zgz,zcU v,zbh l];rfl
end
mutual
/-- how many values there are in a value -/
def JV.size:JV->Nat
 | .mk _ _ _ its=>JV.sizes its+1
def JV.sizes:List JV->Nat
 | []=>0
 | v::l=>JV.size v+JV.sizes l
end
theorem zjb:∀{l:List JV} {i:Nat} (hi:i<l.length),JV.size l[i]<=JV.sizes l
 | a::l,0,hi=>by rw[JV.sizes];simp
 | a::l,i+1,hi=>by
  rw[JV.sizes];have:=zjb (l:=l) (i:=i) (by simpa using hi);simp only[List.getElem_cons_succ];omega
theorem zja {v:JV} {i:Nat} (hi:i<v.items.length):JV.size v.items[i]<JV.size v:=by
 cases v with
 | mk k t ks its=>
  have:=zjb (l:=its) (i:=i) hi;rw[JV.size.eq_def (.mk k t ks its)];show JV.size its[i]<_;simp only;omega
def zaC {α:Type} (L:List (Nat×α)) (o:List α):Prop:=(L.map (·.1)).Nodup/\∀x∈L,o[x.1]? = some x.2
theorem zaC.get {α:Type} {L:List (Nat×α)} {o:List α} (h:zaC L o) {i:Nat} {x:α} (hx:(i,x)∈L):o[i]? = some x:=h.2 _ hx
theorem zaC.perm {α:Type} {L L':List (Nat×α)} {o:List α} (h:zaC L o) (p:L.Perm L'):zaC L' o :=
 ⟨(p.map _).nodup_iff.1 h.1,fun x hx=>h.2 x (p.mem_iff.2 hx)⟩
theorem zaC.sub {α:Type} {L L':List (Nat×α)} {o:List α} (h:zaC L o) (p:L'.Sublist L):zaC L' o :=
 ⟨(p.map _).nodup h.1,fun x hx=>h.2 x (p.subset hx)⟩
theorem zaC.set {α:Type} {A B:List (Nat×α)} {o:List α} {i:Nat} {x:α} (y:α) (h:zaC (A++(i,x)::B) o):zaC (A++(i,y)::B) (o.set i y):=by
 obtain⟨h1,h2⟩:=h;simp only[qy,zi] at h1;have hi:o[i]? = some x:=h2 (i,x) (by simp);have hlt:=(za.1 hi).1;have hne:∀z∈A++B,z.1≠i:=by
  intro z hz e;rw[List.nodup_append] at h1;obtain⟨n1,n2,n3⟩:=h1;rcases zt.1 hz with hz|hz
  ·exact n3 z.1 (xo hz) i (by simp) e
  ·rw[xg] at n2;exact n2.1 (e▸xo hz)
 refine⟨by simpa only[qy,zi] using h1,fun z hz=>?_⟩;rcases zt.1 hz with hz|hz
 ·rw[zf (hne z (jd _ hz)).symm];exact h2 z (jd _ hz)
 ·rcases zy.1 hz with rfl|hz
  ·exact List.getElem?_set_self hlt
  ·rw[zf (hne z (ji _ hz)).symm];exact h2 z (ji _ (ql _ hz))
theorem zaC.lt {α:Type} {L:List (Nat×α)} {o:List α} (h:zaC L o) {i:Nat} {x:α} (hx:(i,x)∈L):i<o.length:=(za.1 (h.get hx)).1
theorem zaC.app {α:Type} {L:List (Nat×α)} {o:List α} (h:zaC L o) (more:List α):zaC L (o++more) :=
 ⟨h.1,fun x hx=>by rw[List.getElem?_append_left (h.lt (i:=x.1) (x:=x.2) hx)];exact h.2 x hx⟩
theorem zaC.new {α:Type} {L:List (Nat×α)} {o:List α} (h:zaC L o) (x:α):zaC ((o.length,x)::L) (o++[x]):=by
 refine⟨?_,fun z hz=>?_⟩
 ·rw[zi,xg];refine⟨fun hm=>?_,h.1⟩;obtain⟨z,hz,e⟩:=List.mem_map.1 hm;have:=h.lt (i:=z.1) (x:=z.2) hz;simp only at e;omega
 ·rcases zy.1 hz with rfl|hz
  ·simp
  ·exact(h.app [x]).2 z hz
theorem zaC.mapset {α:Type} {L:List (Nat×α)} {o:List α} {b:Nat} {x d:α} (f:α->α) (h:zaC ((b,x)::L) o) (hf:∀z∈L,f z.2=z.2):zaC L ((o.map f).set b d):=by
 obtain⟨h1,h2⟩:=h;rw[zi,xg] at h1;refine⟨h1.2,fun z hz=>?_⟩;have hne:¬b=z.1:=fun e=>h1.1 (by show b∈_;rw[e];exact xo hz);rw[zf hne,List.getElem?_map,h2 z (ql _ hz),Option.map_some,hf z hz]
theorem jnil_row {G:Gh} {I:Imm} {y:Value} (h:Den G I .nil y):Den G I (.row 0 []) y:=by
 simp only[Den] at h ⊢;exact⟨none,0,[],h,⟨Nat.le_refl _,fun ad h=>by cases h⟩,zae.nil,by simp,by simp⟩
def zi9 (b gen n:Nat) (xs:List AV):AV->AV
 | .agg cs=>.agg (cs.map (zbr b gen n xs))
 | x=>zbr b gen n xs x
theorem den_subD {G:Gh} {I:Imm} {objs:List OB} {w:World} (hm:MemOk G I objs w) {b E sz gen n:Nat} {xs:List AV} (hb:objs[b]? = some (.orow E sz gen n xs)) (x:AV) (y:Value) (h:Den G I x y):Den (zf8 G b gen) (pubI I G b w) (zi9 b gen n xs x) y:=by
 cases x with
 | agg cs=>
  simp only[Den,zi9] at h ⊢;obtain⟨ys,h1,h2,h3⟩:=h;exact⟨ys,h1,zfk hm hb _ _ h2,h3⟩
 | _=>exact zls hm hb _ _ h
theorem zfA {b gen n:Nat} {xs:List AV} {x:AV} (h:x.plain=true):zbr b gen n xs x=x:=by
 cases x<;>first|rfl|(simp[AV.plain] at h)
end
end Go.Proofs.Ytceenajkieomoaa
