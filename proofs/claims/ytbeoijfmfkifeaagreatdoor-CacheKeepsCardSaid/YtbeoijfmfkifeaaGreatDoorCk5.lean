/- The texts that the proofs of these statements reach, in their order, as few files. -/
import Derived.Test.YtbeoijfmfkifeaaGreatDoorProg
import Derived.Test.YtbeoijfmfkifeaaGreatDoorCk4
set_option linter.unusedVariables false
set_option maxRecDepth 100000
namespace Go.Proofs.YtbeoijfmfkifeaaGreatDoor.Sx
open Go.RowKit
set_option maxRecDepth 100000
def c_law31_CacheSound:SCode :=
 .seq (.reg [⟨some 6,.box 24 (.t 1),none⟩,
 ⟨some 10,.mv (.c (.b false)),none⟩])
 (.seq (.seq (.reg [⟨some 20,.call 8 [],none⟩,
 ⟨some 21,.not (.t 20),none⟩])
 (.cond (.t 21)
 (.seq (.reg [⟨some 10,.mv (.c (.b false)),none⟩])
 (.ret))
 (.skip)))
 (.seq (.seq (.reg [⟨some 22,.loadn 2 (.t 6),none⟩,
 ⟨some 23,.call 9 [.t 22],none⟩,
 ⟨some 24,.not (.t 23),none⟩])
 (.cond (.t 24)
 (.seq (.reg [⟨some 10,.mv (.c (.b true)),none⟩])
 (.ret))
 (.skip)))
 (.seq (.reg [⟨some 26,.mv (.t 0),none⟩,
 ⟨some 27,.call 10 [.t 26],none⟩,
 ⟨some 25,.mv (.t 27),none⟩,
 ⟨some 28,.ext (.t 25) 0,none⟩,
 ⟨some 29,.ext (.t 25) 1,none⟩,
 ⟨some 11,.alloc 24 [.i .i64 0,.nil],none⟩,
 ⟨none,.store 2 (.t 11) (.t 28),none⟩,
 ⟨some 12,.mv (.t 29),none⟩])
 (.seq (.reg [⟨some 31,.mv (.t 0),none⟩,
 ⟨some 32,.call 11 [.t 31],none⟩,
 ⟨some 30,.mv (.t 32),none⟩,
 ⟨some 33,.ext (.t 30) 0,none⟩,
 ⟨some 34,.ext (.t 30) 1,none⟩,
 ⟨some 13,.alloc 24 [.i .i64 0,.nil],none⟩,
 ⟨none,.store 2 (.t 13) (.t 33),none⟩,
 ⟨some 14,.mv (.t 34),none⟩])
 (.seq (.reg [⟨some 36,.mv (.t 2),none⟩,
 ⟨some 37,.call 12 [.t 36],none⟩,
 ⟨some 35,.mv (.t 37),none⟩,
 ⟨some 38,.ext (.t 35) 0,none⟩,
 ⟨some 39,.ext (.t 35) 1,none⟩,
 ⟨some 15,.alloc 24 [.i .i64 0,.nil],none⟩,
 ⟨none,.store 2 (.t 15) (.t 38),none⟩,
 ⟨some 16,.mv (.t 39),none⟩])
 (.seq (.cra 17 24 [.i .i64 0,.nil] [([⟨some 40,.fad 0 (.t 15),none⟩,⟨some 41,.load1 (.t 40),none⟩,⟨some 42,.fad 1 (.t 15),none⟩,⟨some 43,.load1 (.t 42),none⟩,⟨some 1000003,.mv (.c .nil),none⟩],⟨some 44,.app 43 14 160 (.c .nil) (.t 43),none⟩)] [⟨some 45,.build [.i .i64 0,.nil] [(0,(1,.t 41)),(1,(1,.t 44))],none⟩] ⟨none,.store 2 (.t 17) (.t 45),none⟩)
 (.seq (.seq (.reg [⟨some 46,.fad 1 (.t 17),none⟩,
 ⟨some 47,.load1 (.t 46),none⟩,
 ⟨some 48,.lenr (.t 47),none⟩,
 ⟨some 18,.mv (.t 48),none⟩])
 (.seq (.reg [⟨some 49,.mv (.t 18),none⟩,
 ⟨some 50,.bin .gtr (.t 49) (.c (.i .i64 0)),none⟩])
 (.cond (.t 50)
 (.seq (.drw [⟨some 51,.fad 1 (.t 17),none⟩,
 ⟨some 52,.load1 (.t 51),none⟩,
 ⟨some 53,.mv (.t 4),none⟩,
 ⟨some 54,.cvi .i64 (.t 53),none⟩,
 ⟨some 55,.mv (.t 18),none⟩,
 ⟨some 56,.bin .rem (.t 54) (.t 55),none⟩,
 ⟨some 57,.iad 14 (.t 52) (.t 56),none⟩,
 ⟨some 19,.mv (.t 57),none⟩] 8 [])
 (.seq (.reg [⟨some 58,.mv (.t 3),none⟩,
 ⟨some 59,.bin .rem (.t 58) (.c (.i .u8 6)),none⟩])
 (.blk 0
 (.seq (.reg [⟨some 61,.bin .eql (.t 59) (.c (.i .u8 0)),none⟩,
 ⟨some 60,.mv (.t 61),none⟩])
 (.cond (.t 60)
 (.reg [⟨some 62,.mv (.t 19),none⟩,
 ⟨some 63,.nck (.t 62),none⟩,
 ⟨some 64,.fad 13 (.t 63),none⟩,
 ⟨some 65,.load1 (.t 64),none⟩,
 ⟨some 66,.bin .add (.t 65) (.c (.i .u64 1)),none⟩,
 ⟨some 67,.nck (.t 62),none⟩,
 ⟨some 68,.fad 13 (.t 67),none⟩,
 ⟨none,.store 1 (.t 68) (.t 66),none⟩])
 (.seq (.reg [⟨some 70,.bin .eql (.t 59) (.c (.i .u8 1)),none⟩,
 ⟨some 69,.mv (.t 70),none⟩])
 (.cond (.t 69)
 (.reg [⟨some 71,.mv (.t 19),none⟩,
 ⟨some 72,.nck (.t 71),none⟩,
 ⟨some 73,.fad 0 (.t 72),none⟩,
 ⟨some 74,.fad 0 (.t 73),none⟩,
 ⟨none,.store 1 (.t 74) (.c (.i .i64 301)),none⟩])
 (.seq (.reg [⟨some 76,.bin .eql (.t 59) (.c (.i .u8 2)),none⟩,
 ⟨some 75,.mv (.t 76),none⟩])
 (.cond (.t 75)
 (.reg [⟨some 77,.mv (.t 19),none⟩,
 ⟨some 78,.nck (.t 77),none⟩,
 ⟨some 79,.fad 0 (.t 78),none⟩,
 ⟨some 80,.fad 1 (.t 79),none⟩,
 ⟨some 81,.fad 1 (.t 80),none⟩,
 ⟨none,.store 1 (.t 81) (.c (.s [97,99,99,116,58,122,122,64,97,46,101,120,97,109,112,108,101])),none⟩])
 (.seq (.reg [⟨some 83,.bin .eql (.t 59) (.c (.i .u8 3)),none⟩,
 ⟨some 82,.mv (.t 83),none⟩])
 (.cond (.t 82)
 (.reg [⟨some 84,.mv (.t 19),none⟩,
 ⟨some 85,.nck (.t 84),none⟩,
 ⟨some 86,.fad 0 (.t 85),none⟩,
 ⟨some 87,.fad 9 (.t 86),none⟩,
 ⟨some 88,.fad 1 (.t 87),none⟩,
 ⟨none,.store 1 (.t 88) (.c (.i .u64 0)),none⟩])
 (.seq (.reg [⟨some 90,.bin .eql (.t 59) (.c (.i .u8 4)),none⟩,
 ⟨some 89,.mv (.t 90),none⟩])
 (.cond (.t 89)
 (.reg [⟨some 91,.mv (.t 18),none⟩,
 ⟨some 92,.bin .sub (.t 91) (.c (.i .i64 1)),none⟩,
 ⟨some 93,.fad 0 (.t 17),none⟩,
 ⟨none,.store 1 (.t 93) (.t 92),none⟩])
 (.skip))))))))))))))
 (.skip))))
 (.seq (.drw [⟨some 94,.mv (.t 12),none⟩,
 ⟨some 95,.mv (.t 14),none⟩,
 ⟨some 96,.bin .eql (.t 94) (.t 95),none⟩,
 ⟨some 97,.mv (.t 96),none⟩,
 ⟨some 98,.loadn 2 (.t 11),some (97,true)⟩,
 ⟨some 99,.loadn 2 (.t 13),some (97,true)⟩,
 ⟨some 100,.call 13 [.t 98,.t 99],some (97,true)⟩,
 ⟨some 101,.pick (.t 97) (.t 100) (.c (.b false)),none⟩,
 ⟨some 102,.mv (.t 101),none⟩,
 ⟨some 103,.loadn 2 (.t 6),some (102,true)⟩,
 ⟨some 104,.call 14 [.t 103],some (102,true)⟩,
 ⟨some 105,.loadn 2 (.t 6),some (102,true)⟩,
 ⟨some 106,.call 15 [.t 105],some (102,true)⟩,
 ⟨some 107,.beq false (.t 104) (.t 106),some (102,true)⟩,
 ⟨some 108,.pick (.t 102) (.t 107) (.c (.b false)),none⟩,
 ⟨some 109,.mv (.t 108),none⟩,
 ⟨some 110,.loadn 2 (.t 15),some (109,true)⟩,
 ⟨some 111,.call 14 [.t 110],some (109,true)⟩,
 ⟨some 112,.pick (.t 109) (.t 111) (.c (.b false)),none⟩,
 ⟨some 113,.mv (.t 112),none⟩,
 ⟨some 114,.loadn 2 (.t 17),some (113,true)⟩,
 ⟨some 115,.call 14 [.t 114],some (113,true)⟩,
 ⟨some 116,.loadn 2 (.t 17),some (113,true)⟩,
 ⟨some 117,.call 15 [.t 116],some (113,true)⟩,
 ⟨some 118,.beq false (.t 115) (.t 117),some (113,true)⟩,
 ⟨some 119,.pick (.t 113) (.t 118) (.c (.b false)),none⟩,
 ⟨some 10,.mv (.t 119),none⟩] 27 [])
 (.ret)))))))))
theorem is_law31_CacheSound:FnIs Tryz.prog 3 120 [.tmp 10] c_law31_CacheSound:=⟨⟨_,_,Tryz.func3,rfl,rfl,by kernel_rfl,by kernel_rfl⟩⟩
def c_law31_CachePuts:SCode :=
 .seq (.reg [⟨some 10,.box 41 (.t 4),none⟩,
 ⟨some 12,.mv (.c (.b false)),none⟩])
 (.seq (.seq (.reg [⟨some 25,.call 8 [],none⟩,
 ⟨some 26,.not (.t 25),none⟩])
 (.cond (.t 26)
 (.seq (.reg [⟨some 12,.mv (.c (.b false)),none⟩])
 (.ret))
 (.skip)))
 (.seq (.seq (.reg [⟨some 27,.loadn 12 (.t 10),none⟩,
 ⟨some 28,.call 16 [.t 27],none⟩,
 ⟨some 29,.not (.t 28),none⟩])
 (.cond (.t 29)
 (.seq (.reg [⟨some 12,.mv (.c (.b true)),none⟩])
 (.ret))
 (.skip)))
 (.seq (.reg [⟨some 31,.mv (.t 0),none⟩,
 ⟨some 32,.call 12 [.t 31],none⟩,
 ⟨some 30,.mv (.t 32),none⟩,
 ⟨some 33,.ext (.t 30) 0,none⟩,
 ⟨some 34,.ext (.t 30) 1,none⟩,
 ⟨some 13,.alloc 24 [.i .i64 0,.nil],none⟩,
 ⟨none,.store 2 (.t 13) (.t 33),none⟩,
 ⟨some 14,.mv (.t 34),none⟩])
 (.seq (.reg [⟨some 35,.mv (.t 14),none⟩,
 ⟨some 36,.mv (.t 3),none⟩,
 ⟨some 37,.bin .rem (.t 36) (.c (.i .u64 100)),none⟩,
 ⟨some 38,.bin .add (.t 35) (.t 37),none⟩,
 ⟨some 14,.mv (.t 38),none⟩])
 (.seq (.seq (.drw [⟨some 39,.mv (.t 1),none⟩,
 ⟨some 40,.cvi .i64 (.t 39),none⟩,
 ⟨some 41,.mv (.t 2),none⟩,
 ⟨some 42,.call 17 [.t 40,.t 41],none⟩,
 ⟨some 43,.mv (.t 1),none⟩,
 ⟨some 44,.cvi .i64 (.t 43),none⟩,
 ⟨some 45,.mv (.t 2),none⟩,
 ⟨some 46,.bin .rem (.t 45) (.c (.i .u64 100)),none⟩,
 ⟨some 47,.call 17 [.t 44,.t 46],none⟩,
 ⟨some 48,.loadn 12 (.t 10),none⟩,
 ⟨some 49,.bslice 3 [.i .i64 0,.i .i64 0,.s [],.s [],.i .i64 0,.i .i64 0,.s [],.s [],.i .i64 0,.b false,.i .u64 0,.nil,.i .i64 0,.i .i64 0,.s [],.s [],.i .i64 0,.i .i64 0,.s [],.s [],.i .i64 0,.b false,.i .u64 0,.nil,.i .i64 0,.i .i64 0,.s [],.s [],.i .i64 0,.i .i64 0,.s [],.s [],.i .i64 0,.b false,.i .u64 0,.nil] [(0,(12,.t 42)),(12,(12,.t 47)),(24,(12,.t 48))],none⟩,
 ⟨some 50,.lenr (.t 49),none⟩,
 ⟨some 51,.mv (.c (.i .i64 0)),none⟩] 13 [])
 (.blk 0
 (.loop
 (.seq (.reg [⟨some 52,.bin .lss (.t 51) (.t 50),none⟩])
 (.seq (.cond (.t 52)
 (.skip)
 (.exit 0))
 (.seq (.blk 1
 (.seq (.reg [⟨some 53,.iad 12 (.t 49) (.t 51),none⟩,
 ⟨some 54,.loadn 12 (.t 53),none⟩,
 ⟨some 16,.alloc 41 [.i .i64 0,.i .i64 0,.s [],.s [],.i .i64 0,.i .i64 0,.s [],.s [],.i .i64 0,.b false,.i .u64 0,.nil],none⟩,
 ⟨none,.store 12 (.t 16) (.t 54),none⟩])
 (.seq (.seq (.drw [⟨some 55,.loadn 2 (.t 13),none⟩,
 ⟨some 56,.loadn 12 (.t 16),none⟩,
 ⟨some 57,.mv (.t 14),none⟩,
 ⟨some 58,.call 18 [.t 55,.t 56,.t 57],none⟩,
 ⟨some 59,.loadn 2 (.t 13),none⟩,
 ⟨some 60,.loadn 12 (.t 16),none⟩,
 ⟨some 61,.mv (.t 14),none⟩,
 ⟨some 62,.call 19 [.t 59,.t 60,.t 61],none⟩,
 ⟨some 63,.call 13 [.t 58,.t 62],none⟩,
 ⟨some 64,.not (.t 63),none⟩] 10 [])
 (.cond (.t 64)
 (.seq (.reg [⟨some 12,.mv (.c (.b false)),none⟩])
 (.ret))
 (.skip)))
 (.seq (.reg [⟨some 66,.loadn 2 (.t 13),none⟩,
 ⟨some 67,.fad 1 (.t 16),none⟩,
 ⟨some 68,.fad 1 (.t 67),none⟩,
 ⟨some 69,.load1 (.t 68),none⟩,
 ⟨some 70,.mv (.t 14),none⟩,
 ⟨some 71,.call 20 [.t 66,.t 69,.t 70],none⟩,
 ⟨some 65,.mv (.t 71),none⟩,
 ⟨some 72,.ext (.t 65) 0,none⟩,
 ⟨some 73,.ext (.t 65) 1,none⟩,
 ⟨some 17,.alloc 41 [.i .i64 0,.i .i64 0,.s [],.s [],.i .i64 0,.i .i64 0,.s [],.s [],.i .i64 0,.b false,.i .u64 0,.nil],none⟩,
 ⟨none,.store 12 (.t 17) (.t 72),none⟩,
 ⟨some 18,.mv (.t 73),none⟩])
 (.seq (.reg [⟨some 75,.loadn 2 (.t 13),none⟩,
 ⟨some 76,.fad 1 (.t 16),none⟩,
 ⟨some 77,.fad 1 (.t 76),none⟩,
 ⟨some 78,.load1 (.t 77),none⟩,
 ⟨some 79,.mv (.t 14),none⟩,
 ⟨some 80,.call 21 [.t 75,.t 78,.t 79],none⟩,
 ⟨some 74,.mv (.t 80),none⟩,
 ⟨some 81,.ext (.t 74) 0,none⟩,
 ⟨some 82,.ext (.t 74) 1,none⟩,
 ⟨some 19,.alloc 41 [.i .i64 0,.i .i64 0,.s [],.s [],.i .i64 0,.i .i64 0,.s [],.s [],.i .i64 0,.b false,.i .u64 0,.nil],none⟩,
 ⟨none,.store 12 (.t 19) (.t 81),none⟩,
 ⟨some 20,.mv (.t 82),none⟩])
 (.seq (.reg [⟨some 83,.mv (.t 18),none⟩,
 ⟨some 84,.mv (.t 20),none⟩,
 ⟨some 85,.beq true (.t 83) (.t 84),none⟩,
 ⟨some 86,.mv (.t 85),none⟩,
 ⟨some 87,.loadn 12 (.t 17),some (86,false)⟩,
 ⟨some 88,.loadn 12 (.t 19),some (86,false)⟩,
 ⟨some 89,.call 22 [.t 87,.t 88],some (86,false)⟩,
 ⟨some 90,.not (.t 89),some (86,false)⟩,
 ⟨some 91,.pick (.t 86) (.c (.b true)) (.t 90),none⟩])
 (.cond (.t 91)
 (.seq (.reg [⟨some 12,.mv (.c (.b false)),none⟩])
 (.ret))
 (.skip))))))))
 (.reg [⟨some 92,.bin .add (.t 51) (.c (.i .i64 1)),none⟩,
 ⟨some 51,.mv (.t 92),none⟩])))))))
 (.seq (.reg [⟨some 94,.loadn 2 (.t 13),none⟩,
 ⟨some 95,.mv (.t 5),none⟩,
 ⟨some 96,.mv (.t 3),none⟩,
 ⟨some 97,.call 20 [.t 94,.t 95,.t 96],none⟩,
 ⟨some 93,.mv (.t 97),none⟩,
 ⟨some 98,.ext (.t 93) 0,none⟩,
 ⟨some 99,.ext (.t 93) 1,none⟩,
 ⟨some 21,.alloc 41 [.i .i64 0,.i .i64 0,.s [],.s [],.i .i64 0,.i .i64 0,.s [],.s [],.i .i64 0,.b false,.i .u64 0,.nil],none⟩,
 ⟨none,.store 12 (.t 21) (.t 98),none⟩,
 ⟨some 22,.mv (.t 99),none⟩])
 (.seq (.reg [⟨some 101,.loadn 2 (.t 13),none⟩,
 ⟨some 102,.mv (.t 5),none⟩,
 ⟨some 103,.mv (.t 3),none⟩,
 ⟨some 104,.call 21 [.t 101,.t 102,.t 103],none⟩,
 ⟨some 100,.mv (.t 104),none⟩,
 ⟨some 105,.ext (.t 100) 0,none⟩,
 ⟨some 106,.ext (.t 100) 1,none⟩,
 ⟨some 23,.alloc 41 [.i .i64 0,.i .i64 0,.s [],.s [],.i .i64 0,.i .i64 0,.s [],.s [],.i .i64 0,.b false,.i .u64 0,.nil],none⟩,
 ⟨none,.store 12 (.t 23) (.t 105),none⟩,
 ⟨some 24,.mv (.t 106),none⟩])
 (.seq (.drw [⟨some 107,.mv (.t 22),none⟩,
 ⟨some 108,.mv (.t 24),none⟩,
 ⟨some 109,.beq false (.t 107) (.t 108),none⟩,
 ⟨some 110,.mv (.t 109),none⟩,
 ⟨some 111,.loadn 2 (.t 13),some (110,true)⟩,
 ⟨some 112,.mv (.t 14),some (110,true)⟩,
 ⟨some 113,.call 23 [.t 111,.t 112],some (110,true)⟩,
 ⟨some 114,.loadn 2 (.t 13),some (110,true)⟩,
 ⟨some 115,.mv (.t 14),some (110,true)⟩,
 ⟨some 116,.call 24 [.t 114,.t 115],some (110,true)⟩,
 ⟨some 117,.call 13 [.t 113,.t 116],some (110,true)⟩,
 ⟨some 118,.pick (.t 110) (.t 117) (.c (.b false)),none⟩,
 ⟨some 119,.mv (.t 118),none⟩,
 ⟨some 120,.loadn 2 (.t 13),some (119,true)⟩,
 ⟨some 121,.mv (.t 3),some (119,true)⟩,
 ⟨some 122,.call 23 [.t 120,.t 121],some (119,true)⟩,
 ⟨some 123,.loadn 2 (.t 13),some (119,true)⟩,
 ⟨some 124,.mv (.t 3),some (119,true)⟩,
 ⟨some 125,.call 24 [.t 123,.t 124],some (119,true)⟩,
 ⟨some 126,.call 13 [.t 122,.t 125],some (119,true)⟩,
 ⟨some 127,.pick (.t 119) (.t 126) (.c (.b false)),none⟩,
 ⟨some 12,.mv (.t 127),none⟩] 22 [])
 (.ret)))))))))
theorem is_law31_CachePuts:FnIs Tryz.prog 4 128 [.tmp 12] c_law31_CachePuts:=⟨⟨_,_,Tryz.func4,rfl,rfl,by kernel_rfl,by kernel_rfl⟩⟩
def c_law31_CacheKeeps:SCode :=
 .seq (.reg [⟨some 6,.mv (.c (.b false)),none⟩])
 (.seq (.seq (.reg [⟨some 18,.call 8 [],none⟩,
 ⟨some 19,.not (.t 18),none⟩])
 (.cond (.t 19)
 (.seq (.reg [⟨some 6,.mv (.c (.b false)),none⟩])
 (.ret))
 (.skip)))
 (.seq (.reg [⟨some 21,.mv (.t 0),none⟩,
 ⟨some 22,.call 12 [.t 21],none⟩,
 ⟨some 20,.mv (.t 22),none⟩,
 ⟨some 23,.ext (.t 20) 0,none⟩,
 ⟨some 24,.ext (.t 20) 1,none⟩,
 ⟨some 7,.alloc 24 [.i .i64 0,.nil],none⟩,
 ⟨none,.store 2 (.t 7) (.t 23),none⟩,
 ⟨some 8,.mv (.t 24),none⟩])
 (.seq (.reg [⟨some 25,.mv (.t 2),none⟩,
 ⟨some 26,.bin .rem (.t 25) (.c (.i .u64 86400)),none⟩,
 ⟨some 27,.bin .add (.c (.i .u64 1)) (.t 26),none⟩,
 ⟨some 9,.mv (.t 27),none⟩])
 (.seq (.reg [⟨some 28,.mv (.t 1),none⟩,
 ⟨some 29,.cvi .i64 (.t 28),none⟩,
 ⟨some 30,.mv (.t 9),none⟩,
 ⟨some 31,.call 17 [.t 29,.t 30],none⟩,
 ⟨some 10,.alloc 41 [.i .i64 0,.i .i64 0,.s [],.s [],.i .i64 0,.i .i64 0,.s [],.s [],.i .i64 0,.b false,.i .u64 0,.nil],none⟩,
 ⟨none,.store 12 (.t 10) (.t 31),none⟩])
 (.seq (.reg [⟨some 32,.loadn 2 (.t 7),none⟩,
 ⟨some 33,.loadn 12 (.t 10),none⟩,
 ⟨some 34,.mv (.t 8),none⟩,
 ⟨some 35,.call 18 [.t 32,.t 33,.t 34],none⟩,
 ⟨some 11,.alloc 24 [.i .i64 0,.nil],none⟩,
 ⟨none,.store 2 (.t 11) (.t 35),none⟩])
 (.seq (.seq (.reg [⟨some 36,.loadn 2 (.t 11),none⟩,
 ⟨some 37,.call 14 [.t 36],none⟩,
 ⟨some 38,.not (.t 37),none⟩,
 ⟨some 39,.mv (.t 38),none⟩,
 ⟨some 40,.fad 1 (.t 11),some (39,false)⟩,
 ⟨some 41,.load1 (.t 40),some (39,false)⟩,
 ⟨some 42,.lenr (.t 41),some (39,false)⟩,
 ⟨some 43,.fad 0 (.t 11),some (39,false)⟩,
 ⟨some 44,.load1 (.t 43),some (39,false)⟩,
 ⟨some 45,.bin .gtr (.t 42) (.t 44),some (39,false)⟩,
 ⟨some 46,.pick (.t 39) (.c (.b true)) (.t 45),none⟩,
 ⟨some 47,.mv (.t 46),none⟩,
 ⟨some 48,.loadn 2 (.t 11),some (47,false)⟩,
 ⟨some 49,.mv (.t 8),some (47,false)⟩,
 ⟨some 50,.mv (.t 9),some (47,false)⟩,
 ⟨some 51,.bin .quo (.t 50) (.c (.i .u64 2)),some (47,false)⟩,
 ⟨some 52,.bin .add (.t 49) (.t 51),some (47,false)⟩,
 ⟨some 53,.call 23 [.t 48,.t 52],some (47,false)⟩,
 ⟨some 54,.call 14 [.t 53],some (47,false)⟩,
 ⟨some 55,.not (.t 54),some (47,false)⟩,
 ⟨some 56,.pick (.t 47) (.c (.b true)) (.t 55),none⟩])
 (.cond (.t 56)
 (.seq (.reg [⟨some 6,.mv (.c (.b false)),none⟩])
 (.ret))
 (.skip)))
 (.seq (.seq (.reg [⟨some 57,.fad 0 (.t 7),none⟩,
 ⟨some 58,.load1 (.t 57),none⟩,
 ⟨some 59,.bin .eql (.t 58) (.c (.i .i64 0)),none⟩])
 (.cond (.t 59)
 (.seq (.reg [⟨some 60,.fad 1 (.t 11),none⟩,
 ⟨some 61,.load1 (.t 60),none⟩,
 ⟨some 62,.lenr (.t 61),none⟩,
 ⟨some 63,.bin .eql (.t 62) (.c (.i .i64 0)),none⟩,
 ⟨some 6,.mv (.t 63),none⟩])
 (.ret))
 (.skip)))
 (.seq (.reg [⟨some 65,.loadn 2 (.t 11),none⟩,
 ⟨some 66,.fad 1 (.t 10),none⟩,
 ⟨some 67,.fad 1 (.t 66),none⟩,
 ⟨some 68,.load1 (.t 67),none⟩,
 ⟨some 69,.mv (.t 8),none⟩,
 ⟨some 70,.call 20 [.t 65,.t 68,.t 69],none⟩,
 ⟨some 64,.mv (.t 70),none⟩,
 ⟨some 71,.ext (.t 64) 0,none⟩,
 ⟨some 72,.ext (.t 64) 1,none⟩,
 ⟨some 12,.alloc 41 [.i .i64 0,.i .i64 0,.s [],.s [],.i .i64 0,.i .i64 0,.s [],.s [],.i .i64 0,.b false,.i .u64 0,.nil],none⟩,
 ⟨none,.store 12 (.t 12) (.t 71),none⟩,
 ⟨some 13,.mv (.t 72),none⟩])
 (.seq (.drw [⟨some 74,.loadn 2 (.t 11),none⟩,
 ⟨some 75,.mv (.t 8),none⟩,
 ⟨some 76,.mv (.t 9),none⟩,
 ⟨some 77,.bin .add (.t 75) (.t 76),none⟩,
 ⟨some 78,.bin .sub (.t 77) (.c (.i .u64 1)),none⟩,
 ⟨some 79,.pcall 23 [.t 74,.t 78],none⟩,
 ⟨some 80,.fad 1 (.t 10),none⟩,
 ⟨some 81,.fad 1 (.t 80),none⟩,
 ⟨some 82,.load1 (.t 81),none⟩,
 ⟨some 83,.mv (.t 8),none⟩,
 ⟨some 84,.mv (.t 9),none⟩,
 ⟨some 85,.bin .add (.t 83) (.t 84),none⟩,
 ⟨some 86,.bin .sub (.t 85) (.c (.i .u64 1)),none⟩,
 ⟨some 87,.pcall 20 [.t 79,.t 82,.t 86],none⟩,
 ⟨some 73,.mv (.t 87),none⟩,
 ⟨some 88,.ext (.t 73) 0,none⟩,
 ⟨some 89,.ext (.t 73) 1,none⟩,
 ⟨some 14,.alloc 41 [.i .i64 0,.i .i64 0,.s [],.s [],.i .i64 0,.i .i64 0,.s [],.s [],.i .i64 0,.b false,.i .u64 0,.nil],none⟩,
 ⟨none,.store 12 (.t 14) (.t 88),none⟩,
 ⟨some 15,.mv (.t 89),none⟩] 20 [(11,(14,none)),(81,(14,none))])
 (.seq (.reg [⟨some 91,.loadn 2 (.t 11),none⟩,
 ⟨some 92,.fad 1 (.t 10),none⟩,
 ⟨some 93,.fad 1 (.t 92),none⟩,
 ⟨some 94,.load1 (.t 93),none⟩,
 ⟨some 95,.mv (.t 8),none⟩,
 ⟨some 96,.mv (.t 9),none⟩,
 ⟨some 97,.bin .add (.t 95) (.t 96),none⟩,
 ⟨some 98,.call 20 [.t 91,.t 94,.t 97],none⟩,
 ⟨some 90,.mv (.t 98),none⟩,
 ⟨some 99,.ext (.t 90) 0,none⟩,
 ⟨some 100,.ext (.t 90) 1,none⟩,
 ⟨some 16,.alloc 41 [.i .i64 0,.i .i64 0,.s [],.s [],.i .i64 0,.i .i64 0,.s [],.s [],.i .i64 0,.b false,.i .u64 0,.nil],none⟩,
 ⟨none,.store 12 (.t 16) (.t 99),none⟩,
 ⟨some 17,.mv (.t 100),none⟩])
 (.seq (.reg [⟨some 101,.mv (.t 13),none⟩,
 ⟨some 102,.mv (.t 101),none⟩,
 ⟨some 103,.mv (.t 15),some (102,true)⟩,
 ⟨some 104,.pick (.t 102) (.t 103) (.c (.b false)),none⟩,
 ⟨some 105,.mv (.t 104),none⟩,
 ⟨some 106,.mv (.t 17),some (105,true)⟩,
 ⟨some 107,.not (.t 106),some (105,true)⟩,
 ⟨some 108,.pick (.t 105) (.t 107) (.c (.b false)),none⟩,
 ⟨some 109,.mv (.t 108),none⟩,
 ⟨some 110,.loadn 12 (.t 12),some (109,true)⟩,
 ⟨some 111,.loadn 12 (.t 10),some (109,true)⟩,
 ⟨some 112,.call 22 [.t 110,.t 111],some (109,true)⟩,
 ⟨some 113,.pick (.t 109) (.t 112) (.c (.b false)),none⟩,
 ⟨some 114,.mv (.t 113),none⟩,
 ⟨some 115,.loadn 12 (.t 14),some (114,true)⟩,
 ⟨some 116,.loadn 12 (.t 10),some (114,true)⟩,
 ⟨some 117,.call 22 [.t 115,.t 116],some (114,true)⟩,
 ⟨some 118,.pick (.t 114) (.t 117) (.c (.b false)),none⟩,
 ⟨some 6,.mv (.t 118),none⟩])
 (.ret))))))))))))
theorem is_law31_CacheKeeps:FnIs Tryz.prog 5 119 [.tmp 6] c_law31_CacheKeeps:=⟨⟨_,_,Tryz.func5,rfl,rfl,by kernel_rfl,by kernel_rfl⟩⟩
def c_law31_CacheEvicts:SCode :=
 .seq (.reg [⟨some 6,.mv (.c (.b false)),none⟩])
 (.seq (.seq (.reg [⟨some 21,.call 8 [],none⟩,
 ⟨some 22,.not (.t 21),none⟩])
 (.cond (.t 22)
 (.seq (.reg [⟨some 6,.mv (.c (.b false)),none⟩])
 (.ret))
 (.skip)))
 (.seq (.reg [⟨some 24,.mv (.t 0),none⟩,
 ⟨some 25,.call 12 [.t 24],none⟩,
 ⟨some 23,.mv (.t 25),none⟩,
 ⟨some 26,.ext (.t 23) 0,none⟩,
 ⟨some 27,.ext (.t 23) 1,none⟩,
 ⟨some 7,.alloc 24 [.i .i64 0,.nil],none⟩,
 ⟨none,.store 2 (.t 7) (.t 26),none⟩,
 ⟨some 8,.mv (.t 27),none⟩])
 (.seq (.reg [⟨some 28,.mv (.t 1),none⟩,
 ⟨some 29,.cvi .i64 (.t 28),none⟩,
 ⟨some 30,.mv (.t 2),none⟩,
 ⟨some 31,.bin .rem (.t 30) (.c (.i .u64 1000)),none⟩,
 ⟨some 32,.bin .add (.c (.i .u64 1)) (.t 31),none⟩,
 ⟨some 33,.call 17 [.t 29,.t 32],none⟩,
 ⟨some 9,.alloc 41 [.i .i64 0,.i .i64 0,.s [],.s [],.i .i64 0,.i .i64 0,.s [],.s [],.i .i64 0,.b false,.i .u64 0,.nil],none⟩,
 ⟨none,.store 12 (.t 9) (.t 33),none⟩])
 (.seq (.reg [⟨some 34,.loadn 2 (.t 7),none⟩,
 ⟨some 35,.loadn 12 (.t 9),none⟩,
 ⟨some 36,.mv (.t 8),none⟩,
 ⟨some 37,.call 18 [.t 34,.t 35,.t 36],none⟩,
 ⟨some 10,.alloc 24 [.i .i64 0,.nil],none⟩,
 ⟨none,.store 2 (.t 10) (.t 37),none⟩])
 (.seq (.reg [⟨some 11,.mv (.c (.i .i64 0)),none⟩])
 (.seq (.seq (.reg [⟨some 38,.fad 1 (.t 7),none⟩,
 ⟨some 39,.load1 (.t 38),none⟩,
 ⟨some 40,.lenr (.t 39),none⟩,
 ⟨some 41,.mv (.c (.i .i64 0)),none⟩])
 (.blk 0
 (.loop
 (.seq (.reg [⟨some 42,.bin .lss (.t 41) (.t 40),none⟩])
 (.seq (.cond (.t 42)
 (.skip)
 (.exit 0))
 (.seq (.blk 1
 (.seq (.reg [⟨some 43,.iad 14 (.t 39) (.t 41),none⟩,
 ⟨some 44,.loadn 14 (.t 43),none⟩,
 ⟨some 13,.alloc 43 [.i .i64 0,.i .i64 0,.s [],.s [],.i .i64 0,.i .i64 0,.s [],.s [],.i .i64 0,.b false,.i .u64 0,.nil,.i .u64 0,.i .u64 0],none⟩,
 ⟨none,.store 14 (.t 13) (.t 44),none⟩])
 (.seq (.reg [⟨some 45,.fad 0 (.t 13),none⟩,
 ⟨some 46,.fad 1 (.t 45),none⟩,
 ⟨some 47,.loadn 4 (.t 46),none⟩,
 ⟨some 48,.fad 1 (.t 9),none⟩,
 ⟨some 49,.loadn 4 (.t 48),none⟩,
 ⟨some 50,.eqs false (.str [(0,(none,.ti)),(1,(none,.ts)),(2,(none,.ts)),(3,(none,.ti))]) (.t 47) (.t 49),none⟩])
 (.cond (.t 50)
 (.seq (.reg [⟨some 51,.fad 1 (.t 10),none⟩,
 ⟨some 52,.load1 (.t 51),none⟩,
 ⟨some 53,.lenr (.t 52),none⟩,
 ⟨some 54,.fad 1 (.t 7),none⟩,
 ⟨some 55,.load1 (.t 54),none⟩,
 ⟨some 56,.lenr (.t 55),none⟩,
 ⟨some 57,.bin .eql (.t 53) (.t 56),none⟩,
 ⟨some 6,.mv (.t 57),none⟩])
 (.ret))
 (.skip)))))
 (.reg [⟨some 58,.bin .add (.t 41) (.c (.i .i64 1)),none⟩,
 ⟨some 41,.mv (.t 58),none⟩])))))))
 (.seq (.seq (.reg [⟨some 59,.fad 1 (.t 7),none⟩,
 ⟨some 60,.load1 (.t 59),none⟩,
 ⟨some 61,.lenr (.t 60),none⟩,
 ⟨some 62,.mv (.c (.i .i64 0)),none⟩])
 (.blk 2
 (.loop
 (.seq (.reg [⟨some 63,.bin .lss (.t 62) (.t 61),none⟩])
 (.seq (.cond (.t 63)
 (.skip)
 (.exit 2))
 (.seq (.blk 3
 (.seq (.reg [⟨some 64,.iad 14 (.t 60) (.t 62),none⟩,
 ⟨some 65,.loadn 14 (.t 64),none⟩,
 ⟨some 15,.alloc 43 [.i .i64 0,.i .i64 0,.s [],.s [],.i .i64 0,.i .i64 0,.s [],.s [],.i .i64 0,.b false,.i .u64 0,.nil,.i .u64 0,.i .u64 0],none⟩,
 ⟨none,.store 14 (.t 15) (.t 65),none⟩])
 (.seq (.reg [⟨some 16,.mv (.c (.b false)),none⟩])
 (.seq (.seq (.reg [⟨some 66,.fad 1 (.t 10),none⟩,
 ⟨some 67,.load1 (.t 66),none⟩,
 ⟨some 68,.lenr (.t 67),none⟩,
 ⟨some 69,.mv (.c (.i .i64 0)),none⟩])
 (.blk 4
 (.loop
 (.seq (.reg [⟨some 70,.bin .lss (.t 69) (.t 68),none⟩])
 (.seq (.cond (.t 70)
 (.skip)
 (.exit 4))
 (.seq (.blk 5
 (.seq (.reg [⟨some 71,.iad 14 (.t 67) (.t 69),none⟩,
 ⟨some 72,.loadn 14 (.t 71),none⟩,
 ⟨some 18,.alloc 43 [.i .i64 0,.i .i64 0,.s [],.s [],.i .i64 0,.i .i64 0,.s [],.s [],.i .i64 0,.b false,.i .u64 0,.nil,.i .u64 0,.i .u64 0],none⟩,
 ⟨none,.store 14 (.t 18) (.t 72),none⟩])
 (.reg [⟨some 73,.mv (.t 16),none⟩,
 ⟨some 74,.mv (.t 73),none⟩,
 ⟨some 75,.fad 0 (.t 18),some (74,false)⟩,
 ⟨some 76,.fad 1 (.t 75),some (74,false)⟩,
 ⟨some 77,.loadn 4 (.t 76),some (74,false)⟩,
 ⟨some 78,.fad 0 (.t 15),some (74,false)⟩,
 ⟨some 79,.fad 1 (.t 78),some (74,false)⟩,
 ⟨some 80,.loadn 4 (.t 79),some (74,false)⟩,
 ⟨some 81,.eqs false (.str [(0,(none,.ti)),(1,(none,.ts)),(2,(none,.ts)),(3,(none,.ti))]) (.t 77) (.t 80),some (74,false)⟩,
 ⟨some 82,.mv (.t 81),some (74,false)⟩,
 ⟨some 83,.fad 13 (.t 18),some (82,true)⟩,
 ⟨some 84,.load1 (.t 83),some (82,true)⟩,
 ⟨some 85,.fad 13 (.t 15),some (82,true)⟩,
 ⟨some 86,.load1 (.t 85),some (82,true)⟩,
 ⟨some 87,.bin .eql (.t 84) (.t 86),some (82,true)⟩,
 ⟨some 88,.pick (.t 82) (.t 87) (.c (.b false)),some (74,false)⟩,
 ⟨some 89,.mv (.t 88),some (74,false)⟩,
 ⟨some 90,.fad 12 (.t 18),some (89,true)⟩,
 ⟨some 91,.load1 (.t 90),some (89,true)⟩,
 ⟨some 92,.fad 12 (.t 15),some (89,true)⟩,
 ⟨some 93,.load1 (.t 92),some (89,true)⟩,
 ⟨some 94,.bin .eql (.t 91) (.t 93),some (89,true)⟩,
 ⟨some 95,.pick (.t 89) (.t 94) (.c (.b false)),some (74,false)⟩,
 ⟨some 96,.pick (.t 74) (.c (.b true)) (.t 95),none⟩,
 ⟨some 16,.mv (.t 96),none⟩])))
 (.reg [⟨some 97,.bin .add (.t 69) (.c (.i .i64 1)),none⟩,
 ⟨some 69,.mv (.t 97),none⟩])))))))
 (.seq (.seq (.reg [⟨some 98,.mv (.t 16),none⟩])
 (.cond (.t 98)
 (.exit 3)
 (.skip)))
 (.seq (.reg [⟨some 99,.mv (.t 11),none⟩,
 ⟨some 100,.bin .add (.t 99) (.c (.i .i64 1)),none⟩,
 ⟨some 11,.mv (.t 100),none⟩])
 (.seq (.reg [⟨some 101,.fad 1 (.t 7),none⟩,
 ⟨some 102,.load1 (.t 101),none⟩,
 ⟨some 103,.lenr (.t 102),none⟩,
 ⟨some 104,.mv (.c (.i .i64 0)),none⟩])
 (.blk 6
 (.loop
 (.seq (.reg [⟨some 105,.bin .lss (.t 104) (.t 103),none⟩])
 (.seq (.cond (.t 105)
 (.skip)
 (.exit 6))
 (.seq (.blk 7
 (.seq (.reg [⟨some 106,.iad 14 (.t 102) (.t 104),none⟩,
 ⟨some 107,.loadn 14 (.t 106),none⟩,
 ⟨some 20,.alloc 43 [.i .i64 0,.i .i64 0,.s [],.s [],.i .i64 0,.i .i64 0,.s [],.s [],.i .i64 0,.b false,.i .u64 0,.nil,.i .u64 0,.i .u64 0],none⟩,
 ⟨none,.store 14 (.t 20) (.t 107),none⟩])
 (.seq (.reg [⟨some 108,.fad 13 (.t 20),none⟩,
 ⟨some 109,.load1 (.t 108),none⟩,
 ⟨some 110,.fad 13 (.t 15),none⟩,
 ⟨some 111,.load1 (.t 110),none⟩,
 ⟨some 112,.bin .lss (.t 109) (.t 111),none⟩])
 (.cond (.t 112)
 (.seq (.reg [⟨some 6,.mv (.c (.b false)),none⟩])
 (.ret))
 (.skip)))))
 (.reg [⟨some 113,.bin .add (.t 104) (.c (.i .i64 1)),none⟩,
 ⟨some 104,.mv (.t 113),none⟩])))))))))))))
 (.reg [⟨some 114,.bin .add (.t 62) (.c (.i .i64 1)),none⟩,
 ⟨some 62,.mv (.t 114),none⟩])))))))
 (.seq (.reg [⟨some 115,.mv (.t 11),none⟩,
 ⟨some 116,.bin .leq (.t 115) (.c (.i .i64 1)),none⟩,
 ⟨some 117,.mv (.t 116),none⟩,
 ⟨some 118,.mv (.t 11),some (117,true)⟩,
 ⟨some 119,.bin .eql (.t 118) (.c (.i .i64 1)),some (117,true)⟩,
 ⟨some 120,.fad 1 (.t 7),some (117,true)⟩,
 ⟨some 121,.load1 (.t 120),some (117,true)⟩,
 ⟨some 122,.lenr (.t 121),some (117,true)⟩,
 ⟨some 123,.fad 0 (.t 7),some (117,true)⟩,
 ⟨some 124,.load1 (.t 123),some (117,true)⟩,
 ⟨some 125,.bin .eql (.t 122) (.t 124),some (117,true)⟩,
 ⟨some 126,.mv (.t 125),some (117,true)⟩,
 ⟨some 127,.fad 0 (.t 7),some (126,true)⟩,
 ⟨some 128,.load1 (.t 127),some (126,true)⟩,
 ⟨some 129,.bin .gtr (.t 128) (.c (.i .i64 0)),some (126,true)⟩,
 ⟨some 130,.pick (.t 126) (.t 129) (.c (.b false)),some (117,true)⟩,
 ⟨some 131,.beq false (.t 119) (.t 130),some (117,true)⟩,
 ⟨some 132,.pick (.t 117) (.t 131) (.c (.b false)),none⟩,
 ⟨some 6,.mv (.t 132),none⟩])
 (.ret)))))))))
theorem is_law31_CacheEvicts:FnIs Tryz.prog 6 133 [.tmp 6] c_law31_CacheEvicts:=⟨⟨_,_,Tryz.func6,rfl,rfl,by kernel_rfl,by kernel_rfl⟩⟩
def c_law31_CacheOrder:SCode :=
 .seq (.reg [⟨some 4,.mv (.c (.b false)),none⟩])
 (.seq (.seq (.reg [⟨some 12,.call 8 [],none⟩,
 ⟨some 13,.not (.t 12),none⟩])
 (.cond (.t 13)
 (.seq (.reg [⟨some 4,.mv (.c (.b false)),none⟩])
 (.ret))
 (.skip)))
 (.seq (.seq (.reg [⟨some 14,.mv (.t 0),none⟩,
 ⟨some 15,.lenr (.t 14),none⟩,
 ⟨some 16,.bin .gtr (.t 15) (.c (.i .i64 12)),none⟩])
 (.cond (.t 16)
 (.reg [⟨some 17,.mv (.t 0),none⟩,
 ⟨some 18,.trn 1 (.t 17) (.c (.i .i64 12)),none⟩,
 ⟨some 0,.mv (.t 18),none⟩])
 (.skip)))
 (.seq (.reg [⟨some 20,.call 10 [.c (.i .i64 20)],none⟩,
 ⟨some 19,.mv (.t 20),none⟩,
 ⟨some 21,.ext (.t 19) 0,none⟩,
 ⟨some 22,.ext (.t 19) 1,none⟩,
 ⟨some 5,.alloc 24 [.i .i64 0,.nil],none⟩,
 ⟨none,.store 2 (.t 5) (.t 21),none⟩,
 ⟨some 6,.mv (.t 22),none⟩])
 (.seq (.reg [⟨some 24,.call 10 [.c (.i .i64 20)],none⟩,
 ⟨some 23,.mv (.t 24),none⟩,
 ⟨some 25,.ext (.t 23) 0,none⟩,
 ⟨some 26,.ext (.t 23) 1,none⟩,
 ⟨some 7,.alloc 24 [.i .i64 0,.nil],none⟩,
 ⟨none,.store 2 (.t 7) (.t 25),none⟩,
 ⟨some 8,.mv (.t 26),none⟩])
 (.seq (.seq (.reg [⟨some 27,.mv (.t 0),none⟩,
 ⟨some 28,.lenr (.t 27),none⟩,
 ⟨some 29,.mv (.c (.i .i64 0)),none⟩])
 (.blk 0
 (.loop
 (.seq (.reg [⟨some 30,.bin .lss (.t 29) (.t 28),none⟩])
 (.seq (.cond (.t 30)
 (.skip)
 (.exit 0))
 (.seq (.blk 1
 (.seq (.reg [⟨some 31,.mv (.t 29),none⟩,
 ⟨some 9,.mv (.t 31),none⟩])
 (.drw [⟨some 32,.loadn 2 (.t 5),none⟩,
 ⟨some 33,.mv (.t 9),none⟩,
 ⟨some 34,.mv (.t 0),none⟩,
 ⟨some 35,.mv (.t 9),none⟩,
 ⟨some 36,.iad 1 (.t 34) (.t 35),none⟩,
 ⟨some 37,.load1 (.t 36),none⟩,
 ⟨some 38,.cvi .u64 (.t 37),none⟩,
 ⟨some 39,.bin .add (.c (.i .u64 1)) (.t 38),none⟩,
 ⟨some 40,.call 17 [.t 33,.t 39],none⟩,
 ⟨some 41,.call 18 [.t 32,.t 40,.c (.i .u64 3)],none⟩,
 ⟨none,.store 2 (.t 5) (.t 41),none⟩] 10 [])))
 (.reg [⟨some 42,.bin .add (.t 29) (.c (.i .i64 1)),none⟩,
 ⟨some 29,.mv (.t 42),none⟩])))))))
 (.seq (.seq (.reg [⟨some 43,.mv (.t 0),none⟩,
 ⟨some 44,.lenr (.t 43),none⟩,
 ⟨some 45,.mv (.c (.i .i64 0)),none⟩])
 (.blk 2
 (.loop
 (.seq (.reg [⟨some 46,.bin .lss (.t 45) (.t 44),none⟩])
 (.seq (.cond (.t 46)
 (.skip)
 (.exit 2))
 (.seq (.blk 3
 (.seq (.reg [⟨some 47,.mv (.t 45),none⟩,
 ⟨some 10,.mv (.t 47),none⟩])
 (.seq (.reg [⟨some 48,.mv (.t 10),none⟩,
 ⟨some 49,.mv (.t 1),none⟩,
 ⟨some 50,.cvi .i64 (.t 49),none⟩,
 ⟨some 51,.bin .add (.t 48) (.t 50),none⟩,
 ⟨some 52,.mv (.t 0),none⟩,
 ⟨some 53,.lenr (.t 52),none⟩,
 ⟨some 54,.bin .rem (.t 51) (.t 53),none⟩,
 ⟨some 11,.mv (.t 54),none⟩])
 (.drw [⟨some 55,.loadn 2 (.t 7),none⟩,
 ⟨some 56,.mv (.t 11),none⟩,
 ⟨some 57,.mv (.t 0),none⟩,
 ⟨some 58,.mv (.t 11),none⟩,
 ⟨some 59,.iad 1 (.t 57) (.t 58),none⟩,
 ⟨some 60,.load1 (.t 59),none⟩,
 ⟨some 61,.cvi .u64 (.t 60),none⟩,
 ⟨some 62,.bin .add (.c (.i .u64 1)) (.t 61),none⟩,
 ⟨some 63,.call 17 [.t 56,.t 62],none⟩,
 ⟨some 64,.call 18 [.t 55,.t 63,.c (.i .u64 3)],none⟩,
 ⟨none,.store 2 (.t 7) (.t 64),none⟩] 10 []))))
 (.reg [⟨some 65,.bin .add (.t 45) (.c (.i .i64 1)),none⟩,
 ⟨some 45,.mv (.t 65),none⟩])))))))
 (.seq (.reg [⟨some 66,.mv (.t 6),none⟩,
 ⟨some 67,.bin .eql (.t 66) (.c (.i .i64 0)),none⟩,
 ⟨some 68,.mv (.t 67),none⟩,
 ⟨some 69,.mv (.t 8),some (68,true)⟩,
 ⟨some 70,.bin .eql (.t 69) (.c (.i .i64 0)),some (68,true)⟩,
 ⟨some 71,.pick (.t 68) (.t 70) (.c (.b false)),none⟩,
 ⟨some 72,.mv (.t 71),none⟩,
 ⟨some 73,.loadn 2 (.t 5),some (72,true)⟩,
 ⟨some 74,.loadn 2 (.t 7),some (72,true)⟩,
 ⟨some 75,.call 13 [.t 73,.t 74],some (72,true)⟩,
 ⟨some 76,.pick (.t 72) (.t 75) (.c (.b false)),none⟩,
 ⟨some 77,.mv (.t 76),none⟩,
 ⟨some 78,.fad 1 (.t 5),some (77,true)⟩,
 ⟨some 79,.load1 (.t 78),some (77,true)⟩,
 ⟨some 80,.lenr (.t 79),some (77,true)⟩,
 ⟨some 81,.mv (.t 0),some (77,true)⟩,
 ⟨some 82,.lenr (.t 81),some (77,true)⟩,
 ⟨some 83,.bin .eql (.t 80) (.t 82),some (77,true)⟩,
 ⟨some 84,.pick (.t 77) (.t 83) (.c (.b false)),none⟩,
 ⟨some 4,.mv (.t 84),none⟩])
 (.ret))))))))
theorem is_law31_CacheOrder:FnIs Tryz.prog 7 85 [.tmp 4] c_law31_CacheOrder:=⟨⟨_,_,Tryz.func7,rfl,rfl,by kernel_rfl,by kernel_rfl⟩⟩
def c_law31_sane:SCode :=
 .seq (.reg [⟨some 0,.mv (.c (.b false)),none⟩])
 (.seq (.reg [⟨some 9,.call 10 [.c (.i .i64 1)],none⟩,
 ⟨some 8,.mv (.t 9),none⟩,
 ⟨some 10,.ext (.t 8) 0,none⟩,
 ⟨some 11,.ext (.t 8) 1,none⟩,
 ⟨some 1,.alloc 24 [.i .i64 0,.nil],none⟩,
 ⟨none,.store 2 (.t 1) (.t 10),none⟩,
 ⟨some 2,.mv (.t 11),none⟩])
 (.seq (.drw [⟨some 12,.loadn 2 (.t 1),none⟩,
 ⟨some 13,.call 17 [.c (.i .i64 0),.c (.i .u64 100)],none⟩,
 ⟨some 14,.call 18 [.t 12,.t 13,.c (.i .u64 0)],none⟩,
 ⟨none,.store 2 (.t 1) (.t 14),none⟩] 3 [])
 (.seq (.drw [⟨some 15,.loadn 2 (.t 1),none⟩,
 ⟨some 16,.pcall 17 [.c (.i .i64 1),.c (.i .u64 5)],none⟩,
 ⟨some 17,.pcall 18 [.t 15,.t 16,.c (.i .u64 0)],none⟩,
 ⟨some 3,.alloc 24 [.i .i64 0,.nil],none⟩,
 ⟨none,.store 2 (.t 3) (.t 17),none⟩] 5 [(1,(3,none))])
 (.seq (.drw [⟨some 19,.loadn 2 (.t 3),none⟩,
 ⟨some 20,.pcall 17 [.c (.i .i64 0),.c (.i .u64 1)],none⟩,
 ⟨some 21,.fldn 1 4 (.t 20),none⟩,
 ⟨some 22,.fld1 1 (.t 21),none⟩,
 ⟨some 23,.pcall 20 [.t 19,.t 22,.c (.i .u64 0)],none⟩,
 ⟨some 18,.mv (.t 23),none⟩,
 ⟨some 24,.ext (.t 18) 0,none⟩,
 ⟨some 25,.ext (.t 18) 1,none⟩,
 ⟨some 4,.alloc 41 [.i .i64 0,.i .i64 0,.s [],.s [],.i .i64 0,.i .i64 0,.s [],.s [],.i .i64 0,.b false,.i .u64 0,.nil],none⟩,
 ⟨none,.store 12 (.t 4) (.t 24),none⟩,
 ⟨some 5,.mv (.t 25),none⟩] 11 [(3,(4,none))])
 (.seq (.drw [⟨some 27,.loadn 2 (.t 3),none⟩,
 ⟨some 28,.pcall 17 [.c (.i .i64 1),.c (.i .u64 1)],none⟩,
 ⟨some 29,.fldn 1 4 (.t 28),none⟩,
 ⟨some 30,.fld1 1 (.t 29),none⟩,
 ⟨some 31,.pcall 20 [.t 27,.t 30,.c (.i .u64 4)],none⟩,
 ⟨some 26,.mv (.t 31),none⟩,
 ⟨some 32,.ext (.t 26) 0,none⟩,
 ⟨some 33,.ext (.t 26) 1,none⟩,
 ⟨some 6,.alloc 41 [.i .i64 0,.i .i64 0,.s [],.s [],.i .i64 0,.i .i64 0,.s [],.s [],.i .i64 0,.b false,.i .u64 0,.nil],none⟩,
 ⟨none,.store 12 (.t 6) (.t 32),none⟩,
 ⟨some 7,.mv (.t 33),none⟩] 11 [(3,(6,none))])
 (.seq (.reg [⟨some 34,.mv (.t 2),none⟩,
 ⟨some 35,.bin .eql (.t 34) (.c (.i .i64 0)),none⟩,
 ⟨some 36,.mv (.t 35),none⟩,
 ⟨some 37,.fad 1 (.t 1),some (36,true)⟩,
 ⟨some 38,.load1 (.t 37),some (36,true)⟩,
 ⟨some 39,.lenr (.t 38),some (36,true)⟩,
 ⟨some 40,.bin .eql (.t 39) (.c (.i .i64 1)),some (36,true)⟩,
 ⟨some 41,.pick (.t 36) (.t 40) (.c (.b false)),none⟩,
 ⟨some 42,.mv (.t 41),none⟩,
 ⟨some 43,.fad 1 (.t 3),some (42,true)⟩,
 ⟨some 44,.load1 (.t 43),some (42,true)⟩,
 ⟨some 45,.lenr (.t 44),some (42,true)⟩,
 ⟨some 46,.bin .eql (.t 45) (.c (.i .i64 1)),some (42,true)⟩,
 ⟨some 47,.pick (.t 42) (.t 46) (.c (.b false)),none⟩,
 ⟨some 48,.mv (.t 47),none⟩,
 ⟨some 49,.mv (.t 5),some (48,true)⟩,
 ⟨some 50,.not (.t 49),some (48,true)⟩,
 ⟨some 51,.pick (.t 48) (.t 50) (.c (.b false)),none⟩,
 ⟨some 52,.mv (.t 51),none⟩,
 ⟨some 53,.mv (.t 7),some (52,true)⟩,
 ⟨some 54,.pick (.t 52) (.t 53) (.c (.b false)),none⟩,
 ⟨some 55,.mv (.t 54),none⟩,
 ⟨some 56,.loadn 2 (.t 3),some (55,true)⟩,
 ⟨some 57,.call 14 [.t 56],some (55,true)⟩,
 ⟨some 58,.pick (.t 55) (.t 57) (.c (.b false)),none⟩,
 ⟨some 0,.mv (.t 58),none⟩])
 (.ret)))))))
theorem is_law31_sane:FnIs Tryz.prog 8 59 [.tmp 0] c_law31_sane:=⟨⟨_,_,Tryz.func8,rfl,rfl,by kernel_rfl,by kernel_rfl⟩⟩
def c_law31_kept:SCode :=
 .seq (.reg [⟨some 1,.box 24 (.t 0),none⟩,
 ⟨some 2,.mv (.c (.b false)),none⟩])
 (.seq (.seq (.reg [⟨some 5,.fad 1 (.t 1),none⟩,
 ⟨some 6,.load1 (.t 5),none⟩,
 ⟨some 7,.lenr (.t 6),none⟩,
 ⟨some 8,.bin .gtr (.t 7) (.c (.i .i64 20)),none⟩])
 (.cond (.t 8)
 (.seq (.reg [⟨some 2,.mv (.c (.b false)),none⟩])
 (.ret))
 (.skip)))
 (.seq (.seq (.reg [⟨some 9,.fad 1 (.t 1),none⟩,
 ⟨some 10,.load1 (.t 9),none⟩,
 ⟨some 11,.lenr (.t 10),none⟩,
 ⟨some 12,.mv (.c (.i .i64 0)),none⟩])
 (.blk 0
 (.loop
 (.seq (.reg [⟨some 13,.bin .lss (.t 12) (.t 11),none⟩])
 (.seq (.cond (.t 13)
 (.skip)
 (.exit 0))
 (.seq (.blk 1
 (.seq (.reg [⟨some 14,.iad 14 (.t 10) (.t 12),none⟩,
 ⟨some 15,.loadn 14 (.t 14),none⟩,
 ⟨some 4,.alloc 43 [.i .i64 0,.i .i64 0,.s [],.s [],.i .i64 0,.i .i64 0,.s [],.s [],.i .i64 0,.b false,.i .u64 0,.nil,.i .u64 0,.i .u64 0],none⟩,
 ⟨none,.store 14 (.t 4) (.t 15),none⟩])
 (.seq (.reg [⟨some 16,.fad 0 (.t 4),none⟩,
 ⟨some 17,.loadn 12 (.t 16),none⟩,
 ⟨some 18,.call 16 [.t 17],none⟩,
 ⟨some 19,.not (.t 18),none⟩])
 (.cond (.t 19)
 (.seq (.reg [⟨some 2,.mv (.c (.b false)),none⟩])
 (.ret))
 (.skip)))))
 (.reg [⟨some 20,.bin .add (.t 12) (.c (.i .i64 1)),none⟩,
 ⟨some 12,.mv (.t 20),none⟩])))))))
 (.seq (.reg [⟨some 2,.mv (.c (.b true)),none⟩])
 (.ret))))
theorem is_law31_kept:FnIs Tryz.prog 9 21 [.tmp 2] c_law31_kept:=⟨⟨_,_,Tryz.func9,rfl,rfl,by kernel_rfl,by kernel_rfl⟩⟩
def c_cache_New:SCode :=
 .seq (.reg [⟨some 2,.alloc 24 [.i .i64 0,.nil],none⟩,
 ⟨some 3,.mv (.c (.i .i64 0)),none⟩])
 (.seq (.seq (.reg [⟨some 4,.mv (.t 0),none⟩,
 ⟨some 5,.bin .lss (.t 4) (.c (.i .i64 0)),none⟩,
 ⟨some 6,.mv (.t 5),none⟩,
 ⟨some 7,.mv (.t 0),some (6,false)⟩,
 ⟨some 8,.bin .gtr (.t 7) (.c (.i .i64 1024)),some (6,false)⟩,
 ⟨some 9,.pick (.t 6) (.c (.b true)) (.t 8),none⟩])
 (.cond (.t 9)
 (.seq (.reg [⟨some 10,.build [.i .i64 0,.nil] [],none⟩,
 ⟨none,.store 2 (.t 2) (.t 10),none⟩,
 ⟨some 3,.mv (.c (.i .i64 4)),none⟩])
 (.ret))
 (.skip)))
 (.seq (.reg [⟨some 11,.mv (.t 0),none⟩,
 ⟨some 12,.build [.i .i64 0,.nil] [(0,(1,.t 11))],none⟩,
 ⟨none,.store 2 (.t 2) (.t 12),none⟩,
 ⟨some 3,.mv (.c (.i .i64 0)),none⟩])
 (.ret)))
theorem is_cache_New:FnIs Tryz.prog 10 13 [.celln 2 2,.tmp 3] c_cache_New:=⟨⟨_,_,Tryz.func10,rfl,rfl,by kernel_rfl,by kernel_rfl⟩⟩
def c_ref31_New:SCode :=
 .seq (.reg [⟨some 2,.alloc 24 [.i .i64 0,.nil],none⟩,
 ⟨some 3,.mv (.c (.i .i64 0)),none⟩])
 (.seq (.seq (.reg [⟨some 4,.mv (.t 0),none⟩,
 ⟨some 5,.bin .lss (.t 4) (.c (.i .i64 0)),none⟩,
 ⟨some 6,.mv (.t 5),none⟩,
 ⟨some 7,.mv (.t 0),some (6,false)⟩,
 ⟨some 8,.bin .gtr (.t 7) (.c (.i .i64 1024)),some (6,false)⟩,
 ⟨some 9,.pick (.t 6) (.c (.b true)) (.t 8),none⟩])
 (.cond (.t 9)
 (.seq (.reg [⟨some 10,.build [.i .i64 0,.nil] [],none⟩,
 ⟨none,.store 2 (.t 2) (.t 10),none⟩,
 ⟨some 3,.mv (.c (.i .i64 4)),none⟩])
 (.ret))
 (.skip)))
 (.seq (.reg [⟨some 11,.mv (.t 0),none⟩,
 ⟨some 12,.build [.i .i64 0,.nil] [(0,(1,.t 11))],none⟩,
 ⟨none,.store 2 (.t 2) (.t 12),none⟩,
 ⟨some 3,.mv (.c (.i .i64 0)),none⟩])
 (.ret)))
theorem is_ref31_New:FnIs Tryz.prog 11 13 [.celln 2 2,.tmp 3] c_ref31_New:=⟨⟨_,_,Tryz.func11,rfl,rfl,by kernel_rfl,by kernel_rfl⟩⟩
def c_law31_made:SCode :=
 .seq (.reg [⟨some 2,.alloc 24 [.i .i64 0,.nil],none⟩,
 ⟨some 3,.mv (.c (.i .u64 0)),none⟩])
 (.seq (.reg [⟨some 9,.mv (.t 0),none⟩,
 ⟨some 10,.call 25 [.t 9],none⟩,
 ⟨some 4,.mv (.t 10),none⟩])
 (.seq (.reg [⟨some 12,.mv (.t 4),none⟩,
 ⟨some 13,.call 26 [.t 12,.c (.i .i64 6)],none⟩,
 ⟨some 14,.call 11 [.t 13],none⟩,
 ⟨some 11,.mv (.t 14),none⟩,
 ⟨some 15,.ext (.t 11) 0,none⟩,
 ⟨some 16,.ext (.t 11) 1,none⟩,
 ⟨some 5,.alloc 24 [.i .i64 0,.nil],none⟩,
 ⟨none,.store 2 (.t 5) (.t 15),none⟩,
 ⟨some 6,.mv (.t 16),none⟩])
 (.seq (.reg [⟨some 7,.mv (.c (.i .u64 0)),none⟩])
 (.seq (.seq (.reg [⟨some 17,.mv (.t 4),none⟩,
 ⟨some 18,.call 26 [.t 17,.c (.i .i64 20)],none⟩,
 ⟨some 8,.mv (.t 18),none⟩])
 (.blk 0
 (.loop
 (.seq (.seq (.reg [⟨some 19,.mv (.t 8),none⟩,
 ⟨some 20,.bin .gtr (.t 19) (.c (.i .i64 0)),none⟩])
 (.cond (.t 20)
 (.skip)
 (.exit 0)))
 (.seq (.blk 1
 (.seq (.reg [⟨some 23,.mv (.t 7),none⟩,
 ⟨some 24,.mv (.t 4),none⟩,
 ⟨some 25,.call 26 [.t 24,.c (.i .i64 9)],none⟩,
 ⟨some 26,.cvi .u64 (.t 25),none⟩,
 ⟨some 27,.bin .add (.t 23) (.t 26),none⟩,
 ⟨some 7,.mv (.t 27),none⟩])
 (.seq (.crs [([⟨some 28,.loadn 2 (.t 5),none⟩,⟨some 29,.mv (.t 4),none⟩,⟨some 31,.mv (.t 4),none⟩,⟨some 36,.mv (.t 7),none⟩],⟨some 30,.call 26 [.t 29,.c (.i .i64 9)],none⟩),([],⟨some 32,.call 26 [.t 31,.c (.i .i64 60)],none⟩),([⟨some 33,.bin .add (.c (.i .i64 1)) (.t 32),none⟩,⟨some 34,.cvi .u64 (.t 33),none⟩],⟨some 35,.call 17 [.t 30,.t 34],none⟩),([],⟨some 37,.call 19 [.t 28,.t 35,.t 36],none⟩)] [⟨none,.store 2 (.t 5) (.t 37),none⟩])
 (.seq (.reg [⟨some 38,.mv (.t 4),none⟩,
 ⟨some 39,.call 26 [.t 38,.c (.i .i64 6)],none⟩,
 ⟨some 40,.bin .eql (.t 39) (.c (.i .i64 0)),none⟩])
 (.cond (.t 40)
 (.reg [⟨some 41,.loadn 2 (.t 5),none⟩,
 ⟨some 42,.mv (.t 7),none⟩,
 ⟨some 43,.call 24 [.t 41,.t 42],none⟩,
 ⟨none,.store 2 (.t 5) (.t 43),none⟩])
 (.skip))))))
 (.reg [⟨some 21,.mv (.t 8),none⟩,
 ⟨some 22,.bin .sub (.t 21) (.c (.i .i64 1)),none⟩,
 ⟨some 8,.mv (.t 22),none⟩]))))))
 (.seq (.reg [⟨some 44,.loadn 2 (.t 5),none⟩,
 ⟨some 45,.mv (.t 7),none⟩,
 ⟨none,.store 2 (.t 2) (.t 44),none⟩,
 ⟨some 3,.mv (.t 45),none⟩])
 (.ret))))))
theorem is_law31_made:FnIs Tryz.prog 12 46 [.celln 2 2,.tmp 3] c_law31_made:=⟨⟨_,_,Tryz.func12,rfl,rfl,by kernel_rfl,by kernel_rfl⟩⟩
def c_ref31_Same:SCode :=
 .seq (.reg [⟨some 2,.box 24 (.t 0),none⟩,
 ⟨some 3,.box 24 (.t 1),none⟩,
 ⟨some 4,.mv (.c (.b false)),none⟩])
 (.seq (.seq (.reg [⟨some 6,.fad 0 (.t 2),none⟩,
 ⟨some 7,.load1 (.t 6),none⟩,
 ⟨some 8,.fad 0 (.t 3),none⟩,
 ⟨some 9,.load1 (.t 8),none⟩,
 ⟨some 10,.bin .neq (.t 7) (.t 9),none⟩,
 ⟨some 11,.mv (.t 10),none⟩,
 ⟨some 12,.fad 1 (.t 2),some (11,false)⟩,
 ⟨some 13,.load1 (.t 12),some (11,false)⟩,
 ⟨some 14,.lenr (.t 13),some (11,false)⟩,
 ⟨some 15,.fad 1 (.t 3),some (11,false)⟩,
 ⟨some 16,.load1 (.t 15),some (11,false)⟩,
 ⟨some 17,.lenr (.t 16),some (11,false)⟩,
 ⟨some 18,.bin .neq (.t 14) (.t 17),some (11,false)⟩,
 ⟨some 19,.pick (.t 11) (.c (.b true)) (.t 18),none⟩])
 (.cond (.t 19)
 (.seq (.reg [⟨some 4,.mv (.c (.b false)),none⟩])
 (.ret))
 (.skip)))
 (.seq (.seq (.reg [⟨some 20,.fad 1 (.t 2),none⟩,
 ⟨some 21,.load1 (.t 20),none⟩,
 ⟨some 22,.lenr (.t 21),none⟩,
 ⟨some 23,.mv (.c (.i .i64 0)),none⟩])
 (.blk 0
 (.loop
 (.seq (.reg [⟨some 24,.bin .lss (.t 23) (.t 22),none⟩])
 (.seq (.cond (.t 24)
 (.skip)
 (.exit 0))
 (.seq (.blk 1
 (.seq (.reg [⟨some 25,.mv (.t 23),none⟩,
 ⟨some 5,.mv (.t 25),none⟩])
 (.seq (.drw [⟨some 26,.fad 1 (.t 2),none⟩,
 ⟨some 27,.load1 (.t 26),none⟩,
 ⟨some 28,.mv (.t 5),none⟩,
 ⟨some 29,.iad 14 (.t 27) (.t 28),none⟩,
 ⟨some 30,.fad 12 (.t 29),none⟩,
 ⟨some 31,.load1 (.t 30),none⟩,
 ⟨some 32,.fad 1 (.t 3),none⟩,
 ⟨some 33,.load1 (.t 32),none⟩,
 ⟨some 34,.mv (.t 5),none⟩,
 ⟨some 35,.iad 14 (.t 33) (.t 34),none⟩,
 ⟨some 36,.fad 12 (.t 35),none⟩,
 ⟨some 37,.load1 (.t 36),none⟩,
 ⟨some 38,.bin .neq (.t 31) (.t 37),none⟩,
 ⟨some 39,.mv (.t 38),none⟩,
 ⟨some 40,.fad 1 (.t 2),some (39,false)⟩,
 ⟨some 41,.load1 (.t 40),some (39,false)⟩,
 ⟨some 42,.mv (.t 5),some (39,false)⟩,
 ⟨some 43,.iad 14 (.t 41) (.t 42),some (39,false)⟩,
 ⟨some 44,.fad 13 (.t 43),some (39,false)⟩,
 ⟨some 45,.load1 (.t 44),some (39,false)⟩,
 ⟨some 46,.fad 1 (.t 3),some (39,false)⟩,
 ⟨some 47,.load1 (.t 46),some (39,false)⟩,
 ⟨some 48,.mv (.t 5),some (39,false)⟩,
 ⟨some 49,.iad 14 (.t 47) (.t 48),some (39,false)⟩,
 ⟨some 50,.fad 13 (.t 49),some (39,false)⟩,
 ⟨some 51,.load1 (.t 50),some (39,false)⟩,
 ⟨some 52,.bin .neq (.t 45) (.t 51),some (39,false)⟩,
 ⟨some 53,.pick (.t 39) (.c (.b true)) (.t 52),none⟩,
 ⟨some 54,.mv (.t 53),none⟩,
 ⟨some 55,.fad 1 (.t 2),some (54,false)⟩,
 ⟨some 56,.load1 (.t 55),some (54,false)⟩,
 ⟨some 57,.mv (.t 5),some (54,false)⟩,
 ⟨some 58,.iad 14 (.t 56) (.t 57),some (54,false)⟩,
 ⟨some 59,.fad 0 (.t 58),some (54,false)⟩,
 ⟨some 60,.loadn 12 (.t 59),some (54,false)⟩,
 ⟨some 61,.fad 1 (.t 3),some (54,false)⟩,
 ⟨some 62,.load1 (.t 61),some (54,false)⟩,
 ⟨some 63,.mv (.t 5),some (54,false)⟩,
 ⟨some 64,.iad 14 (.t 62) (.t 63),some (54,false)⟩,
 ⟨some 65,.fad 0 (.t 64),some (54,false)⟩,
 ⟨some 66,.loadn 12 (.t 65),some (54,false)⟩,
 ⟨some 67,.call 22 [.t 60,.t 66],some (54,false)⟩,
 ⟨some 68,.not (.t 67),some (54,false)⟩,
 ⟨some 69,.pick (.t 54) (.c (.b true)) (.t 68),none⟩] 44 [])
 (.cond (.t 69)
 (.seq (.reg [⟨some 4,.mv (.c (.b false)),none⟩])
 (.ret))
 (.skip)))))
 (.reg [⟨some 70,.bin .add (.t 23) (.c (.i .i64 1)),none⟩,
 ⟨some 23,.mv (.t 70),none⟩])))))))
 (.seq (.reg [⟨some 4,.mv (.c (.b true)),none⟩])
 (.ret))))
theorem is_ref31_Same:FnIs Tryz.prog 13 71 [.tmp 4] c_ref31_Same:=⟨⟨_,_,Tryz.func13,rfl,rfl,by kernel_rfl,by kernel_rfl⟩⟩
def c_cache_Sound:SCode :=
 .seq (.reg [⟨some 1,.box 24 (.t 0),none⟩,
 ⟨some 2,.mv (.c (.b false)),none⟩])
 (.seq (.seq (.reg [⟨some 5,.fad 0 (.t 1),none⟩,
 ⟨some 6,.load1 (.t 5),none⟩,
 ⟨some 7,.bin .lss (.t 6) (.c (.i .i64 0)),none⟩,
 ⟨some 8,.mv (.t 7),none⟩,
 ⟨some 9,.fad 0 (.t 1),some (8,false)⟩,
 ⟨some 10,.load1 (.t 9),some (8,false)⟩,
 ⟨some 11,.bin .gtr (.t 10) (.c (.i .i64 1024)),some (8,false)⟩,
 ⟨some 12,.pick (.t 8) (.c (.b true)) (.t 11),none⟩,
 ⟨some 13,.mv (.t 12),none⟩,
 ⟨some 14,.fad 1 (.t 1),some (13,false)⟩,
 ⟨some 15,.load1 (.t 14),some (13,false)⟩,
 ⟨some 16,.lenr (.t 15),some (13,false)⟩,
 ⟨some 17,.fad 0 (.t 1),some (13,false)⟩,
 ⟨some 18,.load1 (.t 17),some (13,false)⟩,
 ⟨some 19,.bin .gtr (.t 16) (.t 18),some (13,false)⟩,
 ⟨some 20,.pick (.t 13) (.c (.b true)) (.t 19),none⟩])
 (.cond (.t 20)
 (.seq (.reg [⟨some 2,.mv (.c (.b false)),none⟩])
 (.ret))
 (.skip)))
 (.seq (.seq (.reg [⟨some 21,.fad 1 (.t 1),none⟩,
 ⟨some 22,.load1 (.t 21),none⟩,
 ⟨some 23,.lenr (.t 22),none⟩,
 ⟨some 24,.mv (.c (.i .i64 0)),none⟩])
 (.blk 0
 (.loop
 (.seq (.reg [⟨some 25,.bin .lss (.t 24) (.t 23),none⟩])
 (.seq (.cond (.t 25)
 (.skip)
 (.exit 0))
 (.seq (.blk 1
 (.seq (.reg [⟨some 26,.mv (.t 24),none⟩,
 ⟨some 27,.iad 14 (.t 22) (.t 24),none⟩,
 ⟨some 28,.loadn 14 (.t 27),none⟩,
 ⟨some 4,.alloc 43 [.i .i64 0,.i .i64 0,.s [],.s [],.i .i64 0,.i .i64 0,.s [],.s [],.i .i64 0,.b false,.i .u64 0,.nil,.i .u64 0,.i .u64 0],none⟩,
 ⟨some 3,.mv (.t 26),none⟩,
 ⟨none,.store 14 (.t 4) (.t 28),none⟩])
 (.seq (.seq (.drw [⟨some 29,.mv (.t 3),none⟩,
 ⟨some 30,.bin .gtr (.t 29) (.c (.i .i64 0)),none⟩,
 ⟨some 31,.mv (.t 30),none⟩,
 ⟨some 32,.fad 1 (.t 1),some (31,true)⟩,
 ⟨some 33,.load1 (.t 32),some (31,true)⟩,
 ⟨some 34,.mv (.t 3),some (31,true)⟩,
 ⟨some 35,.bin .sub (.t 34) (.c (.i .i64 1)),some (31,true)⟩,
 ⟨some 36,.iad 14 (.t 33) (.t 35),some (31,true)⟩,
 ⟨some 37,.loadn 14 (.t 36),some (31,true)⟩,
 ⟨some 38,.call 27 [.t 37],some (31,true)⟩,
 ⟨some 39,.loadn 14 (.t 4),some (31,true)⟩,
 ⟨some 40,.call 27 [.t 39],some (31,true)⟩,
 ⟨some 41,.pu (.scmp .geq) [.t 38,.t 40],some (31,true)⟩,
 ⟨some 42,.pick (.t 31) (.t 41) (.c (.b false)),none⟩] 14 [])
 (.cond (.t 42)
 (.seq (.reg [⟨some 2,.mv (.c (.b false)),none⟩])
 (.ret))
 (.skip)))
 (.seq (.drw [⟨some 43,.fad 0 (.t 4),none⟩,
 ⟨some 44,.loadn 12 (.t 43),none⟩,
 ⟨some 45,.call 28 [.t 44],none⟩,
 ⟨some 46,.not (.t 45),none⟩,
 ⟨some 47,.mv (.t 46),none⟩,
 ⟨some 48,.fad 13 (.t 4),some (47,false)⟩,
 ⟨some 49,.load1 (.t 48),some (47,false)⟩,
 ⟨some 50,.fad 12 (.t 4),some (47,false)⟩,
 ⟨some 51,.load1 (.t 50),some (47,false)⟩,
 ⟨some 52,.fad 0 (.t 4),some (47,false)⟩,
 ⟨some 53,.fad 9 (.t 52),some (47,false)⟩,
 ⟨some 54,.fad 1 (.t 53),some (47,false)⟩,
 ⟨some 55,.load1 (.t 54),some (47,false)⟩,
 ⟨some 56,.call 29 [.t 51,.t 55],some (47,false)⟩,
 ⟨some 57,.bin .neq (.t 49) (.t 56),some (47,false)⟩,
 ⟨some 58,.pick (.t 47) (.c (.b true)) (.t 57),none⟩] 16 [])
 (.cond (.t 58)
 (.seq (.reg [⟨some 2,.mv (.c (.b false)),none⟩])
 (.ret))
 (.skip))))))
 (.reg [⟨some 59,.bin .add (.t 24) (.c (.i .i64 1)),none⟩,
 ⟨some 24,.mv (.t 59),none⟩])))))))
 (.seq (.reg [⟨some 2,.mv (.c (.b true)),none⟩])
 (.ret))))
theorem is_cache_Sound:FnIs Tryz.prog 14 60 [.tmp 2] c_cache_Sound:=⟨⟨_,_,Tryz.func14,rfl,rfl,by kernel_rfl,by kernel_rfl⟩⟩
def c_ref31_Sound:SCode :=
 .seq (.reg [⟨some 1,.box 24 (.t 0),none⟩,
 ⟨some 2,.mv (.c (.b false)),none⟩])
 (.seq (.seq (.reg [⟨some 5,.fad 0 (.t 1),none⟩,
 ⟨some 6,.load1 (.t 5),none⟩,
 ⟨some 7,.bin .lss (.t 6) (.c (.i .i64 0)),none⟩,
 ⟨some 8,.mv (.t 7),none⟩,
 ⟨some 9,.fad 0 (.t 1),some (8,false)⟩,
 ⟨some 10,.load1 (.t 9),some (8,false)⟩,
 ⟨some 11,.bin .gtr (.t 10) (.c (.i .i64 1024)),some (8,false)⟩,
 ⟨some 12,.pick (.t 8) (.c (.b true)) (.t 11),none⟩,
 ⟨some 13,.mv (.t 12),none⟩,
 ⟨some 14,.fad 1 (.t 1),some (13,false)⟩,
 ⟨some 15,.load1 (.t 14),some (13,false)⟩,
 ⟨some 16,.lenr (.t 15),some (13,false)⟩,
 ⟨some 17,.fad 0 (.t 1),some (13,false)⟩,
 ⟨some 18,.load1 (.t 17),some (13,false)⟩,
 ⟨some 19,.bin .gtr (.t 16) (.t 18),some (13,false)⟩,
 ⟨some 20,.pick (.t 13) (.c (.b true)) (.t 19),none⟩])
 (.cond (.t 20)
 (.seq (.reg [⟨some 2,.mv (.c (.b false)),none⟩])
 (.ret))
 (.skip)))
 (.seq (.seq (.reg [⟨some 21,.fad 1 (.t 1),none⟩,
 ⟨some 22,.load1 (.t 21),none⟩,
 ⟨some 23,.lenr (.t 22),none⟩,
 ⟨some 24,.mv (.c (.i .i64 0)),none⟩])
 (.blk 0
 (.loop
 (.seq (.reg [⟨some 25,.bin .lss (.t 24) (.t 23),none⟩])
 (.seq (.cond (.t 25)
 (.skip)
 (.exit 0))
 (.seq (.blk 1
 (.seq (.reg [⟨some 26,.mv (.t 24),none⟩,
 ⟨some 27,.iad 14 (.t 22) (.t 24),none⟩,
 ⟨some 28,.loadn 14 (.t 27),none⟩,
 ⟨some 4,.alloc 43 [.i .i64 0,.i .i64 0,.s [],.s [],.i .i64 0,.i .i64 0,.s [],.s [],.i .i64 0,.b false,.i .u64 0,.nil,.i .u64 0,.i .u64 0],none⟩,
 ⟨some 3,.mv (.t 26),none⟩,
 ⟨none,.store 14 (.t 4) (.t 28),none⟩])
 (.seq (.drw [⟨some 29,.mv (.t 3),none⟩,
 ⟨some 30,.bin .gtr (.t 29) (.c (.i .i64 0)),none⟩,
 ⟨some 31,.mv (.t 30),none⟩,
 ⟨some 32,.fad 1 (.t 1),some (31,true)⟩,
 ⟨some 33,.load1 (.t 32),some (31,true)⟩,
 ⟨some 34,.mv (.t 3),some (31,true)⟩,
 ⟨some 35,.bin .sub (.t 34) (.c (.i .i64 1)),some (31,true)⟩,
 ⟨some 36,.iad 14 (.t 33) (.t 35),some (31,true)⟩,
 ⟨some 37,.fad 0 (.t 36),some (31,true)⟩,
 ⟨some 38,.fad 1 (.t 37),some (31,true)⟩,
 ⟨some 39,.fad 1 (.t 38),some (31,true)⟩,
 ⟨some 40,.load1 (.t 39),some (31,true)⟩,
 ⟨some 41,.fad 0 (.t 4),some (31,true)⟩,
 ⟨some 42,.fad 1 (.t 41),some (31,true)⟩,
 ⟨some 43,.fad 1 (.t 42),some (31,true)⟩,
 ⟨some 44,.load1 (.t 43),some (31,true)⟩,
 ⟨some 45,.pu (.scmp .geq) [.t 40,.t 44],some (31,true)⟩,
 ⟨some 46,.pick (.t 31) (.t 45) (.c (.b false)),none⟩,
 ⟨some 47,.mv (.t 46),none⟩,
 ⟨some 48,.fad 0 (.t 4),some (47,false)⟩,
 ⟨some 49,.loadn 12 (.t 48),some (47,false)⟩,
 ⟨some 50,.call 30 [.t 49],some (47,false)⟩,
 ⟨some 51,.not (.t 50),some (47,false)⟩,
 ⟨some 52,.pick (.t 47) (.c (.b true)) (.t 51),none⟩,
 ⟨some 53,.mv (.t 52),none⟩,
 ⟨some 54,.fad 13 (.t 4),some (53,false)⟩,
 ⟨some 55,.load1 (.t 54),some (53,false)⟩,
 ⟨some 56,.fad 12 (.t 4),some (53,false)⟩,
 ⟨some 57,.load1 (.t 56),some (53,false)⟩,
 ⟨some 58,.fad 0 (.t 4),some (53,false)⟩,
 ⟨some 59,.fad 9 (.t 58),some (53,false)⟩,
 ⟨some 60,.fad 1 (.t 59),some (53,false)⟩,
 ⟨some 61,.load1 (.t 60),some (53,false)⟩,
 ⟨some 62,.call 31 [.t 57,.t 61],some (53,false)⟩,
 ⟨some 63,.bin .neq (.t 55) (.t 62),some (53,false)⟩,
 ⟨some 64,.pick (.t 53) (.c (.b true)) (.t 63),none⟩] 36 [])
 (.cond (.t 64)
 (.seq (.reg [⟨some 2,.mv (.c (.b false)),none⟩])
 (.ret))
 (.skip)))))
 (.reg [⟨some 65,.bin .add (.t 24) (.c (.i .i64 1)),none⟩,
 ⟨some 24,.mv (.t 65),none⟩])))))))
 (.seq (.reg [⟨some 2,.mv (.c (.b true)),none⟩])
 (.ret))))
theorem is_ref31_Sound:FnIs Tryz.prog 15 66 [.tmp 2] c_ref31_Sound:=⟨⟨_,_,Tryz.func15,rfl,rfl,by kernel_rfl,by kernel_rfl⟩⟩
def c_keep_Verdict:SCode :=
 .seq (.reg [⟨some 1,.box 41 (.t 0),none⟩,
 ⟨some 2,.mv (.c (.b false)),none⟩])
 (.seq (.reg [⟨some 3,.fad 1 (.t 1),none⟩,
 ⟨some 4,.loadn 4 (.t 3),none⟩,
 ⟨some 5,.call 32 [.t 4],none⟩,
 ⟨some 6,.mv (.t 5),none⟩,
 ⟨some 7,.fad 5 (.t 1),some (6,true)⟩,
 ⟨some 8,.loadn 4 (.t 7),some (6,true)⟩,
 ⟨some 9,.call 32 [.t 8],some (6,true)⟩,
 ⟨some 10,.pick (.t 6) (.t 9) (.c (.b false)),none⟩,
 ⟨some 11,.mv (.t 10),none⟩,
 ⟨some 12,.fad 11 (.t 1),some (11,true)⟩,
 ⟨some 13,.load1 (.t 12),some (11,true)⟩,
 ⟨some 14,.call 33 [.t 13],some (11,true)⟩,
 ⟨some 15,.pick (.t 11) (.t 14) (.c (.b false)),none⟩,
 ⟨some 2,.mv (.t 15),none⟩])
 (.ret))
theorem is_keep_Verdict:FnIs Tryz.prog 16 16 [.tmp 2] c_keep_Verdict:=⟨⟨_,_,Tryz.func16,rfl,rfl,by kernel_rfl,by kernel_rfl⟩⟩
def c_law31_verdict:SCode :=
 .seq (.reg [⟨some 4,.alloc 41 [.i .i64 0,.i .i64 0,.s [],.s [],.i .i64 0,.i .i64 0,.s [],.s [],.i .i64 0,.b false,.i .u64 0,.nil],none⟩])
 (.seq (.reg [⟨some 8,.mv (.t 0),none⟩,
 ⟨some 9,.bin .rem (.t 8) (.c (.i .i64 20)),none⟩,
 ⟨some 10,.bin .add (.c (.i .i64 97)) (.t 9),none⟩,
 ⟨some 11,.cvi .u8 (.t 10),none⟩,
 ⟨some 12,.bslice 1 [.i .u8 0] [(0,(1,.t 11))],none⟩,
 ⟨some 13,.cvbs (.t 12),none⟩,
 ⟨some 14,.bin .add (.c (.s [97,99,99,116,58,117])) (.t 13),none⟩,
 ⟨some 15,.bin .add (.t 14) (.c (.s [64,97,46,101,120,97,109,112,108,101])),none⟩,
 ⟨some 16,.call 34 [.t 15],none⟩,
 ⟨some 7,.mv (.t 16),none⟩,
 ⟨some 17,.ext (.t 7) 0,none⟩,
 ⟨some 18,.ext (.t 7) 1,none⟩,
 ⟨some 5,.alloc 36 [.i .i64 0,.s [],.s [],.i .i64 0],none⟩,
 ⟨none,.store 4 (.t 5) (.t 17),none⟩,
 ⟨some 6,.mv (.t 18),none⟩])
 (.seq (.reg [⟨some 19,.loadn 4 (.t 5),none⟩,
 ⟨some 20,.mv (.t 1),none⟩,
 ⟨some 21,.build [.b false,.i .u64 0] [(0,(1,.c (.b true))),(1,(1,.t 20))],none⟩,
 ⟨some 22,.build [.i .i64 0,.i .i64 0,.s [],.s [],.i .i64 0,.i .i64 0,.s [],.s [],.i .i64 0,.b false,.i .u64 0,.nil] [(1,(4,.t 19)),(9,(2,.t 21))],none⟩,
 ⟨none,.store 12 (.t 4) (.t 22),none⟩])
 (.ret)))
theorem is_law31_verdict:FnIs Tryz.prog 17 23 [.celln 4 12] c_law31_verdict:=⟨⟨_,_,Tryz.func17,rfl,rfl,by kernel_rfl,by kernel_rfl⟩⟩
def c_cache_Put:SCode :=
 .seq (.reg [⟨some 3,.box 24 (.t 0),none⟩,
 ⟨some 4,.box 41 (.t 1),none⟩,
 ⟨some 6,.alloc 24 [.i .i64 0,.nil],none⟩])
 (.seq (.reg [⟨some 11,.fad 1 (.t 3),none⟩,
 ⟨some 12,.load1 (.t 11),none⟩,
 ⟨some 13,.call 35 [.t 12],none⟩,
 ⟨some 14,.fad 1 (.t 3),none⟩,
 ⟨none,.store 1 (.t 14) (.t 13),none⟩])
 (.seq (.seq (.reg [⟨some 15,.loadn 12 (.t 4),none⟩,
 ⟨some 16,.call 28 [.t 15],none⟩,
 ⟨some 17,.not (.t 16),none⟩,
 ⟨some 18,.mv (.t 17),none⟩,
 ⟨some 19,.fad 0 (.t 3),some (18,false)⟩,
 ⟨some 20,.load1 (.t 19),some (18,false)⟩,
 ⟨some 21,.bin .leq (.t 20) (.c (.i .i64 0)),some (18,false)⟩,
 ⟨some 22,.pick (.t 18) (.c (.b true)) (.t 21),none⟩])
 (.cond (.t 22)
 (.seq (.reg [⟨some 23,.loadn 2 (.t 3),none⟩,
 ⟨none,.store 2 (.t 6) (.t 23),none⟩])
 (.ret))
 (.skip)))
 (.seq (.drw [⟨some 24,.loadn 12 (.t 4),none⟩,
 ⟨some 25,.pcall 36 [.t 24],none⟩,
 ⟨some 26,.mv (.t 2),none⟩,
 ⟨some 27,.mv (.t 2),none⟩,
 ⟨some 28,.fad 9 (.t 4),none⟩,
 ⟨some 29,.fad 1 (.t 28),none⟩,
 ⟨some 30,.load1 (.t 29),none⟩,
 ⟨some 31,.pcall 29 [.t 27,.t 30],none⟩,
 ⟨some 32,.build [.i .i64 0,.i .i64 0,.s [],.s [],.i .i64 0,.i .i64 0,.s [],.s [],.i .i64 0,.b false,.i .u64 0,.nil,.i .u64 0,.i .u64 0] [(0,(12,.t 25)),(12,(1,.t 26)),(13,(1,.t 31))],none⟩,
 ⟨some 7,.alloc 43 [.i .i64 0,.i .i64 0,.s [],.s [],.i .i64 0,.i .i64 0,.s [],.s [],.i .i64 0,.b false,.i .u64 0,.nil,.i .u64 0,.i .u64 0],none⟩,
 ⟨none,.store 14 (.t 7) (.t 32),none⟩] 11 [(4,(7,none)),(29,(7,none))])
 (.seq (.reg [⟨some 34,.fad 1 (.t 3),none⟩,
 ⟨some 35,.load1 (.t 34),none⟩,
 ⟨some 36,.fad 1 (.t 4),none⟩,
 ⟨some 37,.fad 1 (.t 36),none⟩,
 ⟨some 38,.load1 (.t 37),none⟩,
 ⟨some 39,.call 37 [.t 35,.t 38],none⟩,
 ⟨some 33,.mv (.t 39),none⟩,
 ⟨some 40,.ext (.t 33) 0,none⟩,
 ⟨some 41,.ext (.t 33) 1,none⟩,
 ⟨some 8,.mv (.t 40),none⟩,
 ⟨some 9,.mv (.t 41),none⟩])
 (.seq (.seq (.reg [⟨some 42,.mv (.t 9),none⟩])
 (.cond (.t 42)
 (.seq (.reg [⟨some 43,.fad 1 (.t 3),none⟩,
 ⟨some 44,.load1 (.t 43),none⟩,
 ⟨some 45,.mv (.t 8),none⟩,
 ⟨some 46,.loadn 14 (.t 7),none⟩,
 ⟨some 47,.iad 14 (.t 44) (.t 45),none⟩,
 ⟨none,.store 14 (.t 47) (.t 46),none⟩])
 (.seq (.reg [⟨some 48,.loadn 2 (.t 3),none⟩,
 ⟨none,.store 2 (.t 6) (.t 48),none⟩])
 (.ret)))
 (.skip)))
 (.seq (.seq (.reg [⟨some 49,.fad 1 (.t 3),none⟩,
 ⟨some 50,.load1 (.t 49),none⟩,
 ⟨some 51,.lenr (.t 50),none⟩,
 ⟨some 52,.fad 0 (.t 3),none⟩,
 ⟨some 53,.load1 (.t 52),none⟩,
 ⟨some 54,.bin .geq (.t 51) (.t 53),none⟩])
 (.cond (.t 54)
 (.seq (.reg [⟨some 55,.fad 1 (.t 3),none⟩,
 ⟨some 56,.load1 (.t 55),none⟩,
 ⟨some 57,.call 38 [.t 56],none⟩,
 ⟨some 10,.mv (.t 57),none⟩])
 (.seq (.reg [⟨some 58,.fad 1 (.t 3),none⟩,
 ⟨some 59,.load1 (.t 58),none⟩,
 ⟨some 60,.mv (.t 10),none⟩,
 ⟨some 61,.mv (.t 10),none⟩,
 ⟨some 62,.bin .add (.t 61) (.c (.i .i64 1)),none⟩,
 ⟨some 63,.call 39 [.t 59,.t 60,.t 62],none⟩,
 ⟨some 64,.fad 1 (.t 3),none⟩,
 ⟨none,.store 1 (.t 64) (.t 63),none⟩])
 (.seq (.reg [⟨some 65,.mv (.t 10),none⟩,
 ⟨some 66,.mv (.t 8),none⟩,
 ⟨some 67,.bin .lss (.t 65) (.t 66),none⟩])
 (.cond (.t 67)
 (.reg [⟨some 68,.mv (.t 8),none⟩,
 ⟨some 69,.bin .sub (.t 68) (.c (.i .i64 1)),none⟩,
 ⟨some 8,.mv (.t 69),none⟩])
 (.skip)))))
 (.skip)))
 (.seq (.reg [⟨some 70,.fad 1 (.t 3),none⟩,
 ⟨some 71,.load1 (.t 70),none⟩,
 ⟨some 72,.mv (.t 8),none⟩,
 ⟨some 73,.loadn 14 (.t 7),none⟩,
 ⟨some 74,.bslice 1 [.i .i64 0,.i .i64 0,.s [],.s [],.i .i64 0,.i .i64 0,.s [],.s [],.i .i64 0,.b false,.i .u64 0,.nil,.i .u64 0,.i .u64 0] [(0,(14,.t 73))],none⟩,
 ⟨some 75,.call 40 [.t 71,.t 72,.t 74],none⟩,
 ⟨some 76,.fad 1 (.t 3),none⟩,
 ⟨none,.store 1 (.t 76) (.t 75),none⟩])
 (.seq (.reg [⟨some 77,.loadn 2 (.t 3),none⟩,
 ⟨none,.store 2 (.t 6) (.t 77),none⟩])
 (.ret)))))))))
theorem is_cache_Put:FnIs Tryz.prog 18 78 [.celln 6 2] c_cache_Put:=⟨⟨_,_,Tryz.func18,rfl,rfl,by kernel_rfl,by kernel_rfl⟩⟩
def c_ref31_Put:SCode :=
 .seq (.reg [⟨some 3,.box 24 (.t 0),none⟩,
 ⟨some 4,.box 41 (.t 1),none⟩,
 ⟨some 6,.alloc 24 [.i .i64 0,.nil],none⟩])
 (.seq (.seq (.reg [⟨some 19,.loadn 12 (.t 4),none⟩,
 ⟨some 20,.call 30 [.t 19],none⟩,
 ⟨some 21,.not (.t 20),none⟩,
 ⟨some 22,.mv (.t 21),none⟩,
 ⟨some 23,.fad 0 (.t 3),some (22,false)⟩,
 ⟨some 24,.load1 (.t 23),some (22,false)⟩,
 ⟨some 25,.bin .eql (.t 24) (.c (.i .i64 0)),some (22,false)⟩,
 ⟨some 26,.pick (.t 22) (.c (.b true)) (.t 25),none⟩])
 (.cond (.t 26)
 (.seq (.reg [⟨some 27,.loadn 2 (.t 3),none⟩,
 ⟨none,.store 2 (.t 6) (.t 27),none⟩])
 (.ret))
 (.skip)))
 (.seq (.reg [⟨some 7,.mv (.c .nil),none⟩])
 (.seq (.reg [⟨some 8,.mv (.c (.i .i64 (-1))),none⟩])
 (.seq (.seq (.reg [⟨some 28,.fad 1 (.t 3),none⟩,
 ⟨some 29,.load1 (.t 28),none⟩,
 ⟨some 30,.lenr (.t 29),none⟩,
 ⟨some 31,.mv (.c (.i .i64 0)),none⟩])
 (.blk 0
 (.loop
 (.seq (.reg [⟨some 32,.bin .lss (.t 31) (.t 30),none⟩])
 (.seq (.cond (.t 32)
 (.skip)
 (.exit 0))
 (.seq (.blk 1
 (.seq (.reg [⟨some 33,.mv (.t 31),none⟩,
 ⟨some 34,.iad 14 (.t 29) (.t 31),none⟩,
 ⟨some 35,.loadn 14 (.t 34),none⟩,
 ⟨some 10,.alloc 43 [.i .i64 0,.i .i64 0,.s [],.s [],.i .i64 0,.i .i64 0,.s [],.s [],.i .i64 0,.b false,.i .u64 0,.nil,.i .u64 0,.i .u64 0],none⟩,
 ⟨some 9,.mv (.t 33),none⟩,
 ⟨none,.store 14 (.t 10) (.t 35),none⟩])
 (.seq (.seq (.drw [⟨some 36,.mv (.t 8),none⟩,
 ⟨some 37,.bin .lss (.t 36) (.c (.i .i64 0)),none⟩,
 ⟨some 38,.mv (.t 37),none⟩,
 ⟨some 39,.fad 13 (.t 10),some (38,false)⟩,
 ⟨some 40,.load1 (.t 39),some (38,false)⟩,
 ⟨some 41,.fad 1 (.t 3),some (38,false)⟩,
 ⟨some 42,.load1 (.t 41),some (38,false)⟩,
 ⟨some 43,.mv (.t 8),some (38,false)⟩,
 ⟨some 44,.iad 14 (.t 42) (.t 43),some (38,false)⟩,
 ⟨some 45,.fad 13 (.t 44),some (38,false)⟩,
 ⟨some 46,.load1 (.t 45),some (38,false)⟩,
 ⟨some 47,.bin .lss (.t 40) (.t 46),some (38,false)⟩,
 ⟨some 48,.pick (.t 38) (.c (.b true)) (.t 47),none⟩] 13 [])
 (.cond (.t 48)
 (.reg [⟨some 49,.mv (.t 9),none⟩,
 ⟨some 8,.mv (.t 49),none⟩])
 (.skip)))
 (.seq (.reg [⟨some 50,.fad 0 (.t 10),none⟩,
 ⟨some 51,.fad 1 (.t 50),none⟩,
 ⟨some 52,.fad 1 (.t 51),none⟩,
 ⟨some 53,.load1 (.t 52),none⟩,
 ⟨some 54,.fad 1 (.t 4),none⟩,
 ⟨some 55,.fad 1 (.t 54),none⟩,
 ⟨some 56,.load1 (.t 55),none⟩,
 ⟨some 57,.bin .eql (.t 53) (.t 56),none⟩])
 (.cond (.t 57)
 (.seq (.reg [⟨some 8,.mv (.c (.i .i64 (-2))),none⟩])
 (.exit 0))
 (.skip))))))
 (.reg [⟨some 58,.bin .add (.t 31) (.c (.i .i64 1)),none⟩,
 ⟨some 31,.mv (.t 58),none⟩])))))))
 (.seq (.seq (.reg [⟨some 59,.fad 1 (.t 3),none⟩,
 ⟨some 60,.load1 (.t 59),none⟩,
 ⟨some 61,.lenr (.t 60),none⟩,
 ⟨some 62,.mv (.c (.i .i64 0)),none⟩])
 (.blk 2
 (.loop
 (.seq (.reg [⟨some 63,.bin .lss (.t 62) (.t 61),none⟩])
 (.seq (.cond (.t 63)
 (.skip)
 (.exit 2))
 (.seq (.blk 3
 (.seq (.reg [⟨some 64,.mv (.t 62),none⟩,
 ⟨some 65,.iad 14 (.t 60) (.t 62),none⟩,
 ⟨some 66,.loadn 14 (.t 65),none⟩,
 ⟨some 12,.alloc 43 [.i .i64 0,.i .i64 0,.s [],.s [],.i .i64 0,.i .i64 0,.s [],.s [],.i .i64 0,.b false,.i .u64 0,.nil,.i .u64 0,.i .u64 0],none⟩,
 ⟨some 11,.mv (.t 64),none⟩,
 ⟨none,.store 14 (.t 12) (.t 66),none⟩])
 (.seq (.reg [⟨some 67,.fad 0 (.t 12),none⟩,
 ⟨some 68,.fad 1 (.t 67),none⟩,
 ⟨some 69,.fad 1 (.t 68),none⟩,
 ⟨some 70,.load1 (.t 69),none⟩,
 ⟨some 71,.fad 1 (.t 4),none⟩,
 ⟨some 72,.fad 1 (.t 71),none⟩,
 ⟨some 73,.load1 (.t 72),none⟩,
 ⟨some 74,.bin .neq (.t 70) (.t 73),none⟩,
 ⟨some 75,.mv (.t 74),none⟩,
 ⟨some 76,.mv (.t 8),some (75,true)⟩,
 ⟨some 77,.bin .eql (.t 76) (.c (.i .i64 (-2))),some (75,true)⟩,
 ⟨some 78,.mv (.t 77),some (75,true)⟩,
 ⟨some 79,.fad 1 (.t 3),some (78,false)⟩,
 ⟨some 80,.load1 (.t 79),some (78,false)⟩,
 ⟨some 81,.lenr (.t 80),some (78,false)⟩,
 ⟨some 82,.fad 0 (.t 3),some (78,false)⟩,
 ⟨some 83,.load1 (.t 82),some (78,false)⟩,
 ⟨some 84,.bin .lss (.t 81) (.t 83),some (78,false)⟩,
 ⟨some 85,.pick (.t 78) (.c (.b true)) (.t 84),some (75,true)⟩,
 ⟨some 86,.mv (.t 85),some (75,true)⟩,
 ⟨some 87,.mv (.t 11),some (86,false)⟩,
 ⟨some 88,.mv (.t 8),some (86,false)⟩,
 ⟨some 89,.bin .neq (.t 87) (.t 88),some (86,false)⟩,
 ⟨some 90,.pick (.t 86) (.c (.b true)) (.t 89),some (75,true)⟩,
 ⟨some 91,.pick (.t 75) (.t 90) (.c (.b false)),none⟩])
 (.cond (.t 91)
 (.reg [⟨some 92,.mv (.t 7),none⟩,
 ⟨some 93,.loadn 14 (.t 12),none⟩,
 ⟨some 94,.bslice 1 [.i .i64 0,.i .i64 0,.s [],.s [],.i .i64 0,.i .i64 0,.s [],.s [],.i .i64 0,.b false,.i .u64 0,.nil,.i .u64 0,.i .u64 0] [(0,(14,.t 93))],none⟩,
 ⟨some 95,.app 43 14 160 (.t 92) (.t 94),none⟩,
 ⟨some 7,.mv (.t 95),none⟩])
 (.skip)))))
 (.reg [⟨some 96,.bin .add (.t 62) (.c (.i .i64 1)),none⟩,
 ⟨some 62,.mv (.t 96),none⟩])))))))
 (.seq (.reg [⟨some 97,.fad 0 (.t 3),none⟩,
 ⟨some 98,.load1 (.t 97),none⟩,
 ⟨some 99,.build [.i .i64 0,.nil] [(0,(1,.t 98))],none⟩,
 ⟨some 13,.alloc 24 [.i .i64 0,.nil],none⟩,
 ⟨none,.store 2 (.t 13) (.t 99),none⟩])
 (.seq (.drw [⟨some 100,.loadn 12 (.t 4),none⟩,
 ⟨some 101,.mv (.t 2),none⟩,
 ⟨some 102,.mv (.t 2),none⟩,
 ⟨some 103,.fad 9 (.t 4),none⟩,
 ⟨some 104,.fad 1 (.t 103),none⟩,
 ⟨some 105,.load1 (.t 104),none⟩,
 ⟨some 106,.pcall 31 [.t 102,.t 105],none⟩,
 ⟨some 107,.build [.i .i64 0,.i .i64 0,.s [],.s [],.i .i64 0,.i .i64 0,.s [],.s [],.i .i64 0,.b false,.i .u64 0,.nil,.i .u64 0,.i .u64 0] [(0,(12,.t 100)),(12,(1,.t 101)),(13,(1,.t 106))],none⟩,
 ⟨some 14,.alloc 43 [.i .i64 0,.i .i64 0,.s [],.s [],.i .i64 0,.i .i64 0,.s [],.s [],.i .i64 0,.b false,.i .u64 0,.nil,.i .u64 0,.i .u64 0],none⟩,
 ⟨none,.store 14 (.t 14) (.t 107),none⟩] 10 [(4,(14,none)),(104,(14,none))])
 (.seq (.seq (.reg [⟨some 108,.mv (.t 7),none⟩,
 ⟨some 109,.lenr (.t 108),none⟩,
 ⟨some 110,.mv (.c (.i .i64 0)),none⟩])
 (.blk 4
 (.loop
 (.seq (.reg [⟨some 111,.bin .lss (.t 110) (.t 109),none⟩])
 (.seq (.cond (.t 111)
 (.skip)
 (.exit 4))
 (.seq (.blk 5
 (.seq (.reg [⟨some 112,.iad 14 (.t 108) (.t 110),none⟩,
 ⟨some 113,.loadn 14 (.t 112),none⟩,
 ⟨some 16,.alloc 43 [.i .i64 0,.i .i64 0,.s [],.s [],.i .i64 0,.i .i64 0,.s [],.s [],.i .i64 0,.b false,.i .u64 0,.nil,.i .u64 0,.i .u64 0],none⟩,
 ⟨none,.store 14 (.t 16) (.t 113),none⟩])
 (.seq (.reg [⟨some 114,.fad 0 (.t 16),none⟩,
 ⟨some 115,.fad 1 (.t 114),none⟩,
 ⟨some 116,.fad 1 (.t 115),none⟩,
 ⟨some 117,.load1 (.t 116),none⟩,
 ⟨some 118,.fad 1 (.t 4),none⟩,
 ⟨some 119,.fad 1 (.t 118),none⟩,
 ⟨some 120,.load1 (.t 119),none⟩,
 ⟨some 121,.pu (.scmp .lss) [.t 117,.t 120],none⟩])
 (.cond (.t 121)
 (.reg [⟨some 122,.fad 1 (.t 13),none⟩,
 ⟨some 123,.load1 (.t 122),none⟩,
 ⟨some 124,.loadn 14 (.t 16),none⟩,
 ⟨some 125,.bslice 1 [.i .i64 0,.i .i64 0,.s [],.s [],.i .i64 0,.i .i64 0,.s [],.s [],.i .i64 0,.b false,.i .u64 0,.nil,.i .u64 0,.i .u64 0] [(0,(14,.t 124))],none⟩,
 ⟨some 126,.app 43 14 160 (.t 123) (.t 125),none⟩,
 ⟨some 127,.fad 1 (.t 13),none⟩,
 ⟨none,.store 1 (.t 127) (.t 126),none⟩])
 (.skip)))))
 (.reg [⟨some 128,.bin .add (.t 110) (.c (.i .i64 1)),none⟩,
 ⟨some 110,.mv (.t 128),none⟩])))))))
 (.seq (.reg [⟨some 129,.fad 1 (.t 13),none⟩,
 ⟨some 130,.load1 (.t 129),none⟩,
 ⟨some 131,.loadn 14 (.t 14),none⟩,
 ⟨some 132,.bslice 1 [.i .i64 0,.i .i64 0,.s [],.s [],.i .i64 0,.i .i64 0,.s [],.s [],.i .i64 0,.b false,.i .u64 0,.nil,.i .u64 0,.i .u64 0] [(0,(14,.t 131))],none⟩,
 ⟨some 133,.app 43 14 160 (.t 130) (.t 132),none⟩,
 ⟨some 134,.fad 1 (.t 13),none⟩,
 ⟨none,.store 1 (.t 134) (.t 133),none⟩])
 (.seq (.seq (.reg [⟨some 135,.mv (.t 7),none⟩,
 ⟨some 136,.lenr (.t 135),none⟩,
 ⟨some 137,.mv (.c (.i .i64 0)),none⟩])
 (.blk 6
 (.loop
 (.seq (.reg [⟨some 138,.bin .lss (.t 137) (.t 136),none⟩])
 (.seq (.cond (.t 138)
 (.skip)
 (.exit 6))
 (.seq (.blk 7
 (.seq (.reg [⟨some 139,.iad 14 (.t 135) (.t 137),none⟩,
 ⟨some 140,.loadn 14 (.t 139),none⟩,
 ⟨some 18,.alloc 43 [.i .i64 0,.i .i64 0,.s [],.s [],.i .i64 0,.i .i64 0,.s [],.s [],.i .i64 0,.b false,.i .u64 0,.nil,.i .u64 0,.i .u64 0],none⟩,
 ⟨none,.store 14 (.t 18) (.t 140),none⟩])
 (.seq (.reg [⟨some 141,.fad 0 (.t 18),none⟩,
 ⟨some 142,.fad 1 (.t 141),none⟩,
 ⟨some 143,.fad 1 (.t 142),none⟩,
 ⟨some 144,.load1 (.t 143),none⟩,
 ⟨some 145,.fad 1 (.t 4),none⟩,
 ⟨some 146,.fad 1 (.t 145),none⟩,
 ⟨some 147,.load1 (.t 146),none⟩,
 ⟨some 148,.pu (.scmp .gtr) [.t 144,.t 147],none⟩])
 (.cond (.t 148)
 (.reg [⟨some 149,.fad 1 (.t 13),none⟩,
 ⟨some 150,.load1 (.t 149),none⟩,
 ⟨some 151,.loadn 14 (.t 18),none⟩,
 ⟨some 152,.bslice 1 [.i .i64 0,.i .i64 0,.s [],.s [],.i .i64 0,.i .i64 0,.s [],.s [],.i .i64 0,.b false,.i .u64 0,.nil,.i .u64 0,.i .u64 0] [(0,(14,.t 151))],none⟩,
 ⟨some 153,.app 43 14 160 (.t 150) (.t 152),none⟩,
 ⟨some 154,.fad 1 (.t 13),none⟩,
 ⟨none,.store 1 (.t 154) (.t 153),none⟩])
 (.skip)))))
 (.reg [⟨some 155,.bin .add (.t 137) (.c (.i .i64 1)),none⟩,
 ⟨some 137,.mv (.t 155),none⟩])))))))
 (.seq (.reg [⟨some 156,.loadn 2 (.t 13),none⟩,
 ⟨none,.store 2 (.t 6) (.t 156),none⟩])
 (.ret))))))))))))
theorem is_ref31_Put:FnIs Tryz.prog 19 157 [.celln 6 2] c_ref31_Put:=⟨⟨_,_,Tryz.func19,rfl,rfl,by kernel_rfl,by kernel_rfl⟩⟩
def c_cache_Get:SCode :=
 .seq (.reg [⟨some 3,.box 24 (.t 0),none⟩,
 ⟨some 6,.alloc 41 [.i .i64 0,.i .i64 0,.s [],.s [],.i .i64 0,.i .i64 0,.s [],.s [],.i .i64 0,.b false,.i .u64 0,.nil],none⟩,
 ⟨some 7,.mv (.c (.b false)),none⟩])
 (.seq (.reg [⟨some 11,.fad 1 (.t 3),none⟩,
 ⟨some 12,.load1 (.t 11),none⟩,
 ⟨some 13,.mv (.t 1),none⟩,
 ⟨some 14,.call 37 [.t 12,.t 13],none⟩,
 ⟨some 10,.mv (.t 14),none⟩,
 ⟨some 15,.ext (.t 10) 0,none⟩,
 ⟨some 16,.ext (.t 10) 1,none⟩,
 ⟨some 8,.mv (.t 15),none⟩,
 ⟨some 9,.mv (.t 16),none⟩])
 (.seq (.seq (.reg [⟨some 17,.mv (.t 9),none⟩,
 ⟨some 18,.not (.t 17),none⟩,
 ⟨some 19,.mv (.t 18),none⟩,
 ⟨some 20,.mv (.t 2),some (19,false)⟩,
 ⟨some 21,.fad 1 (.t 3),some (19,false)⟩,
 ⟨some 22,.load1 (.t 21),some (19,false)⟩,
 ⟨some 23,.mv (.t 8),some (19,false)⟩,
 ⟨some 24,.iad 14 (.t 22) (.t 23),some (19,false)⟩,
 ⟨some 25,.fad 12 (.t 24),some (19,false)⟩,
 ⟨some 26,.load1 (.t 25),some (19,false)⟩,
 ⟨some 27,.bin .lss (.t 20) (.t 26),some (19,false)⟩,
 ⟨some 28,.pick (.t 19) (.c (.b true)) (.t 27),none⟩,
 ⟨some 29,.mv (.t 28),none⟩,
 ⟨some 30,.mv (.t 2),some (29,false)⟩,
 ⟨some 31,.fad 1 (.t 3),some (29,false)⟩,
 ⟨some 32,.load1 (.t 31),some (29,false)⟩,
 ⟨some 33,.mv (.t 8),some (29,false)⟩,
 ⟨some 34,.iad 14 (.t 32) (.t 33),some (29,false)⟩,
 ⟨some 35,.fad 13 (.t 34),some (29,false)⟩,
 ⟨some 36,.load1 (.t 35),some (29,false)⟩,
 ⟨some 37,.bin .geq (.t 30) (.t 36),some (29,false)⟩,
 ⟨some 38,.pick (.t 29) (.c (.b true)) (.t 37),none⟩])
 (.cond (.t 38)
 (.seq (.reg [⟨some 39,.build [.i .i64 0,.i .i64 0,.s [],.s [],.i .i64 0,.i .i64 0,.s [],.s [],.i .i64 0,.b false,.i .u64 0,.nil] [],none⟩,
 ⟨none,.store 12 (.t 6) (.t 39),none⟩,
 ⟨some 7,.mv (.c (.b false)),none⟩])
 (.ret))
 (.skip)))
 (.seq (.reg [⟨some 40,.fad 1 (.t 3),none⟩,
 ⟨some 41,.load1 (.t 40),none⟩,
 ⟨some 42,.mv (.t 8),none⟩,
 ⟨some 43,.iad 14 (.t 41) (.t 42),none⟩,
 ⟨some 44,.fad 0 (.t 43),none⟩,
 ⟨some 45,.loadn 12 (.t 44),none⟩,
 ⟨some 46,.call 36 [.t 45],none⟩,
 ⟨none,.store 12 (.t 6) (.t 46),none⟩,
 ⟨some 7,.mv (.c (.b true)),none⟩])
 (.ret))))
theorem is_cache_Get:FnIs Tryz.prog 20 47 [.celln 6 12,.tmp 7] c_cache_Get:=⟨⟨_,_,Tryz.func20,rfl,rfl,by kernel_rfl,by kernel_rfl⟩⟩
def c_ref31_Get:SCode :=
 .seq (.reg [⟨some 3,.box 24 (.t 0),none⟩,
 ⟨some 6,.alloc 41 [.i .i64 0,.i .i64 0,.s [],.s [],.i .i64 0,.i .i64 0,.s [],.s [],.i .i64 0,.b false,.i .u64 0,.nil],none⟩,
 ⟨some 7,.mv (.c (.b false)),none⟩])
 (.seq (.seq (.reg [⟨some 10,.fad 1 (.t 3),none⟩,
 ⟨some 11,.load1 (.t 10),none⟩,
 ⟨some 12,.lenr (.t 11),none⟩,
 ⟨some 13,.mv (.c (.i .i64 0)),none⟩])
 (.blk 0
 (.loop
 (.seq (.reg [⟨some 14,.bin .lss (.t 13) (.t 12),none⟩])
 (.seq (.cond (.t 14)
 (.skip)
 (.exit 0))
 (.seq (.blk 1
 (.seq (.reg [⟨some 15,.iad 14 (.t 11) (.t 13),none⟩,
 ⟨some 16,.loadn 14 (.t 15),none⟩,
 ⟨some 9,.alloc 43 [.i .i64 0,.i .i64 0,.s [],.s [],.i .i64 0,.i .i64 0,.s [],.s [],.i .i64 0,.b false,.i .u64 0,.nil,.i .u64 0,.i .u64 0],none⟩,
 ⟨none,.store 14 (.t 9) (.t 16),none⟩])
 (.seq (.reg [⟨some 17,.fad 0 (.t 9),none⟩,
 ⟨some 18,.fad 1 (.t 17),none⟩,
 ⟨some 19,.fad 1 (.t 18),none⟩,
 ⟨some 20,.load1 (.t 19),none⟩,
 ⟨some 21,.mv (.t 1),none⟩,
 ⟨some 22,.bin .eql (.t 20) (.t 21),none⟩,
 ⟨some 23,.mv (.t 22),none⟩,
 ⟨some 24,.fad 12 (.t 9),some (23,true)⟩,
 ⟨some 25,.load1 (.t 24),some (23,true)⟩,
 ⟨some 26,.mv (.t 2),some (23,true)⟩,
 ⟨some 27,.bin .leq (.t 25) (.t 26),some (23,true)⟩,
 ⟨some 28,.pick (.t 23) (.t 27) (.c (.b false)),none⟩,
 ⟨some 29,.mv (.t 28),none⟩,
 ⟨some 30,.mv (.t 2),some (29,true)⟩,
 ⟨some 31,.fad 13 (.t 9),some (29,true)⟩,
 ⟨some 32,.load1 (.t 31),some (29,true)⟩,
 ⟨some 33,.bin .lss (.t 30) (.t 32),some (29,true)⟩,
 ⟨some 34,.pick (.t 29) (.t 33) (.c (.b false)),none⟩])
 (.cond (.t 34)
 (.seq (.reg [⟨some 35,.fad 0 (.t 9),none⟩,
 ⟨some 36,.loadn 12 (.t 35),none⟩,
 ⟨none,.store 12 (.t 6) (.t 36),none⟩,
 ⟨some 7,.mv (.c (.b true)),none⟩])
 (.ret))
 (.skip)))))
 (.reg [⟨some 37,.bin .add (.t 13) (.c (.i .i64 1)),none⟩,
 ⟨some 13,.mv (.t 37),none⟩])))))))
 (.seq (.reg [⟨some 38,.build [.i .i64 0,.i .i64 0,.s [],.s [],.i .i64 0,.i .i64 0,.s [],.s [],.i .i64 0,.b false,.i .u64 0,.nil] [],none⟩,
 ⟨none,.store 12 (.t 6) (.t 38),none⟩,
 ⟨some 7,.mv (.c (.b false)),none⟩])
 (.ret)))
theorem is_ref31_Get:FnIs Tryz.prog 21 39 [.celln 6 12,.tmp 7] c_ref31_Get:=⟨⟨_,_,Tryz.func21,rfl,rfl,by kernel_rfl,by kernel_rfl⟩⟩
def c_ref30_Same:SCode :=
 .seq (.reg [⟨some 2,.box 41 (.t 0),none⟩,
 ⟨some 3,.box 41 (.t 1),none⟩,
 ⟨some 4,.mv (.c (.b false)),none⟩])
 (.seq (.reg [⟨some 5,.fad 0 (.t 2),none⟩,
 ⟨some 6,.load1 (.t 5),none⟩,
 ⟨some 7,.fad 0 (.t 3),none⟩,
 ⟨some 8,.load1 (.t 7),none⟩,
 ⟨some 9,.bin .eql (.t 6) (.t 8),none⟩,
 ⟨some 10,.mv (.t 9),none⟩,
 ⟨some 11,.fad 1 (.t 2),some (10,true)⟩,
 ⟨some 12,.loadn 4 (.t 11),some (10,true)⟩,
 ⟨some 13,.fad 1 (.t 3),some (10,true)⟩,
 ⟨some 14,.loadn 4 (.t 13),some (10,true)⟩,
 ⟨some 15,.eqs false (.str [(0,(none,.ti)),(1,(none,.ts)),(2,(none,.ts)),(3,(none,.ti))]) (.t 12) (.t 14),some (10,true)⟩,
 ⟨some 16,.pick (.t 10) (.t 15) (.c (.b false)),none⟩,
 ⟨some 17,.mv (.t 16),none⟩,
 ⟨some 18,.fad 5 (.t 2),some (17,true)⟩,
 ⟨some 19,.loadn 4 (.t 18),some (17,true)⟩,
 ⟨some 20,.fad 5 (.t 3),some (17,true)⟩,
 ⟨some 21,.loadn 4 (.t 20),some (17,true)⟩,
 ⟨some 22,.eqs false (.str [(0,(none,.ti)),(1,(none,.ts)),(2,(none,.ts)),(3,(none,.ti))]) (.t 19) (.t 21),some (17,true)⟩,
 ⟨some 23,.pick (.t 17) (.t 22) (.c (.b false)),none⟩,
 ⟨some 24,.mv (.t 23),none⟩,
 ⟨some 25,.fad 9 (.t 2),some (24,true)⟩,
 ⟨some 26,.loadn 2 (.t 25),some (24,true)⟩,
 ⟨some 27,.fad 9 (.t 3),some (24,true)⟩,
 ⟨some 28,.loadn 2 (.t 27),some (24,true)⟩,
 ⟨some 29,.eqs false (.str [(0,(none,.tb)),(1,(none,.ti))]) (.t 26) (.t 28),some (24,true)⟩,
 ⟨some 30,.pick (.t 24) (.t 29) (.c (.b false)),none⟩,
 ⟨some 31,.mv (.t 30),none⟩,
 ⟨some 32,.fad 11 (.t 2),some (31,true)⟩,
 ⟨some 33,.load1 (.t 32),some (31,true)⟩,
 ⟨some 34,.fad 11 (.t 3),some (31,true)⟩,
 ⟨some 35,.load1 (.t 34),some (31,true)⟩,
 ⟨some 36,.call 41 [.t 33,.t 35],some (31,true)⟩,
 ⟨some 37,.pick (.t 31) (.t 36) (.c (.b false)),none⟩,
 ⟨some 4,.mv (.t 37),none⟩])
 (.ret))
theorem is_ref30_Same:FnIs Tryz.prog 22 38 [.tmp 4] c_ref30_Same:=⟨⟨_,_,Tryz.func22,rfl,rfl,by kernel_rfl,by kernel_rfl⟩⟩
def c_cache_Expire:SCode :=
 .seq (.reg [⟨some 2,.box 24 (.t 0),none⟩,
 ⟨some 3,.box 31 (.t 1),none⟩,
 ⟨some 4,.alloc 24 [.i .i64 0,.nil],none⟩])
 (.seq (.reg [⟨some 5,.fad 1 (.t 2),none⟩,
 ⟨some 6,.load1 (.t 5),none⟩,
 ⟨some 7,.call 35 [.t 6],none⟩,
 ⟨some 8,.mkf 43 [] [.t 3],none⟩,
 ⟨some 9,.call 42 [.t 7,.t 8],none⟩,
 ⟨some 10,.fad 1 (.t 2),none⟩,
 ⟨none,.store 1 (.t 10) (.t 9),none⟩])
 (.seq (.reg [⟨some 11,.loadn 2 (.t 2),none⟩,
 ⟨none,.store 2 (.t 4) (.t 11),none⟩])
 (.ret)))
theorem is_cache_Expire:FnIs Tryz.prog 23 12 [.celln 4 2] c_cache_Expire:=⟨⟨_,_,Tryz.func23,rfl,rfl,by kernel_rfl,by kernel_rfl⟩⟩
def c_ref31_Expire:SCode :=
 .seq (.reg [⟨some 2,.box 24 (.t 0),none⟩,
 ⟨some 4,.alloc 24 [.i .i64 0,.nil],none⟩])
 (.seq (.reg [⟨some 8,.fad 0 (.t 2),none⟩,
 ⟨some 9,.load1 (.t 8),none⟩,
 ⟨some 10,.build [.i .i64 0,.nil] [(0,(1,.t 9))],none⟩,
 ⟨some 5,.alloc 24 [.i .i64 0,.nil],none⟩,
 ⟨none,.store 2 (.t 5) (.t 10),none⟩])
 (.seq (.seq (.reg [⟨some 11,.fad 1 (.t 2),none⟩,
 ⟨some 12,.load1 (.t 11),none⟩,
 ⟨some 13,.lenr (.t 12),none⟩,
 ⟨some 14,.mv (.c (.i .i64 0)),none⟩])
 (.blk 0
 (.loop
 (.seq (.reg [⟨some 15,.bin .lss (.t 14) (.t 13),none⟩])
 (.seq (.cond (.t 15)
 (.skip)
 (.exit 0))
 (.seq (.blk 1
 (.seq (.reg [⟨some 16,.iad 14 (.t 12) (.t 14),none⟩,
 ⟨some 17,.loadn 14 (.t 16),none⟩,
 ⟨some 7,.alloc 43 [.i .i64 0,.i .i64 0,.s [],.s [],.i .i64 0,.i .i64 0,.s [],.s [],.i .i64 0,.b false,.i .u64 0,.nil,.i .u64 0,.i .u64 0],none⟩,
 ⟨none,.store 14 (.t 7) (.t 17),none⟩])
 (.seq (.reg [⟨some 18,.fad 13 (.t 7),none⟩,
 ⟨some 19,.load1 (.t 18),none⟩,
 ⟨some 20,.mv (.t 1),none⟩,
 ⟨some 21,.bin .gtr (.t 19) (.t 20),none⟩])
 (.cond (.t 21)
 (.reg [⟨some 22,.fad 1 (.t 5),none⟩,
 ⟨some 23,.load1 (.t 22),none⟩,
 ⟨some 24,.loadn 14 (.t 7),none⟩,
 ⟨some 25,.bslice 1 [.i .i64 0,.i .i64 0,.s [],.s [],.i .i64 0,.i .i64 0,.s [],.s [],.i .i64 0,.b false,.i .u64 0,.nil,.i .u64 0,.i .u64 0] [(0,(14,.t 24))],none⟩,
 ⟨some 26,.app 43 14 160 (.t 23) (.t 25),none⟩,
 ⟨some 27,.fad 1 (.t 5),none⟩,
 ⟨none,.store 1 (.t 27) (.t 26),none⟩])
 (.skip)))))
 (.reg [⟨some 28,.bin .add (.t 14) (.c (.i .i64 1)),none⟩,
 ⟨some 14,.mv (.t 28),none⟩])))))))
 (.seq (.reg [⟨some 29,.loadn 2 (.t 5),none⟩,
 ⟨none,.store 2 (.t 4) (.t 29),none⟩])
 (.ret))))
theorem is_ref31_Expire:FnIs Tryz.prog 24 30 [.celln 4 2] c_ref31_Expire:=⟨⟨_,_,Tryz.func24,rfl,rfl,by kernel_rfl,by kernel_rfl⟩⟩
def c_made_New:SCode :=
 .seq (.reg [⟨some 2,.mv (.c (.o (.pointer none))),none⟩])
 (.seq (.reg [⟨some 3,.mv (.t 0),none⟩,
 ⟨some 4,.mv (.t 0),none⟩,
 ⟨some 5,.lenr (.t 4),none⟩,
 ⟨some 6,.pu .mn [.t 5,.c (.i .i64 200)],none⟩,
 ⟨some 7,.trn 1 (.t 3) (.t 6),none⟩,
 ⟨some 8,.build [.nil] [(0,(1,.t 7))],none⟩,
 ⟨some 9,.box 77 (.t 8),none⟩,
 ⟨some 2,.mv (.t 9),none⟩])
 (.ret))
theorem is_made_New:FnIs Tryz.prog 25 10 [.tmp 2] c_made_New:=⟨⟨_,_,Tryz.func25,rfl,rfl,by kernel_rfl,by kernel_rfl⟩⟩
def c_made_Dice_Next:SCode :=
 .seq (.reg [⟨some 4,.mv (.c (.i .i64 0)),none⟩])
 (.seq (.seq (.reg [⟨some 6,.mv (.t 0),none⟩,
 ⟨some 7,.nck (.t 6),none⟩,
 ⟨some 8,.fad 0 (.t 7),none⟩,
 ⟨some 9,.load1 (.t 8),none⟩,
 ⟨some 10,.lenr (.t 9),none⟩,
 ⟨some 11,.bin .eql (.t 10) (.c (.i .i64 0)),none⟩,
 ⟨some 12,.mv (.t 11),none⟩,
 ⟨some 13,.mv (.t 1),some (12,false)⟩,
 ⟨some 14,.bin .leq (.t 13) (.c (.i .i64 1)),some (12,false)⟩,
 ⟨some 15,.pick (.t 12) (.c (.b true)) (.t 14),none⟩])
 (.cond (.t 15)
 (.seq (.reg [⟨some 4,.mv (.c (.i .i64 0)),none⟩])
 (.ret))
 (.skip)))
 (.seq (.reg [⟨some 16,.mv (.t 0),none⟩,
 ⟨some 17,.nck (.t 16),none⟩,
 ⟨some 18,.fad 0 (.t 17),none⟩,
 ⟨some 19,.load1 (.t 18),none⟩,
 ⟨some 20,.iad 1 (.t 19) (.c (.i .i64 0)),none⟩,
 ⟨some 21,.load1 (.t 20),none⟩,
 ⟨some 22,.cvi .i64 (.t 21),none⟩,
 ⟨some 5,.mv (.t 22),none⟩])
 (.seq (.reg [⟨some 23,.mv (.t 0),none⟩,
 ⟨some 24,.mv (.t 0),none⟩,
 ⟨some 25,.nck (.t 24),none⟩,
 ⟨some 26,.fad 0 (.t 25),none⟩,
 ⟨some 27,.load1 (.t 26),none⟩,
 ⟨some 28,.pu (.rsl 1) [.t 27,.c (.i .i64 1)],none⟩,
 ⟨some 29,.nck (.t 23),none⟩,
 ⟨some 30,.fad 0 (.t 29),none⟩,
 ⟨none,.store 1 (.t 30) (.t 28),none⟩])
 (.seq (.reg [⟨some 31,.mv (.t 5),none⟩,
 ⟨some 32,.mv (.t 1),none⟩,
 ⟨some 33,.bin .rem (.t 31) (.t 32),none⟩,
 ⟨some 4,.mv (.t 33),none⟩])
 (.ret)))))
theorem is_made_Dice_Next:FnIs Tryz.prog 26 34 [.tmp 4] c_made_Dice_Next:=⟨⟨_,_,Tryz.func26,rfl,rfl,by kernel_rfl,by kernel_rfl⟩⟩
def c_cache_text:SCode :=
 .seq (.reg [⟨some 1,.box 43 (.t 0),none⟩,
 ⟨some 2,.mv (.c (.s [])),none⟩])
 (.seq (.reg [⟨some 3,.fad 0 (.t 1),none⟩,
 ⟨some 4,.fad 1 (.t 3),none⟩,
 ⟨some 5,.fad 1 (.t 4),none⟩,
 ⟨some 6,.load1 (.t 5),none⟩,
 ⟨some 2,.mv (.t 6),none⟩])
 (.ret))
theorem is_cache_text:FnIs Tryz.prog 27 7 [.tmp 2] c_cache_text:=⟨⟨_,_,Tryz.func27,rfl,rfl,by kernel_rfl,by kernel_rfl⟩⟩
def c_cache_mayBeKept:SCode :=
 .seq (.reg [⟨some 1,.box 41 (.t 0),none⟩,
 ⟨some 2,.mv (.c (.b false)),none⟩])
 (.seq (.reg [⟨some 4,.fad 9 (.t 1),none⟩,
 ⟨some 5,.fad 0 (.t 4),none⟩,
 ⟨some 6,.load1 (.t 5),none⟩,
 ⟨some 7,.mv (.t 6),none⟩,
 ⟨some 8,.fad 9 (.t 1),some (7,true)⟩,
 ⟨some 9,.fad 1 (.t 8),some (7,true)⟩,
 ⟨some 10,.load1 (.t 9),some (7,true)⟩,
 ⟨some 11,.bin .geq (.t 10) (.c (.i .u64 1)),some (7,true)⟩,
 ⟨some 12,.pick (.t 7) (.t 11) (.c (.b false)),none⟩,
 ⟨some 13,.mv (.t 12),none⟩,
 ⟨some 14,.fad 9 (.t 1),some (13,true)⟩,
 ⟨some 15,.fad 1 (.t 14),some (13,true)⟩,
 ⟨some 16,.load1 (.t 15),some (13,true)⟩,
 ⟨some 17,.bin .leq (.t 16) (.c (.i .u64 86400)),some (13,true)⟩,
 ⟨some 18,.pick (.t 13) (.t 17) (.c (.b false)),none⟩,
 ⟨some 3,.mv (.t 18),none⟩])
 (.seq (.reg [⟨some 19,.fad 0 (.t 1),none⟩,
 ⟨some 20,.load1 (.t 19),none⟩,
 ⟨some 21,.bin .eql (.t 20) (.c (.i .i64 0)),none⟩,
 ⟨some 22,.mv (.t 21),none⟩,
 ⟨some 23,.mv (.t 3),some (22,true)⟩,
 ⟨some 24,.pick (.t 22) (.t 23) (.c (.b false)),none⟩,
 ⟨some 25,.mv (.t 24),none⟩,
 ⟨some 26,.fad 1 (.t 1),some (25,true)⟩,
 ⟨some 27,.loadn 4 (.t 26),some (25,true)⟩,
 ⟨some 28,.call 44 [.t 27],some (25,true)⟩,
 ⟨some 29,.pick (.t 25) (.t 28) (.c (.b false)),none⟩,
 ⟨some 2,.mv (.t 29),none⟩])
 (.ret)))
theorem is_cache_mayBeKept:FnIs Tryz.prog 28 30 [.tmp 2] c_cache_mayBeKept:=⟨⟨_,_,Tryz.func28,rfl,rfl,by kernel_rfl,by kernel_rfl⟩⟩
def c_number_Add:SCode :=
 .seq (.reg [⟨some 4,.mv (.c (.i .u64 0)),none⟩])
 (.seq (.seq (.reg [⟨some 5,.mv (.t 0),none⟩,
 ⟨some 6,.mv (.t 1),none⟩,
 ⟨some 7,.bin .sub (.c (.i .u64 18446744073709551615)) (.t 6),none⟩,
 ⟨some 8,.bin .gtr (.t 5) (.t 7),none⟩])
 (.cond (.t 8)
 (.seq (.reg [⟨some 4,.mv (.c (.i .u64 18446744073709551615)),none⟩])
 (.ret))
 (.skip)))
 (.seq (.reg [⟨some 9,.mv (.t 0),none⟩,
 ⟨some 10,.mv (.t 1),none⟩,
 ⟨some 11,.bin .add (.t 9) (.t 10),none⟩,
 ⟨some 4,.mv (.t 11),none⟩])
 (.ret)))
theorem is_number_Add:FnIs Tryz.prog 29 12 [.tmp 4] c_number_Add:=⟨⟨_,_,Tryz.func29,rfl,rfl,by kernel_rfl,by kernel_rfl⟩⟩
def c_ref31_cacheable:SCode :=
 .seq (.reg [⟨some 1,.box 41 (.t 0),none⟩,
 ⟨some 2,.mv (.c (.b false)),none⟩])
 (.seq (.reg [⟨some 3,.fad 0 (.t 1),none⟩,
 ⟨some 4,.load1 (.t 3),none⟩,
 ⟨some 5,.bin .eql (.t 4) (.c (.i .i64 0)),none⟩,
 ⟨some 6,.mv (.t 5),none⟩,
 ⟨some 7,.fad 9 (.t 1),some (6,true)⟩,
 ⟨some 8,.fad 0 (.t 7),some (6,true)⟩,
 ⟨some 9,.load1 (.t 8),some (6,true)⟩,
 ⟨some 10,.pick (.t 6) (.t 9) (.c (.b false)),none⟩,
 ⟨some 11,.mv (.t 10),none⟩,
 ⟨some 12,.fad 9 (.t 1),some (11,true)⟩,
 ⟨some 13,.fad 1 (.t 12),some (11,true)⟩,
 ⟨some 14,.load1 (.t 13),some (11,true)⟩,
 ⟨some 15,.bin .geq (.t 14) (.c (.i .u64 1)),some (11,true)⟩,
 ⟨some 16,.pick (.t 11) (.t 15) (.c (.b false)),none⟩,
 ⟨some 17,.mv (.t 16),none⟩,
 ⟨some 18,.fad 9 (.t 1),some (17,true)⟩,
 ⟨some 19,.fad 1 (.t 18),some (17,true)⟩,
 ⟨some 20,.load1 (.t 19),some (17,true)⟩,
 ⟨some 21,.bin .leq (.t 20) (.c (.i .u64 86400)),some (17,true)⟩,
 ⟨some 22,.pick (.t 17) (.t 21) (.c (.b false)),none⟩,
 ⟨some 23,.mv (.t 22),none⟩,
 ⟨some 24,.fad 1 (.t 1),some (23,true)⟩,
 ⟨some 25,.loadn 4 (.t 24),some (23,true)⟩,
 ⟨some 26,.call 45 [.t 25],some (23,true)⟩,
 ⟨some 27,.pick (.t 23) (.t 26) (.c (.b false)),none⟩,
 ⟨some 2,.mv (.t 27),none⟩])
 (.ret))
theorem is_ref31_cacheable:FnIs Tryz.prog 30 28 [.tmp 2] c_ref31_cacheable:=⟨⟨_,_,Tryz.func30,rfl,rfl,by kernel_rfl,by kernel_rfl⟩⟩
def c_ref04_Add:SCode :=
 .seq (.reg [⟨some 4,.mv (.c (.i .u64 0)),none⟩])
 (.seq (.seq (.reg [⟨some 5,.mv (.t 0),none⟩,
 ⟨some 6,.mv (.t 1),none⟩,
 ⟨some 7,.bin .sub (.c (.i .u64 18446744073709551615)) (.t 6),none⟩,
 ⟨some 8,.bin .gtr (.t 5) (.t 7),none⟩])
 (.cond (.t 8)
 (.seq (.reg [⟨some 4,.mv (.c (.i .u64 18446744073709551615)),none⟩])
 (.ret))
 (.skip)))
 (.seq (.reg [⟨some 9,.mv (.t 0),none⟩,
 ⟨some 10,.mv (.t 1),none⟩,
 ⟨some 11,.bin .add (.t 9) (.t 10),none⟩,
 ⟨some 4,.mv (.t 11),none⟩])
 (.ret)))
theorem is_ref04_Add:FnIs Tryz.prog 31 12 [.tmp 4] c_ref04_Add:=⟨⟨_,_,Tryz.func31,rfl,rfl,by kernel_rfl,by kernel_rfl⟩⟩
def c_keep_ID:SCode :=
 .seq (.reg [⟨some 1,.box 36 (.t 0),none⟩,
 ⟨some 2,.mv (.c (.b false)),none⟩])
 (.seq (.reg [⟨some 3,.fad 1 (.t 1),none⟩,
 ⟨some 4,.load1 (.t 3),none⟩,
 ⟨some 5,.lens (.t 4),none⟩,
 ⟨some 6,.fad 2 (.t 1),none⟩,
 ⟨some 7,.load1 (.t 6),none⟩,
 ⟨some 8,.lens (.t 7),none⟩,
 ⟨some 9,.bin .add (.t 5) (.t 8),none⟩,
 ⟨some 10,.bin .leq (.t 9) (.c (.i .i64 1000)),none⟩,
 ⟨some 2,.mv (.t 10),none⟩])
 (.ret))
theorem is_keep_ID:FnIs Tryz.prog 32 11 [.tmp 2] c_keep_ID:=⟨⟨_,_,Tryz.func32,rfl,rfl,by kernel_rfl,by kernel_rfl⟩⟩
def c_keep_Trace:SCode :=
 .seq (.reg [⟨some 2,.mv (.c (.b false)),none⟩])
 (.seq (.seq (.reg [⟨some 5,.mv (.t 0),none⟩,
 ⟨some 6,.lenr (.t 5),none⟩,
 ⟨some 7,.bin .gtr (.t 6) (.c (.i .i64 60)),none⟩])
 (.cond (.t 7)
 (.seq (.reg [⟨some 2,.mv (.c (.b false)),none⟩])
 (.ret))
 (.skip)))
 (.seq (.seq (.reg [⟨some 8,.mv (.t 0),none⟩,
 ⟨some 9,.lenr (.t 8),none⟩,
 ⟨some 10,.mv (.c (.i .i64 0)),none⟩])
 (.blk 0
 (.loop
 (.seq (.reg [⟨some 11,.bin .lss (.t 10) (.t 9),none⟩])
 (.seq (.cond (.t 11)
 (.skip)
 (.exit 0))
 (.seq (.blk 1
 (.seq (.reg [⟨some 12,.iad 9 (.t 8) (.t 10),none⟩,
 ⟨some 13,.loadn 9 (.t 12),none⟩,
 ⟨some 4,.alloc 81 [.s [],.i .i64 0,.s [],.s [],.s [],.b false,.b false,.i .i64 0,.i .i64 0],none⟩,
 ⟨none,.store 9 (.t 4) (.t 13),none⟩])
 (.seq (.reg [⟨some 14,.fad 0 (.t 4),none⟩,
 ⟨some 15,.loadn 7 (.t 14),none⟩,
 ⟨some 16,.call 46 [.t 15],none⟩,
 ⟨some 17,.not (.t 16),none⟩])
 (.cond (.t 17)
 (.seq (.reg [⟨some 2,.mv (.c (.b false)),none⟩])
 (.ret))
 (.skip)))))
 (.reg [⟨some 18,.bin .add (.t 10) (.c (.i .i64 1)),none⟩,
 ⟨some 10,.mv (.t 18),none⟩])))))))
 (.seq (.reg [⟨some 2,.mv (.c (.b true)),none⟩])
 (.ret))))
theorem is_keep_Trace:FnIs Tryz.prog 33 19 [.tmp 2] c_keep_Trace:=⟨⟨_,_,Tryz.func33,rfl,rfl,by kernel_rfl,by kernel_rfl⟩⟩
def c_ref12_Parse:SCode :=
 .seq (.reg [⟨some 2,.alloc 36 [.i .i64 0,.s [],.s [],.i .i64 0],none⟩,
 ⟨some 3,.mv (.c (.i .i64 0)),none⟩])
 (.seq (.seq (.reg [⟨some 9,.mv (.t 0),none⟩,
 ⟨some 10,.lens (.t 9),none⟩,
 ⟨some 11,.bin .gtr (.t 10) (.c (.i .i64 4096)),none⟩])
 (.cond (.t 11)
 (.seq (.reg [⟨some 12,.build [.i .i64 0,.s [],.s [],.i .i64 0] [],none⟩,
 ⟨none,.store 4 (.t 2) (.t 12),none⟩,
 ⟨some 3,.mv (.c (.i .i64 5)),none⟩])
 (.ret))
 (.skip)))
 (.seq (.reg [⟨some 13,.mv (.t 0),none⟩,
 ⟨some 14,.call 47 [.t 13,.c (.s [58])],none⟩,
 ⟨some 4,.mv (.t 14),none⟩])
 (.seq (.seq (.reg [⟨some 15,.mv (.t 4),none⟩,
 ⟨some 16,.mv (.t 0),none⟩,
 ⟨some 17,.lens (.t 16),none⟩,
 ⟨some 18,.bin .eql (.t 15) (.t 17),none⟩])
 (.cond (.t 18)
 (.seq (.reg [⟨some 19,.build [.i .i64 0,.s [],.s [],.i .i64 0] [],none⟩,
 ⟨none,.store 4 (.t 2) (.t 19),none⟩,
 ⟨some 3,.mv (.c (.i .i64 60)),none⟩])
 (.ret))
 (.skip)))
 (.seq (.seq (.reg [⟨some 20,.mv (.t 0),none⟩,
 ⟨some 21,.mv (.t 4),none⟩,
 ⟨some 22,.slcs (.t 20) none (some (.t 21)),none⟩,
 ⟨some 23,.call 48 [.t 22],none⟩])
 (.blk 0
 (.seq (.reg [⟨some 25,.bin .eql (.t 23) (.c (.s [97,99,99,116])),none⟩,
 ⟨some 24,.mv (.t 25),none⟩])
 (.cond (.t 24)
 (.seq (.reg [⟨some 27,.mv (.t 0),none⟩,
 ⟨some 28,.call 49 [.t 27],none⟩,
 ⟨some 26,.mv (.t 28),none⟩,
 ⟨some 29,.ext (.t 26) 0,none⟩,
 ⟨some 30,.ext (.t 26) 1,none⟩,
 ⟨some 5,.alloc 86 [.s [],.s []],none⟩,
 ⟨none,.store 2 (.t 5) (.t 29),none⟩,
 ⟨some 6,.mv (.t 30),none⟩])
 (.seq (.seq (.reg [⟨some 31,.mv (.t 6),none⟩,
 ⟨some 32,.bin .neq (.t 31) (.c (.i .i64 0)),none⟩])
 (.cond (.t 32)
 (.seq (.reg [⟨some 33,.build [.i .i64 0,.s [],.s [],.i .i64 0] [],none⟩,
 ⟨some 34,.mv (.t 6),none⟩,
 ⟨none,.store 4 (.t 2) (.t 33),none⟩,
 ⟨some 3,.mv (.t 34),none⟩])
 (.ret))
 (.skip)))
 (.seq (.drw [⟨some 35,.loadn 2 (.t 5),none⟩,
 ⟨some 36,.call 50 [.t 35],none⟩,
 ⟨some 37,.fad 1 (.t 5),none⟩,
 ⟨some 38,.load1 (.t 37),none⟩,
 ⟨some 39,.build [.i .i64 0,.s [],.s [],.i .i64 0] [(0,(1,.c (.i .i64 1))),(1,(1,.t 36)),(2,(1,.t 38))],none⟩,
 ⟨none,.store 4 (.t 2) (.t 39),none⟩,
 ⟨some 3,.mv (.c (.i .i64 0)),none⟩] 5 [])
 (.ret))))
 (.seq (.reg [⟨some 41,.bin .eql (.t 23) (.c (.s [109,97,105,108,116,111])),none⟩,
 ⟨some 40,.mv (.t 41),none⟩])
 (.cond (.t 40)
 (.seq (.reg [⟨some 43,.mv (.t 0),none⟩,
 ⟨some 44,.call 51 [.t 43],none⟩,
 ⟨some 42,.mv (.t 44),none⟩,
 ⟨some 45,.ext (.t 42) 0,none⟩,
 ⟨some 46,.ext (.t 42) 1,none⟩,
 ⟨some 7,.alloc 91 [.s [],.s []],none⟩,
 ⟨none,.store 2 (.t 7) (.t 45),none⟩,
 ⟨some 8,.mv (.t 46),none⟩])
 (.seq (.seq (.reg [⟨some 47,.mv (.t 8),none⟩,
 ⟨some 48,.bin .neq (.t 47) (.c (.i .i64 0)),none⟩])
 (.cond (.t 48)
 (.seq (.reg [⟨some 49,.build [.i .i64 0,.s [],.s [],.i .i64 0] [],none⟩,
 ⟨some 50,.mv (.t 8),none⟩,
 ⟨none,.store 4 (.t 2) (.t 49),none⟩,
 ⟨some 3,.mv (.t 50),none⟩])
 (.ret))
 (.skip)))
 (.seq (.drw [⟨some 51,.loadn 2 (.t 7),none⟩,
 ⟨some 52,.call 52 [.t 51],none⟩,
 ⟨some 53,.fad 1 (.t 7),none⟩,
 ⟨some 54,.load1 (.t 53),none⟩,
 ⟨some 55,.build [.i .i64 0,.s [],.s [],.i .i64 0] [(0,(1,.c (.i .i64 2))),(1,(1,.t 52)),(2,(1,.t 54))],none⟩,
 ⟨none,.store 4 (.t 2) (.t 55),none⟩,
 ⟨some 3,.mv (.c (.i .i64 0)),none⟩] 5 [])
 (.ret))))
 (.seq (.reg [⟨some 57,.bin .eql (.t 23) (.c (.s [104,116,116,112,115])),none⟩,
 ⟨some 56,.mv (.t 57),none⟩])
 (.cond (.t 56)
 (.seq (.reg [⟨some 58,.mv (.t 0),none⟩,
 ⟨some 59,.call 53 [.t 58],none⟩,
 ⟨some 60,.ext (.t 59) 0,none⟩,
 ⟨some 61,.ext (.t 59) 1,none⟩,
 ⟨none,.store 4 (.t 2) (.t 60),none⟩,
 ⟨some 3,.mv (.t 61),none⟩])
 (.ret))
 (.seq (.reg [⟨some 63,.bin .eql (.t 23) (.c (.s [100,105,100])),none⟩,
 ⟨some 62,.mv (.t 63),none⟩])
 (.cond (.t 62)
 (.seq (.reg [⟨some 64,.mv (.t 0),none⟩,
 ⟨some 65,.call 54 [.t 64],none⟩,
 ⟨some 66,.ext (.t 65) 0,none⟩,
 ⟨some 67,.ext (.t 65) 1,none⟩,
 ⟨none,.store 4 (.t 2) (.t 66),none⟩,
 ⟨some 3,.mv (.t 67),none⟩])
 (.ret))
 (.skip)))))))))))
 (.seq (.reg [⟨some 68,.build [.i .i64 0,.s [],.s [],.i .i64 0] [],none⟩,
 ⟨none,.store 4 (.t 2) (.t 68),none⟩,
 ⟨some 3,.mv (.c (.i .i64 60)),none⟩])
 (.ret))))))
theorem is_ref12_Parse:FnIs Tryz.prog 34 69 [.celln 2 4,.tmp 3] c_ref12_Parse:=⟨⟨_,_,Tryz.func34,rfl,rfl,by kernel_rfl,by kernel_rfl⟩⟩
def c_cache_cloneEntries:SCode :=
 .seq (.reg [⟨some 2,.mv (.c .nil),none⟩])
 (.seq (.reg [⟨some 5,.mv (.t 0),none⟩,
 ⟨some 6,.call 55 [.t 5],none⟩,
 ⟨some 3,.mv (.t 6),none⟩])
 (.seq (.seq (.reg [⟨some 7,.mv (.t 3),none⟩,
 ⟨some 8,.lenr (.t 7),none⟩,
 ⟨some 9,.mv (.c (.i .i64 0)),none⟩])
 (.blk 0
 (.loop
 (.seq (.reg [⟨some 10,.bin .lss (.t 9) (.t 8),none⟩])
 (.seq (.cond (.t 10)
 (.skip)
 (.exit 0))
 (.seq (.blk 1
 (.seq (.reg [⟨some 11,.mv (.t 9),none⟩,
 ⟨some 4,.mv (.t 11),none⟩])
 (.reg [⟨some 12,.mv (.t 3),none⟩,
 ⟨some 13,.mv (.t 4),none⟩,
 ⟨some 14,.mv (.t 3),none⟩,
 ⟨some 15,.mv (.t 4),none⟩,
 ⟨some 16,.iad 14 (.t 14) (.t 15),none⟩,
 ⟨some 17,.fad 0 (.t 16),none⟩,
 ⟨some 18,.loadn 12 (.t 17),none⟩,
 ⟨some 19,.call 36 [.t 18],none⟩,
 ⟨some 20,.iad 14 (.t 12) (.t 13),none⟩,
 ⟨some 21,.fad 0 (.t 20),none⟩,
 ⟨none,.store 12 (.t 21) (.t 19),none⟩])))
 (.reg [⟨some 22,.bin .add (.t 9) (.c (.i .i64 1)),none⟩,
 ⟨some 9,.mv (.t 22),none⟩])))))))
 (.seq (.reg [⟨some 23,.mv (.t 3),none⟩,
 ⟨some 2,.mv (.t 23),none⟩])
 (.ret))))
theorem is_cache_cloneEntries:FnIs Tryz.prog 35 24 [.tmp 2] c_cache_cloneEntries:=⟨⟨_,_,Tryz.func35,rfl,rfl,by kernel_rfl,by kernel_rfl⟩⟩
def c_cache_cloneVerdict:SCode :=
 .seq (.reg [⟨some 1,.box 41 (.t 0),none⟩,
 ⟨some 2,.alloc 41 [.i .i64 0,.i .i64 0,.s [],.s [],.i .i64 0,.i .i64 0,.s [],.s [],.i .i64 0,.b false,.i .u64 0,.nil],none⟩])
 (.seq (.reg [⟨some 3,.fad 11 (.t 1),none⟩,
 ⟨some 4,.load1 (.t 3),none⟩,
 ⟨some 5,.call 56 [.t 4],none⟩,
 ⟨some 6,.fad 11 (.t 1),none⟩,
 ⟨none,.store 1 (.t 6) (.t 5),none⟩])
 (.seq (.reg [⟨some 7,.loadn 12 (.t 1),none⟩,
 ⟨none,.store 12 (.t 2) (.t 7),none⟩])
 (.ret)))
theorem is_cache_cloneVerdict:FnIs Tryz.prog 36 8 [.celln 2 12] c_cache_cloneVerdict:=⟨⟨_,_,Tryz.func36,rfl,rfl,by kernel_rfl,by kernel_rfl⟩⟩
def c_cache_find:SCode :=
 .seq (.reg [⟨some 4,.mv (.c (.i .i64 0)),none⟩,
 ⟨some 5,.mv (.c (.b false)),none⟩])
 (.seq (.reg [⟨some 6,.mv (.t 0),none⟩,
 ⟨some 7,.mv (.t 1),none⟩,
 ⟨some 8,.call 57 [.t 6,.t 7,.c (.fn 58 [] [])],none⟩,
 ⟨some 9,.ext (.t 8) 0,none⟩,
 ⟨some 10,.ext (.t 8) 1,none⟩,
 ⟨some 4,.mv (.t 9),none⟩,
 ⟨some 5,.mv (.t 10),none⟩])
 (.ret))
theorem is_cache_find:FnIs Tryz.prog 37 11 [.tmp 4,.tmp 5] c_cache_find:=⟨⟨_,_,Tryz.func37,rfl,rfl,by kernel_rfl,by kernel_rfl⟩⟩
def c_cache_firstToExpire:SCode :=
 .seq (.reg [⟨some 2,.mv (.c (.i .i64 0)),none⟩])
 (.seq (.reg [⟨some 7,.mv (.t 0),none⟩,
 ⟨some 8,.build [.nil,.nil] [(0,(1,.t 7))],none⟩,
 ⟨some 9,.box 101 (.t 8),none⟩,
 ⟨some 3,.mv (.t 9),none⟩])
 (.seq (.seq (.reg [⟨some 10,.mv (.t 0),none⟩,
 ⟨some 11,.lenr (.t 10),none⟩,
 ⟨some 12,.mv (.c (.i .i64 0)),none⟩])
 (.blk 0
 (.loop
 (.seq (.reg [⟨some 13,.bin .lss (.t 12) (.t 11),none⟩])
 (.seq (.cond (.t 13)
 (.skip)
 (.exit 0))
 (.seq (.blk 1
 (.seq (.reg [⟨some 14,.mv (.t 12),none⟩,
 ⟨some 4,.mv (.t 14),none⟩])
 (.reg [⟨some 15,.mv (.t 3),none⟩,
 ⟨some 16,.mv (.t 3),none⟩,
 ⟨some 17,.nck (.t 16),none⟩,
 ⟨some 18,.fad 1 (.t 17),none⟩,
 ⟨some 19,.load1 (.t 18),none⟩,
 ⟨some 20,.mv (.t 4),none⟩,
 ⟨some 21,.bslice 1 [.i .i64 0] [(0,(1,.t 20))],none⟩,
 ⟨some 22,.app 3 1 8 (.t 19) (.t 21),none⟩,
 ⟨some 23,.nck (.t 15),none⟩,
 ⟨some 24,.fad 1 (.t 23),none⟩,
 ⟨none,.store 1 (.t 24) (.t 22),none⟩])))
 (.reg [⟨some 25,.bin .add (.t 12) (.c (.i .i64 1)),none⟩,
 ⟨some 12,.mv (.t 25),none⟩])))))))
 (.seq (.reg [⟨some 26,.mv (.t 3),none⟩,
 ⟨some 27,.pu (.mki 98) [.t 26],none⟩,
 ⟨some 28,.call 60 [.t 27],none⟩])
 (.seq (.reg [⟨some 30,.mv (.t 3),none⟩,
 ⟨some 31,.pu (.mki 98) [.t 30],none⟩,
 ⟨some 32,.call 61 [.t 31],none⟩,
 ⟨some 33,.pu (.tas 3) [.t 32],none⟩,
 ⟨some 29,.mv (.t 33),none⟩,
 ⟨some 34,.ext (.t 29) 0,none⟩,
 ⟨some 35,.ext (.t 29) 1,none⟩,
 ⟨some 5,.mv (.t 34),none⟩,
 ⟨some 6,.mv (.t 35),none⟩])
 (.seq (.reg [⟨some 36,.mv (.t 5),none⟩,
 ⟨some 2,.mv (.t 36),none⟩])
 (.ret))))))
theorem is_cache_firstToExpire:FnIs Tryz.prog 38 37 [.tmp 2] c_cache_firstToExpire:=⟨⟨_,_,Tryz.func38,rfl,rfl,by kernel_rfl,by kernel_rfl⟩⟩
def c_ref26_SameTrace:SCode :=
 .seq (.reg [⟨some 4,.mv (.c (.b false)),none⟩])
 (.seq (.seq (.reg [⟨some 6,.mv (.t 0),none⟩,
 ⟨some 7,.lenr (.t 6),none⟩,
 ⟨some 8,.mv (.t 1),none⟩,
 ⟨some 9,.lenr (.t 8),none⟩,
 ⟨some 10,.bin .neq (.t 7) (.t 9),none⟩])
 (.cond (.t 10)
 (.seq (.reg [⟨some 4,.mv (.c (.b false)),none⟩])
 (.ret))
 (.skip)))
 (.seq (.seq (.reg [⟨some 11,.mv (.t 0),none⟩,
 ⟨some 12,.lenr (.t 11),none⟩,
 ⟨some 13,.mv (.c (.i .i64 0)),none⟩])
 (.blk 0
 (.loop
 (.seq (.reg [⟨some 14,.bin .lss (.t 13) (.t 12),none⟩])
 (.seq (.cond (.t 14)
 (.skip)
 (.exit 0))
 (.seq (.blk 1
 (.seq (.reg [⟨some 15,.mv (.t 13),none⟩,
 ⟨some 5,.mv (.t 15),none⟩])
 (.seq (.drw [⟨some 16,.mv (.t 0),none⟩,
 ⟨some 17,.mv (.t 5),none⟩,
 ⟨some 18,.iad 9 (.t 16) (.t 17),none⟩,
 ⟨some 19,.loadn 9 (.t 18),none⟩,
 ⟨some 20,.mv (.t 1),none⟩,
 ⟨some 21,.mv (.t 5),none⟩,
 ⟨some 22,.iad 9 (.t 20) (.t 21),none⟩,
 ⟨some 23,.loadn 9 (.t 22),none⟩,
 ⟨some 24,.eqs true (.str [(0,(some 7,.str [(0,(none,.ts)),(1,(none,.ti)),(2,(none,.ts)),(3,(none,.ts)),(4,(none,.ts)),(5,(none,.tb)),(6,(none,.tb))])),(7,(none,.ti)),(8,(none,.ti))]) (.t 19) (.t 23),none⟩] 9 [])
 (.cond (.t 24)
 (.seq (.reg [⟨some 4,.mv (.c (.b false)),none⟩])
 (.ret))
 (.skip)))))
 (.reg [⟨some 25,.bin .add (.t 13) (.c (.i .i64 1)),none⟩,
 ⟨some 13,.mv (.t 25),none⟩])))))))
 (.seq (.reg [⟨some 4,.mv (.c (.b true)),none⟩])
 (.ret))))
theorem is_ref26_SameTrace:FnIs Tryz.prog 41 26 [.tmp 4] c_ref26_SameTrace:=⟨⟨_,_,Tryz.func41,rfl,rfl,by kernel_rfl,by kernel_rfl⟩⟩
def c_cache_Expire_1:SCode :=
 .seq (.reg [⟨some 2,.box 43 (.t 0),none⟩,
 ⟨some 3,.mv (.c (.b false)),none⟩])
 (.seq (.reg [⟨some 4,.fad 13 (.t 2),none⟩,
 ⟨some 5,.load1 (.t 4),none⟩,
 ⟨some 6,.load1 (.t 1),none⟩,
 ⟨some 7,.bin .leq (.t 5) (.t 6),none⟩,
 ⟨some 3,.mv (.t 7),none⟩])
 (.ret))
theorem is_cache_Expire_1:FnIs Tryz.prog 43 8 [.tmp 3] c_cache_Expire_1:=⟨⟨_,_,Tryz.func43,rfl,rfl,by kernel_rfl,by kernel_rfl⟩⟩
def c_ident_Valid:SCode :=
 .seq (.reg [⟨some 1,.box 36 (.t 0),none⟩,
 ⟨some 2,.mv (.c (.b false)),none⟩])
 (.seq (.reg [⟨some 6,.fad 1 (.t 1),none⟩,
 ⟨some 7,.load1 (.t 6),none⟩,
 ⟨some 8,.call 65 [.t 7],none⟩,
 ⟨some 5,.mv (.t 8),none⟩,
 ⟨some 9,.ext (.t 5) 0,none⟩,
 ⟨some 10,.ext (.t 5) 1,none⟩,
 ⟨some 3,.alloc 36 [.i .i64 0,.s [],.s [],.i .i64 0],none⟩,
 ⟨none,.store 4 (.t 3) (.t 9),none⟩,
 ⟨some 4,.mv (.t 10),none⟩])
 (.seq (.reg [⟨some 11,.mv (.t 4),none⟩,
 ⟨some 12,.bin .eql (.t 11) (.c (.i .i64 0)),none⟩,
 ⟨some 13,.mv (.t 12),none⟩,
 ⟨some 14,.loadn 4 (.t 3),some (13,true)⟩,
 ⟨some 15,.loadn 4 (.t 1),some (13,true)⟩,
 ⟨some 16,.eqs false (.str [(0,(none,.ti)),(1,(none,.ts)),(2,(none,.ts)),(3,(none,.ti))]) (.t 14) (.t 15),some (13,true)⟩,
 ⟨some 17,.pick (.t 13) (.t 16) (.c (.b false)),none⟩,
 ⟨some 2,.mv (.t 17),none⟩])
 (.ret)))
theorem is_ident_Valid:FnIs Tryz.prog 44 18 [.tmp 2] c_ident_Valid:=⟨⟨_,_,Tryz.func44,rfl,rfl,by kernel_rfl,by kernel_rfl⟩⟩
def c_ref12_Valid:SCode :=
 .seq (.reg [⟨some 1,.box 36 (.t 0),none⟩,
 ⟨some 2,.mv (.c (.b false)),none⟩])
 (.seq (.reg [⟨some 6,.fad 1 (.t 1),none⟩,
 ⟨some 7,.load1 (.t 6),none⟩,
 ⟨some 8,.call 34 [.t 7],none⟩,
 ⟨some 5,.mv (.t 8),none⟩,
 ⟨some 9,.ext (.t 5) 0,none⟩,
 ⟨some 10,.ext (.t 5) 1,none⟩,
 ⟨some 3,.alloc 36 [.i .i64 0,.s [],.s [],.i .i64 0],none⟩,
 ⟨none,.store 4 (.t 3) (.t 9),none⟩,
 ⟨some 4,.mv (.t 10),none⟩])
 (.seq (.reg [⟨some 11,.mv (.t 4),none⟩,
 ⟨some 12,.bin .eql (.t 11) (.c (.i .i64 0)),none⟩,
 ⟨some 13,.mv (.t 12),none⟩,
 ⟨some 14,.loadn 4 (.t 3),some (13,true)⟩,
 ⟨some 15,.loadn 4 (.t 1),some (13,true)⟩,
 ⟨some 16,.eqs false (.str [(0,(none,.ti)),(1,(none,.ts)),(2,(none,.ts)),(3,(none,.ti))]) (.t 14) (.t 15),some (13,true)⟩,
 ⟨some 17,.pick (.t 13) (.t 16) (.c (.b false)),none⟩,
 ⟨some 2,.mv (.t 17),none⟩])
 (.ret)))
theorem is_ref12_Valid:FnIs Tryz.prog 45 18 [.tmp 2] c_ref12_Valid:=⟨⟨_,_,Tryz.func45,rfl,rfl,by kernel_rfl,by kernel_rfl⟩⟩
def c_keep_URL:SCode :=
 .seq (.reg [⟨some 1,.box 79 (.t 0),none⟩,
 ⟨some 2,.mv (.c (.b false)),none⟩])
 (.seq (.reg [⟨some 3,.fad 0 (.t 1),none⟩,
 ⟨some 4,.load1 (.t 3),none⟩,
 ⟨some 5,.lens (.t 4),none⟩,
 ⟨some 6,.fad 2 (.t 1),none⟩,
 ⟨some 7,.load1 (.t 6),none⟩,
 ⟨some 8,.lens (.t 7),none⟩,
 ⟨some 9,.bin .add (.t 5) (.t 8),none⟩,
 ⟨some 10,.fad 3 (.t 1),none⟩,
 ⟨some 11,.load1 (.t 10),none⟩,
 ⟨some 12,.lens (.t 11),none⟩,
 ⟨some 13,.bin .add (.t 9) (.t 12),none⟩,
 ⟨some 14,.fad 4 (.t 1),none⟩,
 ⟨some 15,.load1 (.t 14),none⟩,
 ⟨some 16,.lens (.t 15),none⟩,
 ⟨some 17,.bin .add (.t 13) (.t 16),none⟩,
 ⟨some 18,.bin .leq (.t 17) (.c (.i .i64 1000)),none⟩,
 ⟨some 2,.mv (.t 18),none⟩])
 (.ret))
theorem is_keep_URL:FnIs Tryz.prog 46 19 [.tmp 2] c_keep_URL:=⟨⟨_,_,Tryz.func46,rfl,rfl,by kernel_rfl,by kernel_rfl⟩⟩
def c_ref01_Index:SCode :=
 .seq (.reg [⟨some 4,.mv (.c (.i .i64 0)),none⟩])
 (.seq (.seq (.reg [⟨some 5,.mv (.c (.i .i64 0)),none⟩])
 (.blk 0
 (.loop
 (.seq (.seq (.reg [⟨some 6,.mv (.t 5),none⟩,
 ⟨some 7,.mv (.t 0),none⟩,
 ⟨some 8,.lens (.t 7),none⟩,
 ⟨some 9,.bin .lss (.t 6) (.t 8),none⟩])
 (.cond (.t 9)
 (.skip)
 (.exit 0)))
 (.seq (.blk 1
 (.seq (.reg [⟨some 12,.mv (.t 0),none⟩,
 ⟨some 13,.mv (.t 5),none⟩,
 ⟨some 14,.idx (.t 12) (.t 13),none⟩,
 ⟨some 15,.mv (.t 1),none⟩,
 ⟨some 16,.call 66 [.t 14,.t 15],none⟩])
 (.cond (.t 16)
 (.seq (.reg [⟨some 17,.mv (.t 5),none⟩,
 ⟨some 4,.mv (.t 17),none⟩])
 (.ret))
 (.skip))))
 (.reg [⟨some 10,.mv (.t 5),none⟩,
 ⟨some 11,.bin .add (.t 10) (.c (.i .i64 1)),none⟩,
 ⟨some 5,.mv (.t 11),none⟩]))))))
 (.seq (.reg [⟨some 18,.mv (.t 0),none⟩,
 ⟨some 19,.lens (.t 18),none⟩,
 ⟨some 4,.mv (.t 19),none⟩])
 (.ret)))
theorem is_ref01_Index:FnIs Tryz.prog 47 20 [.tmp 4] c_ref01_Index:=⟨⟨_,_,Tryz.func47,rfl,rfl,by kernel_rfl,by kernel_rfl⟩⟩
def c_ref08_Parse:SCode :=
 .seq (.reg [⟨some 2,.alloc 86 [.s [],.s []],none⟩,
 ⟨some 3,.mv (.c (.i .i64 0)),none⟩])
 (.seq (.blk 0
 (.seq (.reg [⟨some 9,.mv (.t 0),none⟩,
 ⟨some 10,.lens (.t 9),none⟩,
 ⟨some 11,.bin .gtr (.t 10) (.c (.i .i64 4096)),none⟩,
 ⟨some 8,.mv (.t 11),none⟩])
 (.cond (.t 8)
 (.seq (.reg [⟨some 12,.build [.s [],.s []] [],none⟩,
 ⟨none,.store 2 (.t 2) (.t 12),none⟩,
 ⟨some 3,.mv (.c (.i .i64 5)),none⟩])
 (.ret))
 (.seq (.reg [⟨some 14,.mv (.t 0),none⟩,
 ⟨some 15,.lens (.t 14),none⟩,
 ⟨some 16,.bin .lss (.t 15) (.c (.i .i64 5)),none⟩,
 ⟨some 17,.mv (.t 16),none⟩,
 ⟨some 18,.mv (.t 0),some (17,false)⟩,
 ⟨some 19,.slcs (.t 18) none (some (.c (.i .i64 5))),some (17,false)⟩,
 ⟨some 20,.call 67 [.t 19,.c (.s [97,99,99,116,58])],some (17,false)⟩,
 ⟨some 21,.not (.t 20),some (17,false)⟩,
 ⟨some 22,.pick (.t 17) (.c (.b true)) (.t 21),none⟩,
 ⟨some 13,.mv (.t 22),none⟩])
 (.cond (.t 13)
 (.seq (.reg [⟨some 23,.build [.s [],.s []] [],none⟩,
 ⟨none,.store 2 (.t 2) (.t 23),none⟩,
 ⟨some 3,.mv (.c (.i .i64 60)),none⟩])
 (.ret))
 (.skip))))))
 (.seq (.reg [⟨some 24,.mv (.t 0),none⟩,
 ⟨some 25,.slcs (.t 24) (some (.c (.i .i64 5))) none,none⟩,
 ⟨some 0,.mv (.t 25),none⟩])
 (.seq (.reg [⟨some 26,.mv (.t 0),none⟩,
 ⟨some 27,.call 47 [.t 26,.c (.s [64])],none⟩,
 ⟨some 4,.mv (.t 27),none⟩])
 (.seq (.seq (.reg [⟨some 28,.mv (.t 4),none⟩,
 ⟨some 29,.mv (.t 0),none⟩,
 ⟨some 30,.lens (.t 29),none⟩,
 ⟨some 31,.bin .eql (.t 28) (.t 30),none⟩])
 (.cond (.t 31)
 (.seq (.reg [⟨some 32,.build [.s [],.s []] [],none⟩,
 ⟨none,.store 2 (.t 2) (.t 32),none⟩,
 ⟨some 3,.mv (.c (.i .i64 6)),none⟩])
 (.ret))
 (.skip)))
 (.seq (.reg [⟨some 34,.mv (.t 0),none⟩,
 ⟨some 35,.mv (.t 4),none⟩,
 ⟨some 36,.slcs (.t 34) none (some (.t 35)),none⟩,
 ⟨some 37,.call 68 [.t 36,.c (.s [33,36,38,39,40,41,42,43,44,59,61])],none⟩,
 ⟨some 33,.mv (.t 37),none⟩,
 ⟨some 38,.ext (.t 33) 0,none⟩,
 ⟨some 39,.ext (.t 33) 1,none⟩,
 ⟨some 5,.mv (.t 38),none⟩,
 ⟨some 6,.mv (.t 39),none⟩])
 (.seq (.seq (.reg [⟨some 40,.mv (.t 6),none⟩,
 ⟨some 41,.bin .neq (.t 40) (.c (.i .i64 0)),none⟩,
 ⟨some 42,.mv (.t 41),none⟩,
 ⟨some 43,.mv (.t 5),some (42,false)⟩,
 ⟨some 44,.bin .eql (.t 43) (.c (.s [])),some (42,false)⟩,
 ⟨some 45,.pick (.t 42) (.c (.b true)) (.t 44),none⟩,
 ⟨some 46,.mv (.t 45),none⟩,
 ⟨some 47,.mv (.t 5),some (46,false)⟩,
 ⟨some 48,.idx (.t 47) (.c (.i .i64 0)),some (46,false)⟩,
 ⟨some 49,.bin .eql (.t 48) (.c (.i .u8 37)),some (46,false)⟩,
 ⟨some 50,.pick (.t 46) (.c (.b true)) (.t 49),none⟩])
 (.cond (.t 50)
 (.seq (.reg [⟨some 51,.build [.s [],.s []] [],none⟩,
 ⟨none,.store 2 (.t 2) (.t 51),none⟩,
 ⟨some 3,.mv (.c (.i .i64 80)),none⟩])
 (.ret))
 (.skip)))
 (.seq (.reg [⟨some 53,.mv (.t 0),none⟩,
 ⟨some 54,.mv (.t 4),none⟩,
 ⟨some 55,.bin .add (.t 54) (.c (.i .i64 1)),none⟩,
 ⟨some 56,.slcs (.t 53) (some (.t 55)) none,none⟩,
 ⟨some 57,.call 69 [.t 56],none⟩,
 ⟨some 52,.mv (.t 57),none⟩,
 ⟨some 58,.ext (.t 52) 0,none⟩,
 ⟨some 59,.ext (.t 52) 1,none⟩,
 ⟨some 7,.mv (.t 58),none⟩,
 ⟨some 6,.mv (.t 59),none⟩])
 (.seq (.seq (.reg [⟨some 60,.mv (.t 6),none⟩,
 ⟨some 61,.bin .neq (.t 60) (.c (.i .i64 0)),none⟩])
 (.cond (.t 61)
 (.seq (.reg [⟨some 62,.build [.s [],.s []] [],none⟩,
 ⟨some 63,.mv (.t 6),none⟩,
 ⟨none,.store 2 (.t 2) (.t 62),none⟩,
 ⟨some 3,.mv (.t 63),none⟩])
 (.ret))
 (.skip)))
 (.seq (.reg [⟨some 64,.mv (.t 5),none⟩,
 ⟨some 65,.mv (.t 7),none⟩,
 ⟨some 66,.build [.s [],.s []] [(0,(1,.t 64)),(1,(1,.t 65))],none⟩,
 ⟨none,.store 2 (.t 2) (.t 66),none⟩,
 ⟨some 3,.mv (.c (.i .i64 0)),none⟩])
 (.ret))))))))))
theorem is_ref08_Parse:FnIs Tryz.prog 49 67 [.celln 2 2,.tmp 3] c_ref08_Parse:=⟨⟨_,_,Tryz.func49,rfl,rfl,by kernel_rfl,by kernel_rfl⟩⟩
def c_ref08_Format:SCode :=
 .seq (.reg [⟨some 1,.box 86 (.t 0),none⟩,
 ⟨some 2,.mv (.c (.s [])),none⟩])
 (.seq (.reg [⟨some 3,.fad 0 (.t 1),none⟩,
 ⟨some 4,.load1 (.t 3),none⟩,
 ⟨some 5,.bin .add (.c (.s [97,99,99,116,58])) (.t 4),none⟩,
 ⟨some 6,.bin .add (.t 5) (.c (.s [64])),none⟩,
 ⟨some 7,.fad 1 (.t 1),none⟩,
 ⟨some 8,.load1 (.t 7),none⟩,
 ⟨some 9,.bin .add (.t 6) (.t 8),none⟩,
 ⟨some 2,.mv (.t 9),none⟩])
 (.ret))
theorem is_ref08_Format:FnIs Tryz.prog 50 10 [.tmp 2] c_ref08_Format:=⟨⟨_,_,Tryz.func50,rfl,rfl,by kernel_rfl,by kernel_rfl⟩⟩
def c_ref09_Parse:SCode :=
 .seq (.reg [⟨some 2,.alloc 91 [.s [],.s []],none⟩,
 ⟨some 3,.mv (.c (.i .i64 0)),none⟩])
 (.seq (.blk 0
 (.seq (.reg [⟨some 10,.mv (.t 0),none⟩,
 ⟨some 11,.lens (.t 10),none⟩,
 ⟨some 12,.bin .gtr (.t 11) (.c (.i .i64 4096)),none⟩,
 ⟨some 9,.mv (.t 12),none⟩])
 (.cond (.t 9)
 (.seq (.reg [⟨some 13,.build [.s [],.s []] [],none⟩,
 ⟨none,.store 2 (.t 2) (.t 13),none⟩,
 ⟨some 3,.mv (.c (.i .i64 5)),none⟩])
 (.ret))
 (.seq (.reg [⟨some 15,.mv (.t 0),none⟩,
 ⟨some 16,.lens (.t 15),none⟩,
 ⟨some 17,.bin .lss (.t 16) (.c (.i .i64 7)),none⟩,
 ⟨some 18,.mv (.t 17),none⟩,
 ⟨some 19,.mv (.t 0),some (18,false)⟩,
 ⟨some 20,.slcs (.t 19) none (some (.c (.i .i64 7))),some (18,false)⟩,
 ⟨some 21,.call 67 [.t 20,.c (.s [109,97,105,108,116,111,58])],some (18,false)⟩,
 ⟨some 22,.not (.t 21),some (18,false)⟩,
 ⟨some 23,.pick (.t 18) (.c (.b true)) (.t 22),none⟩,
 ⟨some 14,.mv (.t 23),none⟩])
 (.cond (.t 14)
 (.seq (.reg [⟨some 24,.build [.s [],.s []] [],none⟩,
 ⟨none,.store 2 (.t 2) (.t 24),none⟩,
 ⟨some 3,.mv (.c (.i .i64 60)),none⟩])
 (.ret))
 (.skip))))))
 (.seq (.reg [⟨some 25,.mv (.t 0),none⟩,
 ⟨some 26,.slcs (.t 25) (some (.c (.i .i64 7))) none,none⟩,
 ⟨some 0,.mv (.t 26),none⟩])
 (.seq (.reg [⟨some 27,.mv (.t 0),none⟩,
 ⟨some 28,.call 47 [.t 27,.c (.s [64])],none⟩,
 ⟨some 4,.mv (.t 28),none⟩])
 (.seq (.seq (.reg [⟨some 29,.mv (.t 4),none⟩,
 ⟨some 30,.mv (.t 0),none⟩,
 ⟨some 31,.lens (.t 30),none⟩,
 ⟨some 32,.bin .eql (.t 29) (.t 31),none⟩,
 ⟨some 33,.mv (.t 32),none⟩,
 ⟨some 34,.mv (.t 0),some (33,false)⟩,
 ⟨some 35,.call 47 [.t 34,.c (.s [63,35])],some (33,false)⟩,
 ⟨some 36,.mv (.t 0),some (33,false)⟩,
 ⟨some 37,.lens (.t 36),some (33,false)⟩,
 ⟨some 38,.bin .lss (.t 35) (.t 37),some (33,false)⟩,
 ⟨some 39,.pick (.t 33) (.c (.b true)) (.t 38),none⟩])
 (.cond (.t 39)
 (.seq (.reg [⟨some 40,.build [.s [],.s []] [],none⟩,
 ⟨none,.store 2 (.t 2) (.t 40),none⟩,
 ⟨some 3,.mv (.c (.i .i64 6)),none⟩])
 (.ret))
 (.skip)))
 (.seq (.seq (.reg [⟨some 5,.mv (.c (.i .i64 0)),none⟩])
 (.blk 1
 (.loop
 (.seq (.seq (.reg [⟨some 41,.mv (.t 5),none⟩,
 ⟨some 42,.mv (.t 4),none⟩,
 ⟨some 43,.bin .lss (.t 41) (.t 42),none⟩])
 (.cond (.t 43)
 (.skip)
 (.exit 1)))
 (.seq (.blk 2
 (.seq (.reg [⟨some 46,.mv (.t 0),none⟩,
 ⟨some 47,.mv (.t 5),none⟩,
 ⟨some 48,.idx (.t 46) (.t 47),none⟩,
 ⟨some 49,.call 70 [.t 48],none⟩,
 ⟨some 50,.not (.t 49),none⟩,
 ⟨some 51,.mv (.t 50),none⟩,
 ⟨some 52,.mv (.t 0),some (51,true)⟩,
 ⟨some 53,.mv (.t 5),some (51,true)⟩,
 ⟨some 54,.idx (.t 52) (.t 53),some (51,true)⟩,
 ⟨some 55,.call 66 [.t 54,.c (.s [37,33,36,39,42,43])],some (51,true)⟩,
 ⟨some 56,.not (.t 55),some (51,true)⟩,
 ⟨some 57,.pick (.t 51) (.t 56) (.c (.b false)),none⟩])
 (.cond (.t 57)
 (.seq (.reg [⟨some 58,.build [.s [],.s []] [],none⟩,
 ⟨none,.store 2 (.t 2) (.t 58),none⟩,
 ⟨some 3,.mv (.c (.i .i64 1)),none⟩])
 (.ret))
 (.skip))))
 (.reg [⟨some 44,.mv (.t 5),none⟩,
 ⟨some 45,.bin .add (.t 44) (.c (.i .i64 1)),none⟩,
 ⟨some 5,.mv (.t 45),none⟩]))))))
 (.seq (.reg [⟨some 60,.mv (.t 0),none⟩,
 ⟨some 61,.mv (.t 4),none⟩,
 ⟨some 62,.slcs (.t 60) none (some (.t 61)),none⟩,
 ⟨some 63,.call 71 [.t 62],none⟩,
 ⟨some 59,.mv (.t 63),none⟩,
 ⟨some 64,.ext (.t 59) 0,none⟩,
 ⟨some 65,.ext (.t 59) 1,none⟩,
 ⟨some 6,.mv (.t 64),none⟩,
 ⟨some 7,.mv (.t 65),none⟩])
 (.seq (.seq (.reg [⟨some 66,.mv (.t 7),none⟩,
 ⟨some 67,.bin .neq (.t 66) (.c (.i .i64 0)),none⟩])
 (.cond (.t 67)
 (.seq (.reg [⟨some 68,.build [.s [],.s []] [],none⟩,
 ⟨some 69,.mv (.t 7),none⟩,
 ⟨none,.store 2 (.t 2) (.t 68),none⟩,
 ⟨some 3,.mv (.t 69),none⟩])
 (.ret))
 (.skip)))
 (.seq (.seq (.reg [⟨some 70,.mv (.t 6),none⟩,
 ⟨some 71,.call 72 [.t 70],none⟩,
 ⟨some 72,.not (.t 71),none⟩])
 (.cond (.t 72)
 (.seq (.reg [⟨some 73,.build [.s [],.s []] [],none⟩,
 ⟨none,.store 2 (.t 2) (.t 73),none⟩,
 ⟨some 3,.mv (.c (.i .i64 80)),none⟩])
 (.ret))
 (.skip)))
 (.seq (.reg [⟨some 75,.mv (.t 0),none⟩,
 ⟨some 76,.mv (.t 4),none⟩,
 ⟨some 77,.bin .add (.t 76) (.c (.i .i64 1)),none⟩,
 ⟨some 78,.slcs (.t 75) (some (.t 77)) none,none⟩,
 ⟨some 79,.call 69 [.t 78],none⟩,
 ⟨some 74,.mv (.t 79),none⟩,
 ⟨some 80,.ext (.t 74) 0,none⟩,
 ⟨some 81,.ext (.t 74) 1,none⟩,
 ⟨some 8,.mv (.t 80),none⟩,
 ⟨some 7,.mv (.t 81),none⟩])
 (.seq (.seq (.reg [⟨some 82,.mv (.t 7),none⟩,
 ⟨some 83,.bin .neq (.t 82) (.c (.i .i64 0)),none⟩])
 (.cond (.t 83)
 (.seq (.reg [⟨some 84,.build [.s [],.s []] [],none⟩,
 ⟨some 85,.mv (.t 7),none⟩,
 ⟨none,.store 2 (.t 2) (.t 84),none⟩,
 ⟨some 3,.mv (.t 85),none⟩])
 (.ret))
 (.skip)))
 (.seq (.seq (.reg [⟨some 86,.mv (.t 8),none⟩,
 ⟨some 87,.call 73 [.t 86],none⟩])
 (.cond (.t 87)
 (.seq (.reg [⟨some 88,.build [.s [],.s []] [],none⟩,
 ⟨none,.store 2 (.t 2) (.t 88),none⟩,
 ⟨some 3,.mv (.c (.i .i64 50)),none⟩])
 (.ret))
 (.skip)))
 (.seq (.reg [⟨some 89,.mv (.t 6),none⟩,
 ⟨some 90,.mv (.t 8),none⟩,
 ⟨some 91,.build [.s [],.s []] [(0,(1,.t 89)),(1,(1,.t 90))],none⟩,
 ⟨none,.store 2 (.t 2) (.t 91),none⟩,
 ⟨some 3,.mv (.c (.i .i64 0)),none⟩])
 (.ret)))))))))))))
theorem is_ref09_Parse:FnIs Tryz.prog 51 92 [.celln 2 2,.tmp 3] c_ref09_Parse:=⟨⟨_,_,Tryz.func51,rfl,rfl,by kernel_rfl,by kernel_rfl⟩⟩
def c_ref09_Format:SCode :=
 .seq (.reg [⟨some 1,.box 91 (.t 0),none⟩,
 ⟨some 2,.mv (.c (.s [])),none⟩])
 (.seq (.drw [⟨some 3,.fad 0 (.t 1),none⟩,
 ⟨some 4,.load1 (.t 3),none⟩,
 ⟨some 5,.call 74 [.t 4,.c (.s [33,36,39,42,43])],none⟩,
 ⟨some 6,.bin .add (.c (.s [109,97,105,108,116,111,58])) (.t 5),none⟩,
 ⟨some 7,.bin .add (.t 6) (.c (.s [64])),none⟩,
 ⟨some 8,.fad 1 (.t 1),none⟩,
 ⟨some 9,.load1 (.t 8),none⟩,
 ⟨some 10,.bin .add (.t 7) (.t 9),none⟩,
 ⟨some 2,.mv (.t 10),none⟩] 9 [])
 (.ret))
theorem is_ref09_Format:FnIs Tryz.prog 52 11 [.tmp 2] c_ref09_Format:=⟨⟨_,_,Tryz.func52,rfl,rfl,by kernel_rfl,by kernel_rfl⟩⟩
def c_ref12_web:SCode :=
 .seq (.reg [⟨some 2,.alloc 36 [.i .i64 0,.s [],.s [],.i .i64 0],none⟩,
 ⟨some 3,.mv (.c (.i .i64 0)),none⟩])
 (.seq (.reg [⟨some 7,.mv (.t 0),none⟩,
 ⟨some 8,.call 75 [.t 7],none⟩,
 ⟨some 6,.mv (.t 8),none⟩,
 ⟨some 9,.ext (.t 6) 0,none⟩,
 ⟨some 10,.ext (.t 6) 1,none⟩,
 ⟨some 4,.alloc 79 [.s [],.i .i64 0,.s [],.s [],.s [],.b false,.b false],none⟩,
 ⟨none,.store 7 (.t 4) (.t 9),none⟩,
 ⟨some 5,.mv (.t 10),none⟩])
 (.seq (.seq (.reg [⟨some 11,.mv (.t 5),none⟩,
 ⟨some 12,.bin .neq (.t 11) (.c (.i .i64 0)),none⟩])
 (.cond (.t 12)
 (.seq (.reg [⟨some 13,.build [.i .i64 0,.s [],.s [],.i .i64 0] [],none⟩,
 ⟨some 14,.mv (.t 5),none⟩,
 ⟨none,.store 4 (.t 2) (.t 13),none⟩,
 ⟨some 3,.mv (.t 14),none⟩])
 (.ret))
 (.skip)))
 (.seq (.drw [⟨some 15,.loadn 7 (.t 4),none⟩,
 ⟨some 16,.call 76 [.t 15],none⟩,
 ⟨some 17,.fad 0 (.t 4),none⟩,
 ⟨some 18,.load1 (.t 17),none⟩,
 ⟨some 19,.fad 1 (.t 4),none⟩,
 ⟨some 20,.load1 (.t 19),none⟩,
 ⟨some 21,.build [.i .i64 0,.s [],.s [],.i .i64 0] [(0,(1,.c (.i .i64 3))),(1,(1,.t 16)),(2,(1,.t 18)),(3,(1,.t 20))],none⟩,
 ⟨none,.store 4 (.t 2) (.t 21),none⟩,
 ⟨some 3,.mv (.c (.i .i64 0)),none⟩] 7 [])
 (.ret))))
theorem is_ref12_web:FnIs Tryz.prog 53 22 [.celln 2 4,.tmp 3] c_ref12_web:=⟨⟨_,_,Tryz.func53,rfl,rfl,by kernel_rfl,by kernel_rfl⟩⟩
def c_ref12_decentral:SCode :=
 .seq (.reg [⟨some 2,.alloc 36 [.i .i64 0,.s [],.s [],.i .i64 0],none⟩,
 ⟨some 3,.mv (.c (.i .i64 0)),none⟩])
 (.seq (.reg [⟨some 10,.mv (.t 0),none⟩,
 ⟨some 11,.call 77 [.t 10],none⟩,
 ⟨some 9,.mv (.t 11),none⟩,
 ⟨some 12,.ext (.t 9) 0,none⟩,
 ⟨some 13,.ext (.t 9) 1,none⟩,
 ⟨some 4,.alloc 119 [.s [],.s []],none⟩,
 ⟨none,.store 2 (.t 4) (.t 12),none⟩,
 ⟨some 5,.mv (.t 13),none⟩])
 (.seq (.seq (.reg [⟨some 14,.mv (.t 5),none⟩,
 ⟨some 15,.bin .neq (.t 14) (.c (.i .i64 0)),none⟩])
 (.cond (.t 15)
 (.seq (.reg [⟨some 16,.build [.i .i64 0,.s [],.s [],.i .i64 0] [],none⟩,
 ⟨some 17,.mv (.t 5),none⟩,
 ⟨none,.store 4 (.t 2) (.t 16),none⟩,
 ⟨some 3,.mv (.t 17),none⟩])
 (.ret))
 (.skip)))
 (.seq (.reg [⟨some 19,.loadn 2 (.t 4),none⟩,
 ⟨some 20,.call 78 [.t 19],none⟩,
 ⟨some 18,.mv (.t 20),none⟩,
 ⟨some 21,.ext (.t 18) 0,none⟩,
 ⟨some 22,.ext (.t 18) 1,none⟩,
 ⟨some 6,.alloc 119 [.s [],.s []],none⟩,
 ⟨none,.store 2 (.t 6) (.t 21),none⟩,
 ⟨some 5,.mv (.t 22),none⟩])
 (.seq (.seq (.reg [⟨some 23,.mv (.t 5),none⟩,
 ⟨some 24,.bin .neq (.t 23) (.c (.i .i64 0)),none⟩])
 (.cond (.t 24)
 (.seq (.reg [⟨some 25,.build [.i .i64 0,.s [],.s [],.i .i64 0] [],none⟩,
 ⟨some 26,.mv (.t 5),none⟩,
 ⟨none,.store 4 (.t 2) (.t 25),none⟩,
 ⟨some 3,.mv (.t 26),none⟩])
 (.ret))
 (.skip)))
 (.seq (.reg [⟨some 28,.loadn 2 (.t 6),none⟩,
 ⟨some 29,.call 79 [.t 28],none⟩,
 ⟨some 27,.mv (.t 29),none⟩,
 ⟨some 30,.ext (.t 27) 0,none⟩,
 ⟨some 31,.ext (.t 27) 1,none⟩,
 ⟨some 7,.alloc 124 [.s [],.i .i64 0],none⟩,
 ⟨none,.store 2 (.t 7) (.t 30),none⟩,
 ⟨some 8,.mv (.t 31),none⟩])
 (.seq (.drw [⟨some 32,.loadn 2 (.t 6),none⟩,
 ⟨some 33,.call 80 [.t 32],none⟩,
 ⟨some 34,.fad 0 (.t 7),none⟩,
 ⟨some 35,.load1 (.t 34),none⟩,
 ⟨some 36,.fad 1 (.t 7),none⟩,
 ⟨some 37,.load1 (.t 36),none⟩,
 ⟨some 38,.build [.i .i64 0,.s [],.s [],.i .i64 0] [(0,(1,.c (.i .i64 4))),(1,(1,.t 33)),(2,(1,.t 35)),(3,(1,.t 37))],none⟩,
 ⟨none,.store 4 (.t 2) (.t 38),none⟩,
 ⟨some 3,.mv (.c (.i .i64 0)),none⟩] 7 [])
 (.ret)))))))
theorem is_ref12_decentral:FnIs Tryz.prog 54 39 [.celln 2 4,.tmp 3] c_ref12_decentral:=⟨⟨_,_,Tryz.func54,rfl,rfl,by kernel_rfl,by kernel_rfl⟩⟩
def c_slices_Clone__api_Entry_api_Entry:SCode :=
 .seq (.reg [⟨some 2,.mv (.c .nil),none⟩])
 (.seq (.seq (.reg [⟨some 3,.mv (.t 0),none⟩,
 ⟨some 4,.pu (.snil false) [.t 3,.c .nil],none⟩])
 (.cond (.t 4)
 (.seq (.reg [⟨some 2,.mv (.c .nil),none⟩])
 (.ret))
 (.skip)))
 (.seq (.reg [⟨some 5,.mks 43 14 1 (.c (.i .i64 0)) (.c (.i .i64 0)),none⟩,
 ⟨some 6,.mv (.t 0),none⟩,
 ⟨some 7,.app 43 14 160 (.t 5) (.t 6),none⟩,
 ⟨some 2,.mv (.t 7),none⟩])
 (.ret)))
theorem is_slices_Clone__api_Entry_api_Entry:FnIs Tryz.prog 55 8 [.tmp 2] c_slices_Clone__api_Entry_api_Entry:=⟨⟨_,_,Tryz.func55,rfl,rfl,by kernel_rfl,by kernel_rfl⟩⟩
def c_slices_Clone__api_Exchange_api_Exchange:SCode :=
 .seq (.reg [⟨some 2,.mv (.c .nil),none⟩])
 (.seq (.seq (.reg [⟨some 3,.mv (.t 0),none⟩,
 ⟨some 4,.pu (.snil false) [.t 3,.c .nil],none⟩])
 (.cond (.t 4)
 (.seq (.reg [⟨some 2,.mv (.c .nil),none⟩])
 (.ret))
 (.skip)))
 (.seq (.reg [⟨some 5,.mks 81 9 1 (.c (.i .i64 0)) (.c (.i .i64 0)),none⟩,
 ⟨some 6,.mv (.t 0),none⟩,
 ⟨some 7,.app 81 9 96 (.t 5) (.t 6),none⟩,
 ⟨some 2,.mv (.t 7),none⟩])
 (.ret)))
theorem is_slices_Clone__api_Exchange_api_Exchange:FnIs Tryz.prog 56 8 [.tmp 2] c_slices_Clone__api_Exchange_api_Exchange:=⟨⟨_,_,Tryz.func56,rfl,rfl,by kernel_rfl,by kernel_rfl⟩⟩
def c_slices_BinarySearchFunc__api_Entry_api_Entry_string:SCode :=
 .seq (.reg [⟨some 6,.mv (.c (.i .i64 0)),none⟩,
 ⟨some 7,.mv (.c (.b false)),none⟩])
 (.seq (.reg [⟨some 12,.mv (.t 0),none⟩,
 ⟨some 13,.lenr (.t 12),none⟩,
 ⟨some 8,.mv (.t 13),none⟩])
 (.seq (.reg [⟨some 14,.mv (.t 8),none⟩,
 ⟨some 9,.mv (.c (.i .i64 0)),none⟩,
 ⟨some 10,.mv (.t 14),none⟩])
 (.seq (.blk 0
 (.loop
 (.seq (.seq (.reg [⟨some 15,.mv (.t 9),none⟩,
 ⟨some 16,.mv (.t 10),none⟩,
 ⟨some 17,.bin .lss (.t 15) (.t 16),none⟩])
 (.cond (.t 17)
 (.skip)
 (.exit 0)))
 (.blk 1
 (.seq (.reg [⟨some 18,.mv (.t 9),none⟩,
 ⟨some 19,.mv (.t 10),none⟩,
 ⟨some 20,.bin .add (.t 18) (.t 19),none⟩,
 ⟨some 21,.cvi .u64 (.t 20),none⟩,
 ⟨some 22,.pu .shr [.t 21,.c (.i .u64 1)],none⟩,
 ⟨some 23,.cvi .i64 (.t 22),none⟩,
 ⟨some 11,.mv (.t 23),none⟩])
 (.seq (.reg [⟨some 24,.mv (.t 2),none⟩,
 ⟨some 25,.mv (.t 0),none⟩,
 ⟨some 26,.mv (.t 11),none⟩,
 ⟨some 27,.iad 14 (.t 25) (.t 26),none⟩,
 ⟨some 28,.loadn 14 (.t 27),none⟩,
 ⟨some 29,.mv (.t 1),none⟩,
 ⟨some 30,.callv (.t 24) [.t 28,.t 29],none⟩,
 ⟨some 31,.bin .lss (.t 30) (.c (.i .i64 0)),none⟩])
 (.cond (.t 31)
 (.reg [⟨some 32,.mv (.t 11),none⟩,
 ⟨some 33,.bin .add (.t 32) (.c (.i .i64 1)),none⟩,
 ⟨some 9,.mv (.t 33),none⟩])
 (.reg [⟨some 34,.mv (.t 11),none⟩,
 ⟨some 10,.mv (.t 34),none⟩]))))))))
 (.seq (.reg [⟨some 35,.mv (.t 9),none⟩,
 ⟨some 36,.mv (.t 9),none⟩,
 ⟨some 37,.mv (.t 8),none⟩,
 ⟨some 38,.bin .lss (.t 36) (.t 37),none⟩,
 ⟨some 39,.mv (.t 38),none⟩,
 ⟨some 40,.mv (.t 2),some (39,true)⟩,
 ⟨some 41,.mv (.t 0),some (39,true)⟩,
 ⟨some 42,.mv (.t 9),some (39,true)⟩,
 ⟨some 43,.iad 14 (.t 41) (.t 42),some (39,true)⟩,
 ⟨some 44,.loadn 14 (.t 43),some (39,true)⟩,
 ⟨some 45,.mv (.t 1),some (39,true)⟩,
 ⟨some 46,.callv (.t 40) [.t 44,.t 45],some (39,true)⟩,
 ⟨some 47,.bin .eql (.t 46) (.c (.i .i64 0)),some (39,true)⟩,
 ⟨some 48,.pick (.t 39) (.t 47) (.c (.b false)),none⟩,
 ⟨some 6,.mv (.t 35),none⟩,
 ⟨some 7,.mv (.t 48),none⟩])
 (.ret)))))
theorem is_slices_BinarySearchFunc__api_Entry_api_Entry_string:FnIs Tryz.prog 57 49 [.tmp 6,.tmp 7] c_slices_BinarySearchFunc__api_Entry_api_Entry_string:=⟨⟨_,_,Tryz.func57,rfl,rfl,by kernel_rfl,by kernel_rfl⟩⟩
def c_cache_find_1:SCode :=
 .seq (.reg [⟨some 2,.box 43 (.t 0),none⟩,
 ⟨some 4,.mv (.c (.i .i64 0)),none⟩])
 (.seq (.reg [⟨some 5,.loadn 14 (.t 2),none⟩,
 ⟨some 6,.call 27 [.t 5],none⟩,
 ⟨some 7,.mv (.t 1),none⟩,
 ⟨some 8,.call 59 [.t 6,.t 7],none⟩,
 ⟨some 4,.mv (.t 8),none⟩])
 (.ret))
theorem is_cache_find_1:FnIs Tryz.prog 58 9 [.tmp 4] c_cache_find_1:=⟨⟨_,_,Tryz.func58,rfl,rfl,by kernel_rfl,by kernel_rfl⟩⟩
def c_cmp_Compare__string:SCode :=
 .seq (.reg [⟨some 4,.mv (.c (.i .i64 0)),none⟩])
 (.seq (.reg [⟨some 7,.mv (.t 0),none⟩,
 ⟨some 8,.call 81 [.t 7],none⟩,
 ⟨some 5,.mv (.t 8),none⟩])
 (.seq (.reg [⟨some 9,.mv (.t 1),none⟩,
 ⟨some 10,.call 81 [.t 9],none⟩,
 ⟨some 6,.mv (.t 10),none⟩])
 (.seq (.seq (.reg [⟨some 11,.mv (.t 5),none⟩])
 (.cond (.t 11)
 (.seq (.seq (.reg [⟨some 12,.mv (.t 6),none⟩])
 (.cond (.t 12)
 (.seq (.reg [⟨some 4,.mv (.c (.i .i64 0)),none⟩])
 (.ret))
 (.skip)))
 (.seq (.reg [⟨some 4,.mv (.c (.i .i64 (-1))),none⟩])
 (.ret)))
 (.skip)))
 (.seq (.seq (.reg [⟨some 13,.mv (.t 6),none⟩])
 (.cond (.t 13)
 (.seq (.reg [⟨some 4,.mv (.c (.i .i64 1)),none⟩])
 (.ret))
 (.skip)))
 (.seq (.seq (.reg [⟨some 14,.mv (.t 0),none⟩,
 ⟨some 15,.mv (.t 1),none⟩,
 ⟨some 16,.pu (.scmp .lss) [.t 14,.t 15],none⟩])
 (.cond (.t 16)
 (.seq (.reg [⟨some 4,.mv (.c (.i .i64 (-1))),none⟩])
 (.ret))
 (.skip)))
 (.seq (.seq (.reg [⟨some 17,.mv (.t 0),none⟩,
 ⟨some 18,.mv (.t 1),none⟩,
 ⟨some 19,.pu (.scmp .gtr) [.t 17,.t 18],none⟩])
 (.cond (.t 19)
 (.seq (.reg [⟨some 4,.mv (.c (.i .i64 1)),none⟩])
 (.ret))
 (.skip)))
 (.seq (.reg [⟨some 4,.mv (.c (.i .i64 0)),none⟩])
 (.ret))))))))
theorem is_cmp_Compare__string:FnIs Tryz.prog 59 20 [.tmp 4] c_cmp_Compare__string:=⟨⟨_,_,Tryz.func59,rfl,rfl,by kernel_rfl,by kernel_rfl⟩⟩
def c_container_heap_Init:SCode :=
 .seq (.reg [⟨some 4,.mv (.t 0),none⟩,
 ⟨some 5,.inv [(98,259),(181,263)] (.t 4) [],none⟩,
 ⟨some 2,.mv (.t 5),none⟩])
 (.seq (.reg [⟨some 6,.mv (.t 2),none⟩,
 ⟨some 7,.bin .quo (.t 6) (.c (.i .i64 2)),none⟩,
 ⟨some 8,.bin .sub (.t 7) (.c (.i .i64 1)),none⟩,
 ⟨some 3,.mv (.t 8),none⟩])
 (.blk 0
 (.loop
 (.seq (.seq (.reg [⟨some 9,.mv (.t 3),none⟩,
 ⟨some 10,.bin .geq (.t 9) (.c (.i .i64 0)),none⟩])
 (.cond (.t 10)
 (.skip)
 (.exit 0)))
 (.seq (.blk 1
 (.reg [⟨some 13,.mv (.t 0),none⟩,
 ⟨some 14,.mv (.t 3),none⟩,
 ⟨some 15,.mv (.t 2),none⟩,
 ⟨some 16,.call 82 [.t 13,.t 14,.t 15],none⟩]))
 (.reg [⟨some 11,.mv (.t 3),none⟩,
 ⟨some 12,.bin .sub (.t 11) (.c (.i .i64 1)),none⟩,
 ⟨some 3,.mv (.t 12),none⟩]))))))
theorem is_container_heap_Init:FnIs Tryz.prog 60 17 [] c_container_heap_Init:=⟨⟨_,_,Tryz.func60,rfl,rfl,by kernel_rfl,by kernel_rfl⟩⟩
def c_container_heap_Pop:SCode :=
 .seq (.reg [⟨some 2,.mv (.c (.o .nilIface)),none⟩])
 (.seq (.reg [⟨some 4,.mv (.t 0),none⟩,
 ⟨some 5,.inv [(98,259),(181,263)] (.t 4) [],none⟩,
 ⟨some 6,.bin .sub (.t 5) (.c (.i .i64 1)),none⟩,
 ⟨some 3,.mv (.t 6),none⟩])
 (.seq (.reg [⟨some 7,.mv (.t 0),none⟩,
 ⟨some 8,.mv (.t 3),none⟩,
 ⟨some 9,.inv [(98,262)] (.t 7) [.c (.i .i64 0),.t 8],none⟩])
 (.seq (.reg [⟨some 10,.mv (.t 0),none⟩,
 ⟨some 11,.mv (.t 3),none⟩,
 ⟨some 12,.call 82 [.t 10,.c (.i .i64 0),.t 11],none⟩])
 (.seq (.reg [⟨some 13,.mv (.t 0),none⟩,
 ⟨some 14,.inv [(98,261)] (.t 13) [],none⟩,
 ⟨some 2,.mv (.t 14),none⟩])
 (.ret)))))
theorem is_container_heap_Pop:FnIs Tryz.prog 61 15 [.tmp 2] c_container_heap_Pop:=⟨⟨_,_,Tryz.func61,rfl,rfl,by kernel_rfl,by kernel_rfl⟩⟩
def c_slices_rotateRight__api_Entry:SCode :=
 .reg [⟨some 4,.mv (.t 0),none⟩,
 ⟨some 5,.mv (.t 0),none⟩,
 ⟨some 6,.lenr (.t 5),none⟩,
 ⟨some 7,.mv (.t 1),none⟩,
 ⟨some 8,.bin .sub (.t 6) (.t 7),none⟩,
 ⟨some 9,.call 83 [.t 4,.t 8],none⟩]
theorem is_slices_rotateRight__api_Entry:FnIs Tryz.prog 63 10 [] c_slices_rotateRight__api_Entry:=⟨⟨_,_,Tryz.func63,rfl,rfl,by kernel_rfl,by kernel_rfl⟩⟩
def c_slices_IndexFunc__api_Entry_api_Entry:SCode :=
 .seq (.reg [⟨some 4,.mv (.c (.i .i64 0)),none⟩])
 (.seq (.seq (.reg [⟨some 6,.mv (.t 0),none⟩,
 ⟨some 7,.lenr (.t 6),none⟩,
 ⟨some 8,.mv (.c (.i .i64 0)),none⟩])
 (.blk 0
 (.loop
 (.seq (.reg [⟨some 9,.bin .lss (.t 8) (.t 7),none⟩])
 (.seq (.cond (.t 9)
 (.skip)
 (.exit 0))
 (.seq (.blk 1
 (.seq (.reg [⟨some 10,.mv (.t 8),none⟩,
 ⟨some 5,.mv (.t 10),none⟩])
 (.seq (.reg [⟨some 11,.mv (.t 1),none⟩,
 ⟨some 12,.mv (.t 0),none⟩,
 ⟨some 13,.mv (.t 5),none⟩,
 ⟨some 14,.iad 14 (.t 12) (.t 13),none⟩,
 ⟨some 15,.loadn 14 (.t 14),none⟩,
 ⟨some 16,.callv (.t 11) [.t 15],none⟩])
 (.cond (.t 16)
 (.seq (.reg [⟨some 17,.mv (.t 5),none⟩,
 ⟨some 4,.mv (.t 17),none⟩])
 (.ret))
 (.skip)))))
 (.reg [⟨some 18,.bin .add (.t 8) (.c (.i .i64 1)),none⟩,
 ⟨some 8,.mv (.t 18),none⟩])))))))
 (.seq (.reg [⟨some 4,.mv (.c (.i .i64 (-1))),none⟩])
 (.ret)))
theorem is_slices_IndexFunc__api_Entry_api_Entry:FnIs Tryz.prog 64 19 [.tmp 4] c_slices_IndexFunc__api_Entry_api_Entry:=⟨⟨_,_,Tryz.func64,rfl,rfl,by kernel_rfl,by kernel_rfl⟩⟩
def c_ident_Parse:SCode :=
 .seq (.reg [⟨some 2,.alloc 36 [.i .i64 0,.s [],.s [],.i .i64 0],none⟩,
 ⟨some 3,.mv (.c (.i .i64 0)),none⟩])
 (.seq (.seq (.reg [⟨some 10,.mv (.t 0),none⟩,
 ⟨some 11,.lens (.t 10),none⟩,
 ⟨some 12,.bin .gtr (.t 11) (.c (.i .i64 4096)),none⟩])
 (.cond (.t 12)
 (.seq (.reg [⟨some 13,.build [.i .i64 0,.s [],.s [],.i .i64 0] [],none⟩,
 ⟨none,.store 4 (.t 2) (.t 13),none⟩,
 ⟨some 3,.mv (.c (.i .i64 5)),none⟩])
 (.ret))
 (.skip)))
 (.seq (.reg [⟨some 14,.mkm0,none⟩,
 ⟨none,.mup (.t 14) (.c (.s [97,99,99,116])) (.c (.fn 84 [] [])),none⟩,
 ⟨none,.mup (.t 14) (.c (.s [109,97,105,108,116,111])) (.c (.fn 85 [] [])),none⟩,
 ⟨none,.mup (.t 14) (.c (.s [104,116,116,112,115])) (.c (.fn 86 [] [])),none⟩,
 ⟨none,.mup (.t 14) (.c (.s [100,105,100])) (.c (.fn 87 [] [])),none⟩,
 ⟨some 15,.mv (.t 14),none⟩,
 ⟨some 4,.mv (.t 15),none⟩])
 (.seq (.reg [⟨some 17,.mv (.t 0),none⟩,
 ⟨some 18,.call 88 [.t 17,.c (.s [58])],none⟩,
 ⟨some 16,.mv (.t 18),none⟩,
 ⟨some 19,.ext (.t 16) 0,none⟩,
 ⟨some 20,.ext (.t 16) 1,none⟩,
 ⟨some 21,.ext (.t 16) 2,none⟩,
 ⟨some 5,.mv (.t 19),none⟩,
 ⟨some 6,.mv (.t 20),none⟩,
 ⟨some 7,.mv (.t 21),none⟩])
 (.seq (.reg [⟨some 23,.mv (.t 4),none⟩,
 ⟨some 24,.mv (.t 5),none⟩,
 ⟨some 25,.call 89 [.t 24],none⟩,
 ⟨some 26,.lk (.o .nilFunc) true (.t 23) (.t 25),none⟩,
 ⟨some 22,.mv (.t 26),none⟩,
 ⟨some 27,.ext (.t 22) 0,none⟩,
 ⟨some 28,.ext (.t 22) 1,none⟩,
 ⟨some 8,.mv (.t 27),none⟩,
 ⟨some 9,.mv (.t 28),none⟩])
 (.seq (.seq (.reg [⟨some 29,.mv (.t 7),none⟩,
 ⟨some 30,.not (.t 29),none⟩,
 ⟨some 31,.mv (.t 30),none⟩,
 ⟨some 32,.mv (.t 9),some (31,false)⟩,
 ⟨some 33,.not (.t 32),some (31,false)⟩,
 ⟨some 34,.pick (.t 31) (.c (.b true)) (.t 33),none⟩])
 (.cond (.t 34)
 (.seq (.reg [⟨some 35,.build [.i .i64 0,.s [],.s [],.i .i64 0] [],none⟩,
 ⟨none,.store 4 (.t 2) (.t 35),none⟩,
 ⟨some 3,.mv (.c (.i .i64 60)),none⟩])
 (.ret))
 (.skip)))
 (.seq (.reg [⟨some 36,.mv (.t 8),none⟩,
 ⟨some 37,.mv (.t 0),none⟩,
 ⟨some 38,.callv (.t 36) [.t 37],none⟩,
 ⟨some 39,.ext (.t 38) 0,none⟩,
 ⟨some 40,.ext (.t 38) 1,none⟩,
 ⟨none,.store 4 (.t 2) (.t 39),none⟩,
 ⟨some 3,.mv (.t 40),none⟩])
 (.ret)))))))
theorem is_ident_Parse:FnIs Tryz.prog 65 41 [.celln 2 4,.tmp 3] c_ident_Parse:=⟨⟨_,_,Tryz.func65,rfl,rfl,by kernel_rfl,by kernel_rfl⟩⟩
def c_ref01_In:SCode :=
 .seq (.reg [⟨some 4,.mv (.c (.b false)),none⟩])
 (.seq (.seq (.reg [⟨some 5,.mv (.c (.i .i64 0)),none⟩])
 (.blk 0
 (.loop
 (.seq (.seq (.reg [⟨some 6,.mv (.t 5),none⟩,
 ⟨some 7,.mv (.t 1),none⟩,
 ⟨some 8,.lens (.t 7),none⟩,
 ⟨some 9,.bin .lss (.t 6) (.t 8),none⟩])
 (.cond (.t 9)
 (.skip)
 (.exit 0)))
 (.seq (.blk 1
 (.seq (.reg [⟨some 12,.mv (.t 1),none⟩,
 ⟨some 13,.mv (.t 5),none⟩,
 ⟨some 14,.idx (.t 12) (.t 13),none⟩,
 ⟨some 15,.mv (.t 0),none⟩,
 ⟨some 16,.bin .eql (.t 14) (.t 15),none⟩])
 (.cond (.t 16)
 (.seq (.reg [⟨some 4,.mv (.c (.b true)),none⟩])
 (.ret))
 (.skip))))
 (.reg [⟨some 10,.mv (.t 5),none⟩,
 ⟨some 11,.bin .add (.t 10) (.c (.i .i64 1)),none⟩,
 ⟨some 5,.mv (.t 11),none⟩]))))))
 (.seq (.reg [⟨some 4,.mv (.c (.b false)),none⟩])
 (.ret)))
theorem is_ref01_In:FnIs Tryz.prog 66 17 [.tmp 4] c_ref01_In:=⟨⟨_,_,Tryz.func66,rfl,rfl,by kernel_rfl,by kernel_rfl⟩⟩
def c_ref01_Equal:SCode :=
 .seq (.reg [⟨some 4,.mv (.c (.b false)),none⟩])
 (.seq (.reg [⟨some 5,.mv (.t 0),none⟩,
 ⟨some 6,.call 48 [.t 5],none⟩,
 ⟨some 7,.mv (.t 1),none⟩,
 ⟨some 8,.call 48 [.t 7],none⟩,
 ⟨some 9,.bin .eql (.t 6) (.t 8),none⟩,
 ⟨some 4,.mv (.t 9),none⟩])
 (.ret))
theorem is_ref01_Equal:FnIs Tryz.prog 67 10 [.tmp 4] c_ref01_Equal:=⟨⟨_,_,Tryz.func67,rfl,rfl,by kernel_rfl,by kernel_rfl⟩⟩
def c_ref03_Normalize:SCode :=
 .seq (.reg [⟨some 4,.mv (.c (.s [])),none⟩,
 ⟨some 5,.mv (.c (.i .i64 0)),none⟩])
 (.seq (.seq (.reg [⟨some 10,.mv (.t 0),none⟩,
 ⟨some 11,.lens (.t 10),none⟩,
 ⟨some 12,.bin .gtr (.t 11) (.c (.i .i64 16384)),none⟩])
 (.cond (.t 12)
 (.seq (.reg [⟨some 4,.mv (.c (.s [])),none⟩,
 ⟨some 5,.mv (.c (.i .i64 5)),none⟩])
 (.ret))
 (.skip)))
 (.seq (.reg [⟨some 6,.mv (.c .nil),none⟩])
 (.seq (.seq (.reg [⟨some 7,.mv (.c (.i .i64 0)),none⟩])
 (.blk 0
 (.loop
 (.seq (.seq (.reg [⟨some 13,.mv (.t 7),none⟩,
 ⟨some 14,.mv (.t 0),none⟩,
 ⟨some 15,.lens (.t 14),none⟩,
 ⟨some 16,.bin .lss (.t 13) (.t 15),none⟩])
 (.cond (.t 16)
 (.skip)
 (.exit 0)))
 (.seq (.blk 1
 (.seq (.seq (.reg [⟨some 19,.mv (.t 0),none⟩,
 ⟨some 20,.mv (.t 7),none⟩,
 ⟨some 21,.idx (.t 19) (.t 20),none⟩,
 ⟨some 22,.bin .neq (.t 21) (.c (.i .u8 37)),none⟩])
 (.cond (.t 22)
 (.seq (.seq (.reg [⟨some 23,.mv (.t 0),none⟩,
 ⟨some 24,.mv (.t 7),none⟩,
 ⟨some 25,.idx (.t 23) (.t 24),none⟩,
 ⟨some 26,.call 70 [.t 25],none⟩,
 ⟨some 27,.not (.t 26),none⟩,
 ⟨some 28,.mv (.t 27),none⟩,
 ⟨some 29,.mv (.t 0),some (28,true)⟩,
 ⟨some 30,.mv (.t 7),some (28,true)⟩,
 ⟨some 31,.idx (.t 29) (.t 30),some (28,true)⟩,
 ⟨some 32,.mv (.t 1),some (28,true)⟩,
 ⟨some 33,.call 66 [.t 31,.t 32],some (28,true)⟩,
 ⟨some 34,.not (.t 33),some (28,true)⟩,
 ⟨some 35,.pick (.t 28) (.t 34) (.c (.b false)),none⟩])
 (.cond (.t 35)
 (.seq (.reg [⟨some 4,.mv (.c (.s [])),none⟩,
 ⟨some 5,.mv (.c (.i .i64 1)),none⟩])
 (.ret))
 (.skip)))
 (.seq (.reg [⟨some 36,.mv (.t 6),none⟩,
 ⟨some 37,.mv (.t 0),none⟩,
 ⟨some 38,.mv (.t 7),none⟩,
 ⟨some 39,.idx (.t 37) (.t 38),none⟩,
 ⟨some 40,.bslice 1 [.i .u8 0] [(0,(1,.t 39))],none⟩,
 ⟨some 41,.app 5 1 1 (.t 36) (.t 40),none⟩,
 ⟨some 6,.mv (.t 41),none⟩])
 (.exit 1)))
 (.skip)))
 (.seq (.reg [⟨some 43,.mv (.t 0),none⟩,
 ⟨some 44,.mv (.t 7),none⟩,
 ⟨some 45,.call 90 [.t 43,.t 44],none⟩,
 ⟨some 42,.mv (.t 45),none⟩,
 ⟨some 46,.ext (.t 42) 0,none⟩,
 ⟨some 47,.ext (.t 42) 1,none⟩,
 ⟨some 8,.mv (.t 46),none⟩,
 ⟨some 9,.mv (.t 47),none⟩])
 (.seq (.seq (.reg [⟨some 48,.mv (.t 9),none⟩,
 ⟨some 49,.not (.t 48),none⟩])
 (.cond (.t 49)
 (.seq (.reg [⟨some 4,.mv (.c (.s [])),none⟩,
 ⟨some 5,.mv (.c (.i .i64 2)),none⟩])
 (.ret))
 (.skip)))
 (.seq (.seq (.reg [⟨some 50,.mv (.t 8),none⟩,
 ⟨some 51,.call 70 [.t 50],none⟩])
 (.cond (.t 51)
 (.reg [⟨some 52,.mv (.t 6),none⟩,
 ⟨some 53,.mv (.t 8),none⟩,
 ⟨some 54,.bslice 1 [.i .u8 0] [(0,(1,.t 53))],none⟩,
 ⟨some 55,.app 5 1 1 (.t 52) (.t 54),none⟩,
 ⟨some 6,.mv (.t 55),none⟩])
 (.reg [⟨some 56,.mv (.t 6),none⟩,
 ⟨some 57,.mv (.t 8),none⟩,
 ⟨some 58,.call 91 [.t 57],none⟩,
 ⟨some 59,.apps 5 (.t 56) (.t 58),none⟩,
 ⟨some 6,.mv (.t 59),none⟩])))
 (.reg [⟨some 60,.mv (.t 7),none⟩,
 ⟨some 61,.bin .add (.t 60) (.c (.i .i64 2)),none⟩,
 ⟨some 7,.mv (.t 61),none⟩]))))))
 (.reg [⟨some 17,.mv (.t 7),none⟩,
 ⟨some 18,.bin .add (.t 17) (.c (.i .i64 1)),none⟩,
 ⟨some 7,.mv (.t 18),none⟩]))))))
 (.seq (.reg [⟨some 62,.mv (.t 6),none⟩,
 ⟨some 63,.cvbs (.t 62),none⟩,
 ⟨some 4,.mv (.t 63),none⟩,
 ⟨some 5,.mv (.c (.i .i64 0)),none⟩])
 (.ret)))))
theorem is_ref03_Normalize:FnIs Tryz.prog 68 64 [.tmp 4,.tmp 5] c_ref03_Normalize:=⟨⟨_,_,Tryz.func68,rfl,rfl,by kernel_rfl,by kernel_rfl⟩⟩
def c_ref05_Host:SCode :=
 .seq (.reg [⟨some 2,.mv (.c (.s [])),none⟩,
 ⟨some 3,.mv (.c (.i .i64 0)),none⟩])
 (.seq (.blk 0
 (.seq (.reg [⟨some 5,.mv (.t 0),none⟩,
 ⟨some 6,.bin .eql (.t 5) (.c (.s [])),none⟩,
 ⟨some 4,.mv (.t 6),none⟩])
 (.cond (.t 4)
 (.seq (.reg [⟨some 2,.mv (.c (.s [])),none⟩,
 ⟨some 3,.mv (.c (.i .i64 3)),none⟩])
 (.ret))
 (.seq (.reg [⟨some 8,.mv (.t 0),none⟩,
 ⟨some 9,.lens (.t 8),none⟩,
 ⟨some 10,.bin .gtr (.t 9) (.c (.i .i64 253)),none⟩,
 ⟨some 7,.mv (.t 10),none⟩])
 (.cond (.t 7)
 (.seq (.reg [⟨some 2,.mv (.c (.s [])),none⟩,
 ⟨some 3,.mv (.c (.i .i64 5)),none⟩])
 (.ret))
 (.seq (.reg [⟨some 12,.mv (.t 0),none⟩,
 ⟨some 13,.call 73 [.t 12],none⟩,
 ⟨some 14,.not (.t 13),none⟩,
 ⟨some 15,.mv (.t 14),none⟩,
 ⟨some 16,.mv (.t 0),some (15,true)⟩,
 ⟨some 17,.call 92 [.t 16],some (15,true)⟩,
 ⟨some 18,.not (.t 17),some (15,true)⟩,
 ⟨some 19,.pick (.t 15) (.t 18) (.c (.b false)),none⟩,
 ⟨some 11,.mv (.t 19),none⟩])
 (.cond (.t 11)
 (.seq (.reg [⟨some 2,.mv (.c (.s [])),none⟩,
 ⟨some 3,.mv (.c (.i .i64 50)),none⟩])
 (.ret))
 (.skip))))))))
 (.seq (.reg [⟨some 20,.mv (.t 0),none⟩,
 ⟨some 21,.call 48 [.t 20],none⟩,
 ⟨some 2,.mv (.t 21),none⟩,
 ⟨some 3,.mv (.c (.i .i64 0)),none⟩])
 (.ret)))
theorem is_ref05_Host:FnIs Tryz.prog 69 22 [.tmp 2,.tmp 3] c_ref05_Host:=⟨⟨_,_,Tryz.func69,rfl,rfl,by kernel_rfl,by kernel_rfl⟩⟩
def c_ref01_IsUnreserved:SCode :=
 .seq (.reg [⟨some 2,.mv (.c (.b false)),none⟩])
 (.seq (.reg [⟨some 3,.mv (.t 0),none⟩,
 ⟨some 4,.call 93 [.t 3],none⟩,
 ⟨some 5,.mv (.t 4),none⟩,
 ⟨some 6,.mv (.t 0),some (5,false)⟩,
 ⟨some 7,.call 94 [.t 6],some (5,false)⟩,
 ⟨some 8,.pick (.t 5) (.c (.b true)) (.t 7),none⟩,
 ⟨some 9,.mv (.t 8),none⟩,
 ⟨some 10,.mv (.t 0),some (9,false)⟩,
 ⟨some 11,.call 66 [.t 10,.c (.s [45,46,95,126])],some (9,false)⟩,
 ⟨some 12,.pick (.t 9) (.c (.b true)) (.t 11),none⟩,
 ⟨some 2,.mv (.t 12),none⟩])
 (.ret))
theorem is_ref01_IsUnreserved:FnIs Tryz.prog 70 13 [.tmp 2] c_ref01_IsUnreserved:=⟨⟨_,_,Tryz.func70,rfl,rfl,by kernel_rfl,by kernel_rfl⟩⟩
def c_ref03_Decode:SCode :=
 .seq (.reg [⟨some 2,.mv (.c (.s [])),none⟩,
 ⟨some 3,.mv (.c (.i .i64 0)),none⟩])
 (.seq (.seq (.reg [⟨some 9,.mv (.t 0),none⟩,
 ⟨some 10,.lens (.t 9),none⟩,
 ⟨some 11,.bin .gtr (.t 10) (.c (.i .i64 16384)),none⟩])
 (.cond (.t 11)
 (.seq (.reg [⟨some 2,.mv (.c (.s [])),none⟩,
 ⟨some 3,.mv (.c (.i .i64 5)),none⟩])
 (.ret))
 (.skip)))
 (.seq (.reg [⟨some 4,.mv (.c .nil),none⟩])
 (.seq (.seq (.reg [⟨some 5,.mv (.c (.i .i64 0)),none⟩])
 (.blk 0
 (.loop
 (.seq (.seq (.reg [⟨some 12,.mv (.t 5),none⟩,
 ⟨some 13,.mv (.t 0),none⟩,
 ⟨some 14,.lens (.t 13),none⟩,
 ⟨some 15,.bin .lss (.t 12) (.t 14),none⟩])
 (.cond (.t 15)
 (.skip)
 (.exit 0)))
 (.seq (.blk 1
 (.seq (.reg [⟨some 18,.mv (.t 0),none⟩,
 ⟨some 19,.mv (.t 5),none⟩,
 ⟨some 20,.idx (.t 18) (.t 19),none⟩,
 ⟨some 6,.mv (.t 20),none⟩])
 (.seq (.seq (.reg [⟨some 21,.mv (.t 6),none⟩,
 ⟨some 22,.bin .eql (.t 21) (.c (.i .u8 37)),none⟩])
 (.cond (.t 22)
 (.seq (.reg [⟨some 24,.mv (.t 0),none⟩,
 ⟨some 25,.mv (.t 5),none⟩,
 ⟨some 26,.call 90 [.t 24,.t 25],none⟩,
 ⟨some 23,.mv (.t 26),none⟩,
 ⟨some 27,.ext (.t 23) 0,none⟩,
 ⟨some 28,.ext (.t 23) 1,none⟩,
 ⟨some 7,.mv (.t 27),none⟩,
 ⟨some 8,.mv (.t 28),none⟩])
 (.seq (.seq (.reg [⟨some 29,.mv (.t 8),none⟩,
 ⟨some 30,.not (.t 29),none⟩])
 (.cond (.t 30)
 (.seq (.reg [⟨some 2,.mv (.c (.s [])),none⟩,
 ⟨some 3,.mv (.c (.i .i64 2)),none⟩])
 (.ret))
 (.skip)))
 (.reg [⟨some 31,.mv (.t 7),none⟩,
 ⟨some 32,.mv (.t 5),none⟩,
 ⟨some 33,.bin .add (.t 32) (.c (.i .i64 2)),none⟩,
 ⟨some 6,.mv (.t 31),none⟩,
 ⟨some 5,.mv (.t 33),none⟩])))
 (.skip)))
 (.reg [⟨some 34,.mv (.t 4),none⟩,
 ⟨some 35,.mv (.t 6),none⟩,
 ⟨some 36,.bslice 1 [.i .u8 0] [(0,(1,.t 35))],none⟩,
 ⟨some 37,.app 5 1 1 (.t 34) (.t 36),none⟩,
 ⟨some 4,.mv (.t 37),none⟩]))))
 (.reg [⟨some 16,.mv (.t 5),none⟩,
 ⟨some 17,.bin .add (.t 16) (.c (.i .i64 1)),none⟩,
 ⟨some 5,.mv (.t 17),none⟩]))))))
 (.seq (.reg [⟨some 38,.mv (.t 4),none⟩,
 ⟨some 39,.cvbs (.t 38),none⟩,
 ⟨some 2,.mv (.t 39),none⟩,
 ⟨some 3,.mv (.c (.i .i64 0)),none⟩])
 (.ret)))))
theorem is_ref03_Decode:FnIs Tryz.prog 71 40 [.tmp 2,.tmp 3] c_ref03_Decode:=⟨⟨_,_,Tryz.func71,rfl,rfl,by kernel_rfl,by kernel_rfl⟩⟩
def c_ref09_Local:SCode :=
 .seq (.reg [⟨some 2,.mv (.c (.b false)),none⟩])
 (.seq (.seq (.reg [⟨some 6,.mv (.t 0),none⟩,
 ⟨some 7,.bin .eql (.t 6) (.c (.s [])),none⟩,
 ⟨some 8,.mv (.t 7),none⟩,
 ⟨some 9,.mv (.t 0),some (8,false)⟩,
 ⟨some 10,.lens (.t 9),some (8,false)⟩,
 ⟨some 11,.bin .gtr (.t 10) (.c (.i .i64 64)),some (8,false)⟩,
 ⟨some 12,.pick (.t 8) (.c (.b true)) (.t 11),none⟩])
 (.cond (.t 12)
 (.seq (.reg [⟨some 2,.mv (.c (.b false)),none⟩])
 (.ret))
 (.skip)))
 (.seq (.seq (.reg [⟨some 13,.mv (.t 0),none⟩,
 ⟨some 14,.call 95 [.t 13,.c (.i .u8 46)],none⟩,
 ⟨some 15,.lenr (.t 14),none⟩,
 ⟨some 16,.mv (.c (.i .i64 0)),none⟩])
 (.blk 0
 (.loop
 (.seq (.reg [⟨some 17,.bin .lss (.t 16) (.t 15),none⟩])
 (.seq (.cond (.t 17)
 (.skip)
 (.exit 0))
 (.seq (.blk 1
 (.seq (.reg [⟨some 18,.iad 1 (.t 14) (.t 16),none⟩,
 ⟨some 19,.load1 (.t 18),none⟩,
 ⟨some 4,.mv (.t 19),none⟩])
 (.seq (.seq (.reg [⟨some 20,.mv (.t 4),none⟩,
 ⟨some 21,.bin .eql (.t 20) (.c (.s [])),none⟩])
 (.cond (.t 21)
 (.seq (.reg [⟨some 2,.mv (.c (.b false)),none⟩])
 (.ret))
 (.skip)))
 (.seq (.reg [⟨some 5,.mv (.c (.i .i64 0)),none⟩])
 (.blk 2
 (.loop
 (.seq (.seq (.reg [⟨some 22,.mv (.t 5),none⟩,
 ⟨some 23,.mv (.t 4),none⟩,
 ⟨some 24,.lens (.t 23),none⟩,
 ⟨some 25,.bin .lss (.t 22) (.t 24),none⟩])
 (.cond (.t 25)
 (.skip)
 (.exit 2)))
 (.seq (.blk 3
 (.seq (.reg [⟨some 28,.mv (.t 4),none⟩,
 ⟨some 29,.mv (.t 5),none⟩,
 ⟨some 30,.idx (.t 28) (.t 29),none⟩,
 ⟨some 31,.call 96 [.t 30],none⟩,
 ⟨some 32,.not (.t 31),none⟩])
 (.cond (.t 32)
 (.seq (.reg [⟨some 2,.mv (.c (.b false)),none⟩])
 (.ret))
 (.skip))))
 (.reg [⟨some 26,.mv (.t 5),none⟩,
 ⟨some 27,.bin .add (.t 26) (.c (.i .i64 1)),none⟩,
 ⟨some 5,.mv (.t 27),none⟩])))))))))
 (.reg [⟨some 33,.bin .add (.t 16) (.c (.i .i64 1)),none⟩,
 ⟨some 16,.mv (.t 33),none⟩])))))))
 (.seq (.reg [⟨some 2,.mv (.c (.b true)),none⟩])
 (.ret))))
theorem is_ref09_Local:FnIs Tryz.prog 72 34 [.tmp 2] c_ref09_Local:=⟨⟨_,_,Tryz.func72,rfl,rfl,by kernel_rfl,by kernel_rfl⟩⟩
def c_ref05_IsIPv4:SCode :=
 .seq (.reg [⟨some 2,.mv (.c (.b false)),none⟩])
 (.seq (.reg [⟨some 8,.mv (.t 0),none⟩,
 ⟨some 9,.call 95 [.t 8,.c (.i .u8 46)],none⟩,
 ⟨some 3,.mv (.t 9),none⟩])
 (.seq (.seq (.reg [⟨some 10,.mv (.t 3),none⟩,
 ⟨some 11,.lenr (.t 10),none⟩,
 ⟨some 12,.mv (.c (.i .i64 0)),none⟩])
 (.blk 0
 (.loop
 (.seq (.reg [⟨some 13,.bin .lss (.t 12) (.t 11),none⟩])
 (.seq (.cond (.t 13)
 (.skip)
 (.exit 0))
 (.seq (.blk 1
 (.seq (.reg [⟨some 14,.iad 1 (.t 10) (.t 12),none⟩,
 ⟨some 15,.load1 (.t 14),none⟩,
 ⟨some 5,.mv (.t 15),none⟩])
 (.seq (.reg [⟨some 17,.mv (.t 5),none⟩,
 ⟨some 18,.call 97 [.t 17,.c (.i .u64 255)],none⟩,
 ⟨some 16,.mv (.t 18),none⟩,
 ⟨some 19,.ext (.t 16) 0,none⟩,
 ⟨some 20,.ext (.t 16) 1,none⟩,
 ⟨some 6,.mv (.t 19),none⟩,
 ⟨some 7,.mv (.t 20),none⟩])
 (.seq (.reg [⟨some 21,.mv (.t 7),none⟩,
 ⟨some 22,.bin .neq (.t 21) (.c (.i .i64 0)),none⟩])
 (.cond (.t 22)
 (.seq (.reg [⟨some 2,.mv (.c (.b false)),none⟩])
 (.ret))
 (.skip))))))
 (.reg [⟨some 23,.bin .add (.t 12) (.c (.i .i64 1)),none⟩,
 ⟨some 12,.mv (.t 23),none⟩])))))))
 (.seq (.reg [⟨some 24,.mv (.t 3),none⟩,
 ⟨some 25,.lenr (.t 24),none⟩,
 ⟨some 26,.bin .eql (.t 25) (.c (.i .i64 4)),none⟩,
 ⟨some 2,.mv (.t 26),none⟩])
 (.ret))))
theorem is_ref05_IsIPv4:FnIs Tryz.prog 73 27 [.tmp 2] c_ref05_IsIPv4:=⟨⟨_,_,Tryz.func73,rfl,rfl,by kernel_rfl,by kernel_rfl⟩⟩
def c_ref03_Encode:SCode :=
 .seq (.reg [⟨some 4,.mv (.c (.s [])),none⟩])
 (.seq (.reg [⟨some 5,.mv (.c (.s [])),none⟩])
 (.seq (.seq (.reg [⟨some 6,.mv (.c (.i .i64 0)),none⟩])
 (.blk 0
 (.loop
 (.seq (.seq (.reg [⟨some 7,.mv (.t 6),none⟩,
 ⟨some 8,.mv (.t 0),none⟩,
 ⟨some 9,.lens (.t 8),none⟩,
 ⟨some 10,.bin .lss (.t 7) (.t 9),none⟩])
 (.cond (.t 10)
 (.skip)
 (.exit 0)))
 (.seq (.blk 1
 (.seq (.reg [⟨some 13,.mv (.t 0),none⟩,
 ⟨some 14,.mv (.t 6),none⟩,
 ⟨some 15,.idx (.t 13) (.t 14),none⟩,
 ⟨some 16,.call 70 [.t 15],none⟩,
 ⟨some 17,.mv (.t 16),none⟩,
 ⟨some 18,.mv (.t 0),some (17,false)⟩,
 ⟨some 19,.mv (.t 6),some (17,false)⟩,
 ⟨some 20,.idx (.t 18) (.t 19),some (17,false)⟩,
 ⟨some 21,.bin .neq (.t 20) (.c (.i .u8 37)),some (17,false)⟩,
 ⟨some 22,.mv (.t 21),some (17,false)⟩,
 ⟨some 23,.mv (.t 0),some (22,true)⟩,
 ⟨some 24,.mv (.t 6),some (22,true)⟩,
 ⟨some 25,.idx (.t 23) (.t 24),some (22,true)⟩,
 ⟨some 26,.mv (.t 1),some (22,true)⟩,
 ⟨some 27,.call 66 [.t 25,.t 26],some (22,true)⟩,
 ⟨some 28,.pick (.t 22) (.t 27) (.c (.b false)),some (17,false)⟩,
 ⟨some 29,.pick (.t 17) (.c (.b true)) (.t 28),none⟩])
 (.cond (.t 29)
 (.reg [⟨some 30,.mv (.t 5),none⟩,
 ⟨some 31,.mv (.t 0),none⟩,
 ⟨some 32,.mv (.t 6),none⟩,
 ⟨some 33,.mv (.t 6),none⟩,
 ⟨some 34,.bin .add (.t 33) (.c (.i .i64 1)),none⟩,
 ⟨some 35,.slcs (.t 31) (some (.t 32)) (some (.t 34)),none⟩,
 ⟨some 36,.bin .add (.t 30) (.t 35),none⟩,
 ⟨some 5,.mv (.t 36),none⟩])
 (.reg [⟨some 37,.mv (.t 5),none⟩,
 ⟨some 38,.mv (.t 0),none⟩,
 ⟨some 39,.mv (.t 6),none⟩,
 ⟨some 40,.idx (.t 38) (.t 39),none⟩,
 ⟨some 41,.call 91 [.t 40],none⟩,
 ⟨some 42,.bin .add (.t 37) (.t 41),none⟩,
 ⟨some 5,.mv (.t 42),none⟩]))))
 (.reg [⟨some 11,.mv (.t 6),none⟩,
 ⟨some 12,.bin .add (.t 11) (.c (.i .i64 1)),none⟩,
 ⟨some 6,.mv (.t 12),none⟩]))))))
 (.seq (.reg [⟨some 43,.mv (.t 5),none⟩,
 ⟨some 4,.mv (.t 43),none⟩])
 (.ret))))
theorem is_ref03_Encode:FnIs Tryz.prog 74 44 [.tmp 4] c_ref03_Encode:=⟨⟨_,_,Tryz.func74,rfl,rfl,by kernel_rfl,by kernel_rfl⟩⟩
def c_ref07_Parse:SCode :=
 .seq (.reg [⟨some 2,.alloc 79 [.s [],.i .i64 0,.s [],.s [],.s [],.b false,.b false],none⟩,
 ⟨some 3,.mv (.c (.i .i64 0)),none⟩])
 (.seq (.seq (.reg [⟨some 11,.mv (.t 0),none⟩,
 ⟨some 12,.lens (.t 11),none⟩,
 ⟨some 13,.bin .gtr (.t 12) (.c (.i .i64 4096)),none⟩])
 (.cond (.t 13)
 (.seq (.reg [⟨some 14,.build [.s [],.i .i64 0,.s [],.s [],.s [],.b false,.b false] [],none⟩,
 ⟨none,.store 7 (.t 2) (.t 14),none⟩,
 ⟨some 3,.mv (.c (.i .i64 5)),none⟩])
 (.ret))
 (.skip)))
 (.seq (.reg [⟨some 16,.mv (.t 0),none⟩,
 ⟨some 17,.call 98 [.t 16],none⟩,
 ⟨some 15,.mv (.t 17),none⟩,
 ⟨some 18,.ext (.t 15) 0,none⟩,
 ⟨some 19,.ext (.t 15) 1,none⟩,
 ⟨some 4,.alloc 150 [.s [],.s [],.s [],.s [],.s [],.b false,.b false,.b false,.b false],none⟩,
 ⟨none,.store 9 (.t 4) (.t 18),none⟩,
 ⟨some 5,.mv (.t 19),none⟩])
 (.seq (.seq (.reg [⟨some 20,.mv (.t 5),none⟩,
 ⟨some 21,.bin .neq (.t 20) (.c (.i .i64 0)),none⟩])
 (.cond (.t 21)
 (.seq (.reg [⟨some 22,.build [.s [],.i .i64 0,.s [],.s [],.s [],.b false,.b false] [],none⟩,
 ⟨some 23,.mv (.t 5),none⟩,
 ⟨none,.store 7 (.t 2) (.t 22),none⟩,
 ⟨some 3,.mv (.t 23),none⟩])
 (.ret))
 (.skip)))
 (.seq (.blk 0
 (.seq (.reg [⟨some 25,.fad 5 (.t 4),none⟩,
 ⟨some 26,.load1 (.t 25),none⟩,
 ⟨some 27,.not (.t 26),none⟩,
 ⟨some 28,.mv (.t 27),none⟩,
 ⟨some 29,.fad 0 (.t 4),some (28,false)⟩,
 ⟨some 30,.load1 (.t 29),some (28,false)⟩,
 ⟨some 31,.call 67 [.t 30,.c (.s [104,116,116,112,115])],some (28,false)⟩,
 ⟨some 32,.not (.t 31),some (28,false)⟩,
 ⟨some 33,.pick (.t 28) (.c (.b true)) (.t 32),none⟩,
 ⟨some 24,.mv (.t 33),none⟩])
 (.cond (.t 24)
 (.seq (.reg [⟨some 34,.build [.s [],.i .i64 0,.s [],.s [],.s [],.b false,.b false] [],none⟩,
 ⟨none,.store 7 (.t 2) (.t 34),none⟩,
 ⟨some 3,.mv (.c (.i .i64 60)),none⟩])
 (.ret))
 (.seq (.reg [⟨some 36,.fad 6 (.t 4),none⟩,
 ⟨some 37,.load1 (.t 36),none⟩,
 ⟨some 38,.not (.t 37),none⟩,
 ⟨some 35,.mv (.t 38),none⟩])
 (.cond (.t 35)
 (.seq (.reg [⟨some 39,.build [.s [],.i .i64 0,.s [],.s [],.s [],.b false,.b false] [],none⟩,
 ⟨none,.store 7 (.t 2) (.t 39),none⟩,
 ⟨some 3,.mv (.c (.i .i64 71)),none⟩])
 (.ret))
 (.seq (.drw [⟨some 41,.fad 1 (.t 4),none⟩,
 ⟨some 42,.load1 (.t 41),none⟩,
 ⟨some 43,.call 47 [.t 42,.c (.s [64])],none⟩,
 ⟨some 44,.fad 1 (.t 4),none⟩,
 ⟨some 45,.load1 (.t 44),none⟩,
 ⟨some 46,.lens (.t 45),none⟩,
 ⟨some 47,.bin .lss (.t 43) (.t 46),none⟩,
 ⟨some 40,.mv (.t 47),none⟩] 8 [])
 (.cond (.t 40)
 (.seq (.reg [⟨some 48,.build [.s [],.i .i64 0,.s [],.s [],.s [],.b false,.b false] [],none⟩,
 ⟨none,.store 7 (.t 2) (.t 48),none⟩,
 ⟨some 3,.mv (.c (.i .i64 70)),none⟩])
 (.ret))
 (.skip))))))))
 (.seq (.reg [⟨some 50,.fad 1 (.t 4),none⟩,
 ⟨some 51,.load1 (.t 50),none⟩,
 ⟨some 52,.call 99 [.t 51],none⟩,
 ⟨some 49,.mv (.t 52),none⟩,
 ⟨some 53,.ext (.t 49) 0,none⟩,
 ⟨some 54,.ext (.t 49) 1,none⟩,
 ⟨some 6,.alloc 124 [.s [],.i .i64 0],none⟩,
 ⟨none,.store 2 (.t 6) (.t 53),none⟩,
 ⟨some 5,.mv (.t 54),none⟩])
 (.seq (.seq (.reg [⟨some 55,.mv (.t 5),none⟩,
 ⟨some 56,.bin .neq (.t 55) (.c (.i .i64 0)),none⟩])
 (.cond (.t 56)
 (.seq (.reg [⟨some 57,.build [.s [],.i .i64 0,.s [],.s [],.s [],.b false,.b false] [],none⟩,
 ⟨some 58,.mv (.t 5),none⟩,
 ⟨none,.store 7 (.t 2) (.t 57),none⟩,
 ⟨some 3,.mv (.t 58),none⟩])
 (.ret))
 (.skip)))
 (.seq (.reg [⟨some 60,.fad 2 (.t 4),none⟩,
 ⟨some 61,.load1 (.t 60),none⟩,
 ⟨some 62,.call 68 [.t 61,.c (.s [33,36,38,39,40,41,42,43,44,59,61,58,64,47])],none⟩,
 ⟨some 59,.mv (.t 62),none⟩,
 ⟨some 63,.ext (.t 59) 0,none⟩,
 ⟨some 64,.ext (.t 59) 1,none⟩,
 ⟨some 7,.mv (.t 63),none⟩,
 ⟨some 5,.mv (.t 64),none⟩])
 (.seq (.seq (.reg [⟨some 65,.mv (.t 5),none⟩,
 ⟨some 66,.bin .neq (.t 65) (.c (.i .i64 0)),none⟩])
 (.cond (.t 66)
 (.seq (.reg [⟨some 67,.build [.s [],.i .i64 0,.s [],.s [],.s [],.b false,.b false] [],none⟩,
 ⟨some 68,.mv (.t 5),none⟩,
 ⟨none,.store 7 (.t 2) (.t 67),none⟩,
 ⟨some 3,.mv (.t 68),none⟩])
 (.ret))
 (.skip)))
 (.seq (.reg [⟨some 70,.fad 3 (.t 4),none⟩,
 ⟨some 71,.load1 (.t 70),none⟩,
 ⟨some 72,.call 68 [.t 71,.c (.s [33,36,38,39,40,41,42,43,44,59,61,58,64,47,63])],none⟩,
 ⟨some 69,.mv (.t 72),none⟩,
 ⟨some 73,.ext (.t 69) 0,none⟩,
 ⟨some 74,.ext (.t 69) 1,none⟩,
 ⟨some 8,.mv (.t 73),none⟩,
 ⟨some 5,.mv (.t 74),none⟩])
 (.seq (.seq (.reg [⟨some 75,.mv (.t 5),none⟩,
 ⟨some 76,.bin .neq (.t 75) (.c (.i .i64 0)),none⟩])
 (.cond (.t 76)
 (.seq (.reg [⟨some 77,.build [.s [],.i .i64 0,.s [],.s [],.s [],.b false,.b false] [],none⟩,
 ⟨some 78,.mv (.t 5),none⟩,
 ⟨none,.store 7 (.t 2) (.t 77),none⟩,
 ⟨some 3,.mv (.t 78),none⟩])
 (.ret))
 (.skip)))
 (.seq (.reg [⟨some 80,.fad 4 (.t 4),none⟩,
 ⟨some 81,.load1 (.t 80),none⟩,
 ⟨some 82,.call 68 [.t 81,.c (.s [33,36,38,39,40,41,42,43,44,59,61,58,64,47,63])],none⟩,
 ⟨some 79,.mv (.t 82),none⟩,
 ⟨some 83,.ext (.t 79) 0,none⟩,
 ⟨some 84,.ext (.t 79) 1,none⟩,
 ⟨some 9,.mv (.t 83),none⟩,
 ⟨some 5,.mv (.t 84),none⟩])
 (.seq (.seq (.reg [⟨some 85,.mv (.t 5),none⟩,
 ⟨some 86,.bin .neq (.t 85) (.c (.i .i64 0)),none⟩])
 (.cond (.t 86)
 (.seq (.reg [⟨some 87,.build [.s [],.i .i64 0,.s [],.s [],.s [],.b false,.b false] [],none⟩,
 ⟨some 88,.mv (.t 5),none⟩,
 ⟨none,.store 7 (.t 2) (.t 87),none⟩,
 ⟨some 3,.mv (.t 88),none⟩])
 (.ret))
 (.skip)))
 (.seq (.seq (.reg [⟨some 89,.mv (.t 7),none⟩,
 ⟨some 90,.call 100 [.t 89],none⟩,
 ⟨some 7,.mv (.t 90),none⟩])
 (.seq (.reg [⟨some 91,.mv (.t 7),none⟩,
 ⟨some 92,.bin .eql (.t 91) (.c (.s [])),none⟩])
 (.cond (.t 92)
 (.reg [⟨some 7,.mv (.c (.s [47])),none⟩])
 (.skip))))
 (.seq (.reg [⟨some 93,.fad 0 (.t 6),none⟩,
 ⟨some 94,.load1 (.t 93),none⟩,
 ⟨some 95,.fad 1 (.t 6),none⟩,
 ⟨some 96,.load1 (.t 95),none⟩,
 ⟨some 97,.mv (.t 7),none⟩,
 ⟨some 98,.mv (.t 8),none⟩,
 ⟨some 99,.mv (.t 9),none⟩,
 ⟨some 100,.fad 7 (.t 4),none⟩,
 ⟨some 101,.load1 (.t 100),none⟩,
 ⟨some 102,.fad 8 (.t 4),none⟩,
 ⟨some 103,.load1 (.t 102),none⟩,
 ⟨some 104,.build [.s [],.i .i64 0,.s [],.s [],.s [],.b false,.b false] [(0,(1,.t 94)),(1,(1,.t 96)),(2,(1,.t 97)),(3,(1,.t 98)),(4,(1,.t 99)),(5,(1,.t 101)),(6,(1,.t 103))],none⟩,
 ⟨some 10,.alloc 79 [.s [],.i .i64 0,.s [],.s [],.s [],.b false,.b false],none⟩,
 ⟨none,.store 7 (.t 10) (.t 104),none⟩])
 (.seq (.seq (.reg [⟨some 105,.loadn 7 (.t 10),none⟩,
 ⟨some 106,.call 76 [.t 105],none⟩,
 ⟨some 107,.lens (.t 106),none⟩,
 ⟨some 108,.bin .gtr (.t 107) (.c (.i .i64 4096)),none⟩])
 (.cond (.t 108)
 (.seq (.reg [⟨some 109,.build [.s [],.i .i64 0,.s [],.s [],.s [],.b false,.b false] [],none⟩,
 ⟨none,.store 7 (.t 2) (.t 109),none⟩,
 ⟨some 3,.mv (.c (.i .i64 5)),none⟩])
 (.ret))
 (.skip)))
 (.seq (.reg [⟨some 110,.loadn 7 (.t 10),none⟩,
 ⟨none,.store 7 (.t 2) (.t 110),none⟩,
 ⟨some 3,.mv (.c (.i .i64 0)),none⟩])
 (.ret)))))))))))))))))
theorem is_ref07_Parse:FnIs Tryz.prog 75 111 [.celln 2 7,.tmp 3] c_ref07_Parse:=⟨⟨_,_,Tryz.func75,rfl,rfl,by kernel_rfl,by kernel_rfl⟩⟩
def c_ref07_Format:SCode :=
 .seq (.reg [⟨some 1,.box 79 (.t 0),none⟩,
 ⟨some 2,.mv (.c (.s [])),none⟩])
 (.seq (.drw [⟨some 4,.loadn 7 (.t 1),none⟩,
 ⟨some 5,.call 102 [.t 4],none⟩,
 ⟨some 6,.call 101 [.t 5],none⟩,
 ⟨some 7,.bin .add (.c (.s [104,116,116,112,115,58,47,47])) (.t 6),none⟩,
 ⟨some 8,.loadn 7 (.t 1),none⟩,
 ⟨some 9,.call 103 [.t 8],none⟩,
 ⟨some 10,.bin .add (.t 7) (.t 9),none⟩,
 ⟨some 3,.mv (.t 10),none⟩] 8 [])
 (.seq (.seq (.reg [⟨some 11,.fad 6 (.t 1),none⟩,
 ⟨some 12,.load1 (.t 11),none⟩])
 (.cond (.t 12)
 (.reg [⟨some 13,.mv (.t 3),none⟩,
 ⟨some 14,.fad 4 (.t 1),none⟩,
 ⟨some 15,.load1 (.t 14),none⟩,
 ⟨some 16,.bin .add (.c (.s [35])) (.t 15),none⟩,
 ⟨some 17,.bin .add (.t 13) (.t 16),none⟩,
 ⟨some 3,.mv (.t 17),none⟩])
 (.skip)))
 (.seq (.reg [⟨some 18,.mv (.t 3),none⟩,
 ⟨some 2,.mv (.t 18),none⟩])
 (.ret))))
theorem is_ref07_Format:FnIs Tryz.prog 76 19 [.tmp 2] c_ref07_Format:=⟨⟨_,_,Tryz.func76,rfl,rfl,by kernel_rfl,by kernel_rfl⟩⟩
def c_ref10_ParseDID:SCode :=
 .seq (.reg [⟨some 2,.alloc 119 [.s [],.s []],none⟩,
 ⟨some 3,.mv (.c (.i .i64 0)),none⟩])
 (.seq (.blk 0
 (.seq (.reg [⟨some 17,.mv (.t 0),none⟩,
 ⟨some 18,.lens (.t 17),none⟩,
 ⟨some 19,.bin .gtr (.t 18) (.c (.i .i64 4096)),none⟩,
 ⟨some 16,.mv (.t 19),none⟩])
 (.cond (.t 16)
 (.seq (.reg [⟨some 20,.build [.s [],.s []] [],none⟩,
 ⟨none,.store 2 (.t 2) (.t 20),none⟩,
 ⟨some 3,.mv (.c (.i .i64 5)),none⟩])
 (.ret))
 (.seq (.reg [⟨some 22,.mv (.t 0),none⟩,
 ⟨some 23,.call 104 [.t 22,.c (.s [100,105,100,58])],none⟩,
 ⟨some 24,.not (.t 23),none⟩,
 ⟨some 21,.mv (.t 24),none⟩])
 (.cond (.t 21)
 (.seq (.reg [⟨some 25,.build [.s [],.s []] [],none⟩,
 ⟨none,.store 2 (.t 2) (.t 25),none⟩,
 ⟨some 3,.mv (.c (.i .i64 60)),none⟩])
 (.ret))
 (.skip))))))
 (.seq (.reg [⟨some 26,.mv (.t 0),none⟩,
 ⟨some 27,.slcs (.t 26) (some (.c (.i .i64 4))) none,none⟩,
 ⟨some 0,.mv (.t 27),none⟩])
 (.seq (.reg [⟨some 28,.mv (.t 0),none⟩,
 ⟨some 29,.call 47 [.t 28,.c (.s [58])],none⟩,
 ⟨some 4,.mv (.t 29),none⟩])
 (.seq (.seq (.reg [⟨some 30,.mv (.t 4),none⟩,
 ⟨some 31,.mv (.t 0),none⟩,
 ⟨some 32,.lens (.t 31),none⟩,
 ⟨some 33,.bin .eql (.t 30) (.t 32),none⟩])
 (.cond (.t 33)
 (.seq (.reg [⟨some 34,.build [.s [],.s []] [],none⟩,
 ⟨none,.store 2 (.t 2) (.t 34),none⟩,
 ⟨some 3,.mv (.c (.i .i64 6)),none⟩])
 (.ret))
 (.skip)))
 (.seq (.seq (.reg [⟨some 35,.mv (.t 0),none⟩,
 ⟨some 36,.mv (.t 4),none⟩,
 ⟨some 37,.slcs (.t 35) none (some (.t 36)),none⟩,
 ⟨some 38,.call 105 [.t 37],none⟩,
 ⟨some 39,.not (.t 38),none⟩])
 (.cond (.t 39)
 (.seq (.reg [⟨some 40,.build [.s [],.s []] [],none⟩,
 ⟨none,.store 2 (.t 2) (.t 40),none⟩,
 ⟨some 3,.mv (.c (.i .i64 100)),none⟩])
 (.ret))
 (.skip)))
 (.seq (.reg [⟨some 41,.mv (.t 0),none⟩,
 ⟨some 42,.mv (.t 4),none⟩,
 ⟨some 43,.bin .add (.t 42) (.c (.i .i64 1)),none⟩,
 ⟨some 44,.slcs (.t 41) (some (.t 43)) none,none⟩,
 ⟨some 45,.call 95 [.t 44,.c (.i .u8 58)],none⟩,
 ⟨some 5,.mv (.t 45),none⟩])
 (.seq (.seq (.reg [⟨some 46,.mv (.t 5),none⟩,
 ⟨some 47,.lenr (.t 46),none⟩,
 ⟨some 48,.mv (.c (.i .i64 0)),none⟩])
 (.blk 1
 (.loop
 (.seq (.reg [⟨some 49,.bin .lss (.t 48) (.t 47),none⟩])
 (.seq (.cond (.t 49)
 (.skip)
 (.exit 1))
 (.seq (.blk 2
 (.seq (.reg [⟨some 50,.iad 1 (.t 46) (.t 48),none⟩,
 ⟨some 51,.load1 (.t 50),none⟩,
 ⟨some 7,.mv (.t 51),none⟩])
 (.seq (.reg [⟨some 53,.mv (.t 7),none⟩,
 ⟨some 54,.call 71 [.t 53],none⟩,
 ⟨some 52,.mv (.t 54),none⟩,
 ⟨some 55,.ext (.t 52) 0,none⟩,
 ⟨some 56,.ext (.t 52) 1,none⟩,
 ⟨some 8,.mv (.t 55),none⟩,
 ⟨some 9,.mv (.t 56),none⟩])
 (.seq (.reg [⟨some 57,.mv (.t 9),none⟩,
 ⟨some 58,.bin .neq (.t 57) (.c (.i .i64 0)),none⟩])
 (.cond (.t 58)
 (.seq (.reg [⟨some 59,.build [.s [],.s []] [],none⟩,
 ⟨none,.store 2 (.t 2) (.t 59),none⟩,
 ⟨some 3,.mv (.c (.i .i64 2)),none⟩])
 (.ret))
 (.skip))))))
 (.reg [⟨some 60,.bin .add (.t 48) (.c (.i .i64 1)),none⟩,
 ⟨some 48,.mv (.t 60),none⟩])))))))
 (.seq (.reg [⟨some 10,.mv (.c (.s [])),none⟩])
 (.seq (.seq (.reg [⟨some 61,.mv (.t 5),none⟩,
 ⟨some 62,.lenr (.t 61),none⟩,
 ⟨some 63,.mv (.c (.i .i64 0)),none⟩])
 (.blk 3
 (.loop
 (.seq (.reg [⟨some 64,.bin .lss (.t 63) (.t 62),none⟩])
 (.seq (.cond (.t 64)
 (.skip)
 (.exit 3))
 (.seq (.blk 4
 (.seq (.reg [⟨some 65,.mv (.t 63),none⟩,
 ⟨some 66,.iad 1 (.t 61) (.t 63),none⟩,
 ⟨some 67,.load1 (.t 66),none⟩,
 ⟨some 11,.mv (.t 65),none⟩,
 ⟨some 12,.mv (.t 67),none⟩])
 (.seq (.seq (.reg [⟨some 13,.mv (.c (.i .i64 0)),none⟩])
 (.blk 5
 (.loop
 (.seq (.seq (.reg [⟨some 68,.mv (.t 13),none⟩,
 ⟨some 69,.mv (.t 12),none⟩,
 ⟨some 70,.lens (.t 69),none⟩,
 ⟨some 71,.bin .lss (.t 68) (.t 70),none⟩])
 (.cond (.t 71)
 (.skip)
 (.exit 5)))
 (.seq (.blk 6
 (.seq (.reg [⟨some 74,.mv (.t 12),none⟩,
 ⟨some 75,.mv (.t 13),none⟩,
 ⟨some 76,.idx (.t 74) (.t 75),none⟩,
 ⟨some 77,.call 106 [.t 76],none⟩,
 ⟨some 78,.not (.t 77),none⟩,
 ⟨some 79,.mv (.t 78),none⟩,
 ⟨some 80,.mv (.t 12),some (79,true)⟩,
 ⟨some 81,.mv (.t 13),some (79,true)⟩,
 ⟨some 82,.idx (.t 80) (.t 81),some (79,true)⟩,
 ⟨some 83,.bin .neq (.t 82) (.c (.i .u8 37)),some (79,true)⟩,
 ⟨some 84,.pick (.t 79) (.t 83) (.c (.b false)),none⟩])
 (.cond (.t 84)
 (.seq (.reg [⟨some 85,.build [.s [],.s []] [],none⟩,
 ⟨none,.store 2 (.t 2) (.t 85),none⟩,
 ⟨some 3,.mv (.c (.i .i64 1)),none⟩])
 (.ret))
 (.skip))))
 (.reg [⟨some 72,.mv (.t 13),none⟩,
 ⟨some 73,.bin .add (.t 72) (.c (.i .i64 1)),none⟩,
 ⟨some 13,.mv (.t 73),none⟩]))))))
 (.seq (.reg [⟨some 87,.mv (.t 12),none⟩,
 ⟨some 88,.call 71 [.t 87],none⟩,
 ⟨some 86,.mv (.t 88),none⟩,
 ⟨some 89,.ext (.t 86) 0,none⟩,
 ⟨some 90,.ext (.t 86) 1,none⟩,
 ⟨some 14,.mv (.t 89),none⟩,
 ⟨some 15,.mv (.t 90),none⟩])
 (.seq (.seq (.reg [⟨some 91,.mv (.t 11),none⟩,
 ⟨some 92,.bin .gtr (.t 91) (.c (.i .i64 0)),none⟩])
 (.cond (.t 92)
 (.reg [⟨some 93,.mv (.t 10),none⟩,
 ⟨some 94,.bin .add (.t 93) (.c (.s [58])),none⟩,
 ⟨some 10,.mv (.t 94),none⟩])
 (.skip)))
 (.reg [⟨some 95,.mv (.t 10),none⟩,
 ⟨some 96,.mv (.t 14),none⟩,
 ⟨some 97,.call 107 [.t 96],none⟩,
 ⟨some 98,.bin .add (.t 95) (.t 97),none⟩,
 ⟨some 10,.mv (.t 98),none⟩]))))))
 (.reg [⟨some 99,.bin .add (.t 63) (.c (.i .i64 1)),none⟩,
 ⟨some 63,.mv (.t 99),none⟩])))))))
 (.seq (.seq (.reg [⟨some 100,.mv (.t 5),none⟩,
 ⟨some 101,.mv (.t 5),none⟩,
 ⟨some 102,.lenr (.t 101),none⟩,
 ⟨some 103,.bin .sub (.t 102) (.c (.i .i64 1)),none⟩,
 ⟨some 104,.iad 1 (.t 100) (.t 103),none⟩,
 ⟨some 105,.load1 (.t 104),none⟩,
 ⟨some 106,.bin .eql (.t 105) (.c (.s [])),none⟩])
 (.cond (.t 106)
 (.seq (.reg [⟨some 107,.build [.s [],.s []] [],none⟩,
 ⟨none,.store 2 (.t 2) (.t 107),none⟩,
 ⟨some 3,.mv (.c (.i .i64 3)),none⟩])
 (.ret))
 (.skip)))
 (.seq (.reg [⟨some 108,.mv (.t 0),none⟩,
 ⟨some 109,.mv (.t 4),none⟩,
 ⟨some 110,.slcs (.t 108) none (some (.t 109)),none⟩,
 ⟨some 111,.mv (.t 10),none⟩,
 ⟨some 112,.build [.s [],.s []] [(0,(1,.t 110)),(1,(1,.t 111))],none⟩,
 ⟨none,.store 2 (.t 2) (.t 112),none⟩,
 ⟨some 3,.mv (.c (.i .i64 0)),none⟩])
 (.ret))))))))))))
theorem is_ref10_ParseDID:FnIs Tryz.prog 77 113 [.celln 2 2,.tmp 3] c_ref10_ParseDID:=⟨⟨_,_,Tryz.func77,rfl,rfl,by kernel_rfl,by kernel_rfl⟩⟩
def c_ref11_Canonical:SCode :=
 .seq (.reg [⟨some 1,.box 119 (.t 0),none⟩,
 ⟨some 2,.alloc 119 [.s [],.s []],none⟩,
 ⟨some 3,.mv (.c (.i .i64 0)),none⟩])
 (.seq (.reg [⟨some 7,.loadn 2 (.t 1),none⟩,
 ⟨some 8,.call 108 [.t 7],none⟩,
 ⟨some 6,.mv (.t 8),none⟩,
 ⟨some 9,.ext (.t 6) 0,none⟩,
 ⟨some 10,.ext (.t 6) 1,none⟩,
 ⟨some 4,.alloc 79 [.s [],.i .i64 0,.s [],.s [],.s [],.b false,.b false],none⟩,
 ⟨none,.store 7 (.t 4) (.t 9),none⟩,
 ⟨some 5,.mv (.t 10),none⟩])
 (.seq (.seq (.reg [⟨some 11,.mv (.t 5),none⟩,
 ⟨some 12,.bin .neq (.t 11) (.c (.i .i64 0)),none⟩])
 (.cond (.t 12)
 (.seq (.reg [⟨some 13,.build [.s [],.s []] [],none⟩,
 ⟨some 14,.mv (.t 5),none⟩,
 ⟨none,.store 2 (.t 2) (.t 13),none⟩,
 ⟨some 3,.mv (.t 14),none⟩])
 (.ret))
 (.skip)))
 (.seq (.reg [⟨some 15,.loadn 7 (.t 4),none⟩,
 ⟨some 16,.call 109 [.t 15],none⟩,
 ⟨some 17,.ext (.t 16) 0,none⟩,
 ⟨some 18,.ext (.t 16) 1,none⟩,
 ⟨none,.store 2 (.t 2) (.t 17),none⟩,
 ⟨some 3,.mv (.t 18),none⟩])
 (.ret))))
theorem is_ref11_Canonical:FnIs Tryz.prog 78 19 [.celln 2 2,.tmp 3] c_ref11_Canonical:=⟨⟨_,_,Tryz.func78,rfl,rfl,by kernel_rfl,by kernel_rfl⟩⟩
def c_ref11_Authority:SCode :=
 .seq (.reg [⟨some 1,.box 119 (.t 0),none⟩,
 ⟨some 2,.alloc 124 [.s [],.i .i64 0],none⟩,
 ⟨some 3,.mv (.c (.i .i64 0)),none⟩])
 (.seq (.reg [⟨some 8,.loadn 2 (.t 1),none⟩,
 ⟨some 9,.call 110 [.t 8],none⟩,
 ⟨some 7,.mv (.t 9),none⟩,
 ⟨some 10,.ext (.t 7) 0,none⟩,
 ⟨some 11,.ext (.t 7) 1,none⟩,
 ⟨some 12,.ext (.t 7) 2,none⟩,
 ⟨some 5,.alloc 124 [.s [],.i .i64 0],none⟩,
 ⟨some 4,.mv (.t 10),none⟩,
 ⟨none,.store 2 (.t 5) (.t 11),none⟩,
 ⟨some 6,.mv (.t 12),none⟩])
 (.seq (.reg [⟨some 13,.loadn 2 (.t 5),none⟩,
 ⟨some 14,.mv (.t 6),none⟩,
 ⟨none,.store 2 (.t 2) (.t 13),none⟩,
 ⟨some 3,.mv (.t 14),none⟩])
 (.ret)))
theorem is_ref11_Authority:FnIs Tryz.prog 79 15 [.celln 2 2,.tmp 3] c_ref11_Authority:=⟨⟨_,_,Tryz.func79,rfl,rfl,by kernel_rfl,by kernel_rfl⟩⟩
def c_ref10_FormatDID:SCode :=
 .seq (.reg [⟨some 1,.box 119 (.t 0),none⟩,
 ⟨some 2,.mv (.c (.s [])),none⟩])
 (.seq (.reg [⟨some 3,.fad 0 (.t 1),none⟩,
 ⟨some 4,.load1 (.t 3),none⟩,
 ⟨some 5,.bin .add (.c (.s [100,105,100,58])) (.t 4),none⟩,
 ⟨some 6,.bin .add (.t 5) (.c (.s [58])),none⟩,
 ⟨some 7,.fad 1 (.t 1),none⟩,
 ⟨some 8,.load1 (.t 7),none⟩,
 ⟨some 9,.bin .add (.t 6) (.t 8),none⟩,
 ⟨some 2,.mv (.t 9),none⟩])
 (.ret))
theorem is_ref10_FormatDID:FnIs Tryz.prog 80 10 [.tmp 2] c_ref10_FormatDID:=⟨⟨_,_,Tryz.func80,rfl,rfl,by kernel_rfl,by kernel_rfl⟩⟩
def c_cmp_isNaN__string:SCode :=
 .seq (.reg [⟨some 2,.mv (.c (.b false)),none⟩])
 (.seq (.reg [⟨some 3,.mv (.t 0),none⟩,
 ⟨some 4,.mv (.t 0),none⟩,
 ⟨some 5,.bin .neq (.t 3) (.t 4),none⟩,
 ⟨some 2,.mv (.t 5),none⟩])
 (.ret))
theorem is_cmp_isNaN__string:FnIs Tryz.prog 81 6 [.tmp 2] c_cmp_isNaN__string:=⟨⟨_,_,Tryz.func81,rfl,rfl,by kernel_rfl,by kernel_rfl⟩⟩
def c_container_heap_down:SCode :=
 .seq (.reg [⟨some 6,.mv (.c (.b false)),none⟩])
 (.seq (.reg [⟨some 11,.mv (.t 1),none⟩,
 ⟨some 7,.mv (.t 11),none⟩])
 (.seq (.blk 0
 (.loop
 (.blk 1
 (.seq (.reg [⟨some 12,.mv (.t 7),none⟩,
 ⟨some 13,.bin .mul (.c (.i .i64 2)) (.t 12),none⟩,
 ⟨some 14,.bin .add (.t 13) (.c (.i .i64 1)),none⟩,
 ⟨some 8,.mv (.t 14),none⟩])
 (.seq (.seq (.reg [⟨some 15,.mv (.t 8),none⟩,
 ⟨some 16,.mv (.t 2),none⟩,
 ⟨some 17,.bin .geq (.t 15) (.t 16),none⟩,
 ⟨some 18,.mv (.t 17),none⟩,
 ⟨some 19,.mv (.t 8),some (18,false)⟩,
 ⟨some 20,.bin .lss (.t 19) (.c (.i .i64 0)),some (18,false)⟩,
 ⟨some 21,.pick (.t 18) (.c (.b true)) (.t 20),none⟩])
 (.cond (.t 21)
 (.exit 0)
 (.skip)))
 (.seq (.reg [⟨some 22,.mv (.t 8),none⟩,
 ⟨some 9,.mv (.t 22),none⟩])
 (.seq (.seq (.reg [⟨some 23,.mv (.t 8),none⟩,
 ⟨some 24,.bin .add (.t 23) (.c (.i .i64 1)),none⟩,
 ⟨some 10,.mv (.t 24),none⟩])
 (.seq (.reg [⟨some 25,.mv (.t 10),none⟩,
 ⟨some 26,.mv (.t 2),none⟩,
 ⟨some 27,.bin .lss (.t 25) (.t 26),none⟩,
 ⟨some 28,.mv (.t 27),none⟩,
 ⟨some 29,.mv (.t 0),some (28,true)⟩,
 ⟨some 30,.mv (.t 10),some (28,true)⟩,
 ⟨some 31,.mv (.t 8),some (28,true)⟩,
 ⟨some 32,.inv [(98,260)] (.t 29) [.t 30,.t 31],some (28,true)⟩,
 ⟨some 33,.pick (.t 28) (.t 32) (.c (.b false)),none⟩])
 (.cond (.t 33)
 (.reg [⟨some 34,.mv (.t 10),none⟩,
 ⟨some 9,.mv (.t 34),none⟩])
 (.skip))))
 (.seq (.seq (.reg [⟨some 35,.mv (.t 0),none⟩,
 ⟨some 36,.mv (.t 9),none⟩,
 ⟨some 37,.mv (.t 7),none⟩,
 ⟨some 38,.inv [(98,260)] (.t 35) [.t 36,.t 37],none⟩,
 ⟨some 39,.not (.t 38),none⟩])
 (.cond (.t 39)
 (.exit 0)
 (.skip)))
 (.seq (.reg [⟨some 40,.mv (.t 0),none⟩,
 ⟨some 41,.mv (.t 7),none⟩,
 ⟨some 42,.mv (.t 9),none⟩,
 ⟨some 43,.inv [(98,262)] (.t 40) [.t 41,.t 42],none⟩])
 (.reg [⟨some 44,.mv (.t 9),none⟩,
 ⟨some 7,.mv (.t 44),none⟩]))))))))))
 (.seq (.reg [⟨some 45,.mv (.t 7),none⟩,
 ⟨some 46,.mv (.t 1),none⟩,
 ⟨some 47,.bin .gtr (.t 45) (.t 46),none⟩,
 ⟨some 6,.mv (.t 47),none⟩])
 (.ret))))
theorem is_container_heap_down:FnIs Tryz.prog 82 48 [.tmp 6] c_container_heap_down:=⟨⟨_,_,Tryz.func82,rfl,rfl,by kernel_rfl,by kernel_rfl⟩⟩
def c_slices_rotateLeft__api_Entry:SCode :=
 .seq (.reg [⟨some 4,.mv (.t 0),none⟩,
 ⟨some 5,.mv (.t 1),none⟩,
 ⟨some 6,.trn 14 (.t 4) (.t 5),none⟩,
 ⟨some 7,.call 111 [.t 6],none⟩])
 (.seq (.reg [⟨some 8,.mv (.t 0),none⟩,
 ⟨some 9,.mv (.t 1),none⟩,
 ⟨some 10,.pu (.rsl 14) [.t 8,.t 9],none⟩,
 ⟨some 11,.call 111 [.t 10],none⟩])
 (.reg [⟨some 12,.mv (.t 0),none⟩,
 ⟨some 13,.call 111 [.t 12],none⟩]))
theorem is_slices_rotateLeft__api_Entry:FnIs Tryz.prog 83 14 [] c_slices_rotateLeft__api_Entry:=⟨⟨_,_,Tryz.func83,rfl,rfl,by kernel_rfl,by kernel_rfl⟩⟩
def c_ident_text_acct:SCode :=
 .seq (.reg [⟨some 2,.alloc 36 [.i .i64 0,.s [],.s [],.i .i64 0],none⟩,
 ⟨some 3,.mv (.c (.i .i64 0)),none⟩])
 (.seq (.reg [⟨some 7,.mv (.t 0),none⟩,
 ⟨some 8,.call 112 [.t 7],none⟩,
 ⟨some 6,.mv (.t 8),none⟩,
 ⟨some 9,.ext (.t 6) 0,none⟩,
 ⟨some 10,.ext (.t 6) 1,none⟩,
 ⟨some 4,.alloc 86 [.s [],.s []],none⟩,
 ⟨none,.store 2 (.t 4) (.t 9),none⟩,
 ⟨some 5,.mv (.t 10),none⟩])
 (.seq (.seq (.reg [⟨some 11,.mv (.t 5),none⟩,
 ⟨some 12,.bin .neq (.t 11) (.c (.i .i64 0)),none⟩])
 (.cond (.t 12)
 (.seq (.reg [⟨some 13,.build [.i .i64 0,.s [],.s [],.i .i64 0] [],none⟩,
 ⟨some 14,.mv (.t 5),none⟩,
 ⟨none,.store 4 (.t 2) (.t 13),none⟩,
 ⟨some 3,.mv (.t 14),none⟩])
 (.ret))
 (.skip)))
 (.seq (.drw [⟨some 15,.loadn 2 (.t 4),none⟩,
 ⟨some 16,.call 113 [.t 15],none⟩,
 ⟨some 17,.fad 1 (.t 4),none⟩,
 ⟨some 18,.load1 (.t 17),none⟩,
 ⟨some 19,.build [.i .i64 0,.s [],.s [],.i .i64 0] [(0,(1,.c (.i .i64 1))),(1,(1,.t 16)),(2,(1,.t 18))],none⟩,
 ⟨none,.store 4 (.t 2) (.t 19),none⟩,
 ⟨some 3,.mv (.c (.i .i64 0)),none⟩] 5 [])
 (.ret))))
theorem is_ident_text_acct:FnIs Tryz.prog 84 20 [.celln 2 4,.tmp 3] c_ident_text_acct:=⟨⟨_,_,Tryz.func84,rfl,rfl,by kernel_rfl,by kernel_rfl⟩⟩
def c_ident_text_mail:SCode :=
 .seq (.reg [⟨some 2,.alloc 36 [.i .i64 0,.s [],.s [],.i .i64 0],none⟩,
 ⟨some 3,.mv (.c (.i .i64 0)),none⟩])
 (.seq (.reg [⟨some 7,.mv (.t 0),none⟩,
 ⟨some 8,.call 114 [.t 7],none⟩,
 ⟨some 6,.mv (.t 8),none⟩,
 ⟨some 9,.ext (.t 6) 0,none⟩,
 ⟨some 10,.ext (.t 6) 1,none⟩,
 ⟨some 4,.alloc 91 [.s [],.s []],none⟩,
 ⟨none,.store 2 (.t 4) (.t 9),none⟩,
 ⟨some 5,.mv (.t 10),none⟩])
 (.seq (.seq (.reg [⟨some 11,.mv (.t 5),none⟩,
 ⟨some 12,.bin .neq (.t 11) (.c (.i .i64 0)),none⟩])
 (.cond (.t 12)
 (.seq (.reg [⟨some 13,.build [.i .i64 0,.s [],.s [],.i .i64 0] [],none⟩,
 ⟨some 14,.mv (.t 5),none⟩,
 ⟨none,.store 4 (.t 2) (.t 13),none⟩,
 ⟨some 3,.mv (.t 14),none⟩])
 (.ret))
 (.skip)))
 (.seq (.drw [⟨some 15,.loadn 2 (.t 4),none⟩,
 ⟨some 16,.call 115 [.t 15],none⟩,
 ⟨some 17,.fad 1 (.t 4),none⟩,
 ⟨some 18,.load1 (.t 17),none⟩,
 ⟨some 19,.build [.i .i64 0,.s [],.s [],.i .i64 0] [(0,(1,.c (.i .i64 2))),(1,(1,.t 16)),(2,(1,.t 18))],none⟩,
 ⟨none,.store 4 (.t 2) (.t 19),none⟩,
 ⟨some 3,.mv (.c (.i .i64 0)),none⟩] 5 [])
 (.ret))))
theorem is_ident_text_mail:FnIs Tryz.prog 85 20 [.celln 2 4,.tmp 3] c_ident_text_mail:=⟨⟨_,_,Tryz.func85,rfl,rfl,by kernel_rfl,by kernel_rfl⟩⟩
def c_ident_text_web:SCode :=
 .seq (.reg [⟨some 2,.alloc 36 [.i .i64 0,.s [],.s [],.i .i64 0],none⟩,
 ⟨some 3,.mv (.c (.i .i64 0)),none⟩])
 (.seq (.reg [⟨some 7,.mv (.t 0),none⟩,
 ⟨some 8,.call 116 [.t 7],none⟩,
 ⟨some 6,.mv (.t 8),none⟩,
 ⟨some 9,.ext (.t 6) 0,none⟩,
 ⟨some 10,.ext (.t 6) 1,none⟩,
 ⟨some 4,.alloc 79 [.s [],.i .i64 0,.s [],.s [],.s [],.b false,.b false],none⟩,
 ⟨none,.store 7 (.t 4) (.t 9),none⟩,
 ⟨some 5,.mv (.t 10),none⟩])
 (.seq (.seq (.reg [⟨some 11,.mv (.t 5),none⟩,
 ⟨some 12,.bin .neq (.t 11) (.c (.i .i64 0)),none⟩])
 (.cond (.t 12)
 (.seq (.reg [⟨some 13,.build [.i .i64 0,.s [],.s [],.i .i64 0] [],none⟩,
 ⟨some 14,.mv (.t 5),none⟩,
 ⟨none,.store 4 (.t 2) (.t 13),none⟩,
 ⟨some 3,.mv (.t 14),none⟩])
 (.ret))
 (.skip)))
 (.seq (.drw [⟨some 15,.loadn 7 (.t 4),none⟩,
 ⟨some 16,.call 117 [.t 15],none⟩,
 ⟨some 17,.fad 0 (.t 4),none⟩,
 ⟨some 18,.load1 (.t 17),none⟩,
 ⟨some 19,.fad 1 (.t 4),none⟩,
 ⟨some 20,.load1 (.t 19),none⟩,
 ⟨some 21,.build [.i .i64 0,.s [],.s [],.i .i64 0] [(0,(1,.c (.i .i64 3))),(1,(1,.t 16)),(2,(1,.t 18)),(3,(1,.t 20))],none⟩,
 ⟨none,.store 4 (.t 2) (.t 21),none⟩,
 ⟨some 3,.mv (.c (.i .i64 0)),none⟩] 7 [])
 (.ret))))
theorem is_ident_text_web:FnIs Tryz.prog 86 22 [.celln 2 4,.tmp 3] c_ident_text_web:=⟨⟨_,_,Tryz.func86,rfl,rfl,by kernel_rfl,by kernel_rfl⟩⟩
def c_ident_text_did:SCode :=
 .seq (.reg [⟨some 2,.alloc 36 [.i .i64 0,.s [],.s [],.i .i64 0],none⟩,
 ⟨some 3,.mv (.c (.i .i64 0)),none⟩])
 (.seq (.reg [⟨some 8,.mv (.t 0),none⟩,
 ⟨some 9,.call 118 [.t 8],none⟩,
 ⟨some 7,.mv (.t 9),none⟩,
 ⟨some 10,.ext (.t 7) 0,none⟩,
 ⟨some 11,.ext (.t 7) 1,none⟩,
 ⟨some 4,.alloc 119 [.s [],.s []],none⟩,
 ⟨none,.store 2 (.t 4) (.t 10),none⟩,
 ⟨some 5,.mv (.t 11),none⟩])
 (.seq (.seq (.reg [⟨some 12,.mv (.t 5),none⟩,
 ⟨some 13,.bin .neq (.t 12) (.c (.i .i64 0)),none⟩])
 (.cond (.t 13)
 (.seq (.reg [⟨some 14,.build [.i .i64 0,.s [],.s [],.i .i64 0] [],none⟩,
 ⟨some 15,.mv (.t 5),none⟩,
 ⟨none,.store 4 (.t 2) (.t 14),none⟩,
 ⟨some 3,.mv (.t 15),none⟩])
 (.ret))
 (.skip)))
 (.seq (.reg [⟨some 17,.loadn 2 (.t 4),none⟩,
 ⟨some 18,.call 119 [.t 17],none⟩,
 ⟨some 16,.mv (.t 18),none⟩,
 ⟨some 19,.ext (.t 16) 0,none⟩,
 ⟨some 20,.ext (.t 16) 1,none⟩,
 ⟨none,.store 2 (.t 4) (.t 19),none⟩,
 ⟨some 5,.mv (.t 20),none⟩])
 (.seq (.seq (.reg [⟨some 21,.mv (.t 5),none⟩,
 ⟨some 22,.bin .neq (.t 21) (.c (.i .i64 0)),none⟩])
 (.cond (.t 22)
 (.seq (.reg [⟨some 23,.build [.i .i64 0,.s [],.s [],.i .i64 0] [],none⟩,
 ⟨some 24,.mv (.t 5),none⟩,
 ⟨none,.store 4 (.t 2) (.t 23),none⟩,
 ⟨some 3,.mv (.t 24),none⟩])
 (.ret))
 (.skip)))
 (.seq (.reg [⟨some 26,.loadn 2 (.t 4),none⟩,
 ⟨some 27,.call 120 [.t 26],none⟩,
 ⟨some 25,.mv (.t 27),none⟩,
 ⟨some 28,.ext (.t 25) 0,none⟩,
 ⟨some 29,.ext (.t 25) 1,none⟩,
 ⟨some 6,.alloc 124 [.s [],.i .i64 0],none⟩,
 ⟨none,.store 2 (.t 6) (.t 28),none⟩,
 ⟨some 5,.mv (.t 29),none⟩])
 (.seq (.seq (.reg [⟨some 30,.mv (.t 5),none⟩,
 ⟨some 31,.bin .neq (.t 30) (.c (.i .i64 0)),none⟩])
 (.cond (.t 31)
 (.seq (.reg [⟨some 32,.build [.i .i64 0,.s [],.s [],.i .i64 0] [],none⟩,
 ⟨some 33,.mv (.t 5),none⟩,
 ⟨none,.store 4 (.t 2) (.t 32),none⟩,
 ⟨some 3,.mv (.t 33),none⟩])
 (.ret))
 (.skip)))
 (.seq (.drw [⟨some 34,.loadn 2 (.t 4),none⟩,
 ⟨some 35,.call 121 [.t 34],none⟩,
 ⟨some 36,.fad 0 (.t 6),none⟩,
 ⟨some 37,.load1 (.t 36),none⟩,
 ⟨some 38,.fad 1 (.t 6),none⟩,
 ⟨some 39,.load1 (.t 38),none⟩,
 ⟨some 40,.build [.i .i64 0,.s [],.s [],.i .i64 0] [(0,(1,.c (.i .i64 4))),(1,(1,.t 35)),(2,(1,.t 37)),(3,(1,.t 39))],none⟩,
 ⟨none,.store 4 (.t 2) (.t 40),none⟩,
 ⟨some 3,.mv (.c (.i .i64 0)),none⟩] 7 [])
 (.ret))))))))
theorem is_ident_text_did:FnIs Tryz.prog 87 41 [.celln 2 4,.tmp 3] c_ident_text_did:=⟨⟨_,_,Tryz.func87,rfl,rfl,by kernel_rfl,by kernel_rfl⟩⟩
def c_ascii_Lower:SCode :=
 .seq (.reg [⟨some 2,.mv (.c (.s [])),none⟩])
 (.seq (.reg [⟨some 5,.mv (.t 0),none⟩,
 ⟨some 6,.lens (.t 5),none⟩,
 ⟨some 7,.mkz 5 1 .u8 0 (.t 6),none⟩,
 ⟨some 3,.mv (.t 7),none⟩])
 (.seq (.seq (.reg [⟨some 8,.mv (.t 0),none⟩,
 ⟨some 9,.lens (.t 8),none⟩,
 ⟨some 10,.mv (.c (.i .i64 0)),none⟩])
 (.blk 0
 (.loop
 (.seq (.reg [⟨some 11,.bin .lss (.t 10) (.t 9),none⟩])
 (.seq (.cond (.t 11)
 (.skip)
 (.exit 0))
 (.seq (.blk 1
 (.seq (.reg [⟨some 12,.mv (.t 10),none⟩,
 ⟨some 4,.mv (.t 12),none⟩])
 (.reg [⟨some 13,.mv (.t 3),none⟩,
 ⟨some 14,.mv (.t 4),none⟩,
 ⟨some 15,.mv (.t 0),none⟩,
 ⟨some 16,.mv (.t 4),none⟩,
 ⟨some 17,.idx (.t 15) (.t 16),none⟩,
 ⟨some 18,.call 123 [.t 17],none⟩,
 ⟨some 19,.iad 1 (.t 13) (.t 14),none⟩,
 ⟨none,.store 1 (.t 19) (.t 18),none⟩])))
 (.reg [⟨some 20,.bin .add (.t 10) (.c (.i .i64 1)),none⟩,
 ⟨some 10,.mv (.t 20),none⟩])))))))
 (.seq (.reg [⟨some 21,.mv (.t 3),none⟩,
 ⟨some 22,.cvbs (.t 21),none⟩,
 ⟨some 2,.mv (.t 22),none⟩])
 (.ret))))
theorem is_ascii_Lower:FnIs Tryz.prog 89 23 [.tmp 2] c_ascii_Lower:=⟨⟨_,_,Tryz.func89,rfl,rfl,by kernel_rfl,by kernel_rfl⟩⟩
def c_ref03_escape:SCode :=
 .seq (.reg [⟨some 4,.mv (.c (.i .u8 0)),none⟩,
 ⟨some 5,.mv (.c (.b false)),none⟩])
 (.seq (.seq (.reg [⟨some 6,.mv (.t 1),none⟩,
 ⟨some 7,.bin .add (.t 6) (.c (.i .i64 2)),none⟩,
 ⟨some 8,.mv (.t 0),none⟩,
 ⟨some 9,.lens (.t 8),none⟩,
 ⟨some 10,.bin .geq (.t 7) (.t 9),none⟩,
 ⟨some 11,.mv (.t 10),none⟩,
 ⟨some 12,.mv (.t 0),some (11,false)⟩,
 ⟨some 13,.mv (.t 1),some (11,false)⟩,
 ⟨some 14,.idx (.t 12) (.t 13),some (11,false)⟩,
 ⟨some 15,.bin .neq (.t 14) (.c (.i .u8 37)),some (11,false)⟩,
 ⟨some 16,.pick (.t 11) (.c (.b true)) (.t 15),none⟩,
 ⟨some 17,.mv (.t 16),none⟩,
 ⟨some 18,.mv (.t 0),some (17,false)⟩,
 ⟨some 19,.mv (.t 1),some (17,false)⟩,
 ⟨some 20,.bin .add (.t 19) (.c (.i .i64 1)),some (17,false)⟩,
 ⟨some 21,.idx (.t 18) (.t 20),some (17,false)⟩,
 ⟨some 22,.call 124 [.t 21],some (17,false)⟩,
 ⟨some 23,.not (.t 22),some (17,false)⟩,
 ⟨some 24,.pick (.t 17) (.c (.b true)) (.t 23),none⟩,
 ⟨some 25,.mv (.t 24),none⟩,
 ⟨some 26,.mv (.t 0),some (25,false)⟩,
 ⟨some 27,.mv (.t 1),some (25,false)⟩,
 ⟨some 28,.bin .add (.t 27) (.c (.i .i64 2)),some (25,false)⟩,
 ⟨some 29,.idx (.t 26) (.t 28),some (25,false)⟩,
 ⟨some 30,.call 124 [.t 29],some (25,false)⟩,
 ⟨some 31,.not (.t 30),some (25,false)⟩,
 ⟨some 32,.pick (.t 25) (.c (.b true)) (.t 31),none⟩])
 (.cond (.t 32)
 (.seq (.reg [⟨some 4,.mv (.c (.i .u8 0)),none⟩,
 ⟨some 5,.mv (.c (.b false)),none⟩])
 (.ret))
 (.skip)))
 (.seq (.drw [⟨some 33,.mv (.t 0),none⟩,
 ⟨some 34,.mv (.t 1),none⟩,
 ⟨some 35,.bin .add (.t 34) (.c (.i .i64 1)),none⟩,
 ⟨some 36,.idx (.t 33) (.t 35),none⟩,
 ⟨some 37,.call 125 [.t 36],none⟩,
 ⟨some 38,.bin .mul (.c (.i .u8 16)) (.t 37),none⟩,
 ⟨some 39,.mv (.t 0),none⟩,
 ⟨some 40,.mv (.t 1),none⟩,
 ⟨some 41,.bin .add (.t 40) (.c (.i .i64 2)),none⟩,
 ⟨some 42,.idx (.t 39) (.t 41),none⟩,
 ⟨some 43,.call 125 [.t 42],none⟩,
 ⟨some 44,.bin .add (.t 38) (.t 43),none⟩,
 ⟨some 4,.mv (.t 44),none⟩,
 ⟨some 5,.mv (.c (.b true)),none⟩] 14 [])
 (.ret)))
theorem is_ref03_escape:FnIs Tryz.prog 90 45 [.tmp 4,.tmp 5] c_ref03_escape:=⟨⟨_,_,Tryz.func90,rfl,rfl,by kernel_rfl,by kernel_rfl⟩⟩
def c_ref03_Escape:SCode :=
 .seq (.reg [⟨some 2,.mv (.c (.s [])),none⟩])
 (.seq (.drw [⟨some 3,.mv (.t 0),none⟩,
 ⟨some 4,.bin .quo (.t 3) (.c (.i .u8 16)),none⟩,
 ⟨some 5,.idx (.c (.s [48,49,50,51,52,53,54,55,56,57,65,66,67,68,69,70])) (.t 4),none⟩,
 ⟨some 6,.mv (.t 0),none⟩,
 ⟨some 7,.bin .rem (.t 6) (.c (.i .u8 16)),none⟩,
 ⟨some 8,.idx (.c (.s [48,49,50,51,52,53,54,55,56,57,65,66,67,68,69,70])) (.t 7),none⟩,
 ⟨some 9,.bslice 3 [.i .u8 0,.i .u8 0,.i .u8 0] [(0,(1,.c (.i .u8 37))),(1,(1,.t 5)),(2,(1,.t 8))],none⟩,
 ⟨some 10,.cvbs (.t 9),none⟩,
 ⟨some 2,.mv (.t 10),none⟩] 9 [])
 (.ret))
theorem is_ref03_Escape:FnIs Tryz.prog 91 11 [.tmp 2] c_ref03_Escape:=⟨⟨_,_,Tryz.func91,rfl,rfl,by kernel_rfl,by kernel_rfl⟩⟩
def c_ref05_name:SCode :=
 .seq (.reg [⟨some 2,.mv (.c (.b false)),none⟩])
 (.seq (.reg [⟨some 6,.mv (.t 0),none⟩,
 ⟨some 7,.call 95 [.t 6,.c (.i .u8 46)],none⟩,
 ⟨some 3,.mv (.t 7),none⟩])
 (.seq (.seq (.reg [⟨some 8,.mv (.t 3),none⟩,
 ⟨some 9,.lenr (.t 8),none⟩,
 ⟨some 10,.mv (.c (.i .i64 0)),none⟩])
 (.blk 0
 (.loop
 (.seq (.reg [⟨some 11,.bin .lss (.t 10) (.t 9),none⟩])
 (.seq (.cond (.t 11)
 (.skip)
 (.exit 0))
 (.seq (.blk 1
 (.seq (.reg [⟨some 12,.iad 1 (.t 8) (.t 10),none⟩,
 ⟨some 13,.load1 (.t 12),none⟩,
 ⟨some 5,.mv (.t 13),none⟩])
 (.seq (.reg [⟨some 14,.mv (.t 5),none⟩,
 ⟨some 15,.call 126 [.t 14],none⟩,
 ⟨some 16,.not (.t 15),none⟩])
 (.cond (.t 16)
 (.seq (.reg [⟨some 2,.mv (.c (.b false)),none⟩])
 (.ret))
 (.skip)))))
 (.reg [⟨some 17,.bin .add (.t 10) (.c (.i .i64 1)),none⟩,
 ⟨some 10,.mv (.t 17),none⟩])))))))
 (.seq (.reg [⟨some 18,.mv (.t 3),none⟩,
 ⟨some 19,.mv (.t 3),none⟩,
 ⟨some 20,.lenr (.t 19),none⟩,
 ⟨some 21,.bin .sub (.t 20) (.c (.i .i64 1)),none⟩,
 ⟨some 22,.iad 1 (.t 18) (.t 21),none⟩,
 ⟨some 23,.load1 (.t 22),none⟩,
 ⟨some 24,.call 127 [.t 23],none⟩,
 ⟨some 25,.not (.t 24),none⟩,
 ⟨some 2,.mv (.t 25),none⟩])
 (.ret))))
theorem is_ref05_name:FnIs Tryz.prog 92 26 [.tmp 2] c_ref05_name:=⟨⟨_,_,Tryz.func92,rfl,rfl,by kernel_rfl,by kernel_rfl⟩⟩
def c_ref01_IsAlpha:SCode :=
 .seq (.reg [⟨some 2,.mv (.c (.b false)),none⟩])
 (.seq (.reg [⟨some 3,.mv (.t 0),none⟩,
 ⟨some 4,.bin .geq (.t 3) (.c (.i .u8 65)),none⟩,
 ⟨some 5,.mv (.t 4),none⟩,
 ⟨some 6,.mv (.t 0),some (5,true)⟩,
 ⟨some 7,.bin .leq (.t 6) (.c (.i .u8 90)),some (5,true)⟩,
 ⟨some 8,.pick (.t 5) (.t 7) (.c (.b false)),none⟩,
 ⟨some 9,.mv (.t 8),none⟩,
 ⟨some 10,.mv (.t 0),some (9,false)⟩,
 ⟨some 11,.bin .geq (.t 10) (.c (.i .u8 97)),some (9,false)⟩,
 ⟨some 12,.mv (.t 11),some (9,false)⟩,
 ⟨some 13,.mv (.t 0),some (12,true)⟩,
 ⟨some 14,.bin .leq (.t 13) (.c (.i .u8 122)),some (12,true)⟩,
 ⟨some 15,.pick (.t 12) (.t 14) (.c (.b false)),some (9,false)⟩,
 ⟨some 16,.pick (.t 9) (.c (.b true)) (.t 15),none⟩,
 ⟨some 2,.mv (.t 16),none⟩])
 (.ret))
theorem is_ref01_IsAlpha:FnIs Tryz.prog 93 17 [.tmp 2] c_ref01_IsAlpha:=⟨⟨_,_,Tryz.func93,rfl,rfl,by kernel_rfl,by kernel_rfl⟩⟩
def c_ref01_IsDigit:SCode :=
 .seq (.reg [⟨some 2,.mv (.c (.b false)),none⟩])
 (.seq (.reg [⟨some 3,.mv (.t 0),none⟩,
 ⟨some 4,.bin .geq (.t 3) (.c (.i .u8 48)),none⟩,
 ⟨some 5,.mv (.t 4),none⟩,
 ⟨some 6,.mv (.t 0),some (5,true)⟩,
 ⟨some 7,.bin .leq (.t 6) (.c (.i .u8 57)),some (5,true)⟩,
 ⟨some 8,.pick (.t 5) (.t 7) (.c (.b false)),none⟩,
 ⟨some 2,.mv (.t 8),none⟩])
 (.ret))
theorem is_ref01_IsDigit:FnIs Tryz.prog 94 9 [.tmp 2] c_ref01_IsDigit:=⟨⟨_,_,Tryz.func94,rfl,rfl,by kernel_rfl,by kernel_rfl⟩⟩
def c_ref01_Split:SCode :=
 .seq (.reg [⟨some 4,.mv (.c .nil),none⟩])
 (.seq (.reg [⟨some 5,.mv (.c .nil),none⟩])
 (.seq (.reg [⟨some 6,.mv (.c (.i .i64 0)),none⟩])
 (.seq (.seq (.reg [⟨some 7,.mv (.c (.i .i64 0)),none⟩])
 (.blk 0
 (.loop
 (.seq (.seq (.reg [⟨some 8,.mv (.t 7),none⟩,
 ⟨some 9,.mv (.t 0),none⟩,
 ⟨some 10,.lens (.t 9),none⟩,
 ⟨some 11,.bin .lss (.t 8) (.t 10),none⟩])
 (.cond (.t 11)
 (.skip)
 (.exit 0)))
 (.seq (.blk 1
 (.seq (.reg [⟨some 14,.mv (.t 0),none⟩,
 ⟨some 15,.mv (.t 7),none⟩,
 ⟨some 16,.idx (.t 14) (.t 15),none⟩,
 ⟨some 17,.mv (.t 1),none⟩,
 ⟨some 18,.bin .eql (.t 16) (.t 17),none⟩])
 (.cond (.t 18)
 (.reg [⟨some 19,.mv (.t 5),none⟩,
 ⟨some 20,.mv (.t 0),none⟩,
 ⟨some 21,.mv (.t 6),none⟩,
 ⟨some 22,.mv (.t 7),none⟩,
 ⟨some 23,.slcs (.t 20) (some (.t 21)) (some (.t 22)),none⟩,
 ⟨some 24,.bslice 1 [.s []] [(0,(1,.t 23))],none⟩,
 ⟨some 25,.app 9 1 16 (.t 19) (.t 24),none⟩,
 ⟨some 26,.mv (.t 7),none⟩,
 ⟨some 27,.bin .add (.t 26) (.c (.i .i64 1)),none⟩,
 ⟨some 5,.mv (.t 25),none⟩,
 ⟨some 6,.mv (.t 27),none⟩])
 (.skip))))
 (.reg [⟨some 12,.mv (.t 7),none⟩,
 ⟨some 13,.bin .add (.t 12) (.c (.i .i64 1)),none⟩,
 ⟨some 7,.mv (.t 13),none⟩]))))))
 (.seq (.reg [⟨some 28,.mv (.t 5),none⟩,
 ⟨some 29,.mv (.t 0),none⟩,
 ⟨some 30,.mv (.t 6),none⟩,
 ⟨some 31,.slcs (.t 29) (some (.t 30)) none,none⟩,
 ⟨some 32,.bslice 1 [.s []] [(0,(1,.t 31))],none⟩,
 ⟨some 33,.app 9 1 16 (.t 28) (.t 32),none⟩,
 ⟨some 4,.mv (.t 33),none⟩])
 (.ret)))))
theorem is_ref01_Split:FnIs Tryz.prog 95 34 [.tmp 4] c_ref01_Split:=⟨⟨_,_,Tryz.func95,rfl,rfl,by kernel_rfl,by kernel_rfl⟩⟩
def c_ref09_atom:SCode :=
 .seq (.reg [⟨some 2,.mv (.c (.b false)),none⟩])
 (.seq (.reg [⟨some 3,.mv (.t 0),none⟩,
 ⟨some 4,.call 93 [.t 3],none⟩,
 ⟨some 5,.mv (.t 4),none⟩,
 ⟨some 6,.mv (.t 0),some (5,false)⟩,
 ⟨some 7,.call 94 [.t 6],some (5,false)⟩,
 ⟨some 8,.pick (.t 5) (.c (.b true)) (.t 7),none⟩,
 ⟨some 9,.mv (.t 8),none⟩,
 ⟨some 10,.mv (.t 0),some (9,false)⟩,
 ⟨some 11,.call 66 [.t 10,.c (.s [33,35,36,37,38,39,42,43,45,47,61,63,94,95,96,123,124,125,126])],some (9,false)⟩,
 ⟨some 12,.pick (.t 9) (.c (.b true)) (.t 11),none⟩,
 ⟨some 2,.mv (.t 12),none⟩])
 (.ret))
theorem is_ref09_atom:FnIs Tryz.prog 96 13 [.tmp 2] c_ref09_atom:=⟨⟨_,_,Tryz.func96,rfl,rfl,by kernel_rfl,by kernel_rfl⟩⟩
def c_ref04_Strict:SCode :=
 .seq (.reg [⟨some 4,.mv (.c (.i .u64 0)),none⟩,
 ⟨some 5,.mv (.c (.i .i64 0)),none⟩])
 (.seq (.reg [⟨some 9,.mv (.t 0),none⟩,
 ⟨some 10,.mv (.t 1),none⟩,
 ⟨some 11,.call 128 [.t 9,.c (.i .u64 10),.t 10],none⟩,
 ⟨some 8,.mv (.t 11),none⟩,
 ⟨some 12,.ext (.t 8) 0,none⟩,
 ⟨some 13,.ext (.t 8) 1,none⟩,
 ⟨some 6,.mv (.t 12),none⟩,
 ⟨some 7,.mv (.t 13),none⟩])
 (.seq (.seq (.reg [⟨some 14,.mv (.t 7),none⟩,
 ⟨some 15,.bin .eql (.t 14) (.c (.i .i64 0)),none⟩,
 ⟨some 16,.mv (.t 15),none⟩,
 ⟨some 17,.mv (.t 7),some (16,false)⟩,
 ⟨some 18,.bin .eql (.t 17) (.c (.i .i64 4)),some (16,false)⟩,
 ⟨some 19,.pick (.t 16) (.c (.b true)) (.t 18),none⟩,
 ⟨some 20,.mv (.t 19),none⟩,
 ⟨some 21,.mv (.t 0),some (20,true)⟩,
 ⟨some 22,.lens (.t 21),some (20,true)⟩,
 ⟨some 23,.bin .gtr (.t 22) (.c (.i .i64 1)),some (20,true)⟩,
 ⟨some 24,.pick (.t 20) (.t 23) (.c (.b false)),none⟩,
 ⟨some 25,.mv (.t 24),none⟩,
 ⟨some 26,.mv (.t 0),some (25,true)⟩,
 ⟨some 27,.idx (.t 26) (.c (.i .i64 0)),some (25,true)⟩,
 ⟨some 28,.bin .eql (.t 27) (.c (.i .u8 48)),some (25,true)⟩,
 ⟨some 29,.pick (.t 25) (.t 28) (.c (.b false)),none⟩])
 (.cond (.t 29)
 (.seq (.reg [⟨some 4,.mv (.c (.i .u64 0)),none⟩,
 ⟨some 5,.mv (.c (.i .i64 6)),none⟩])
 (.ret))
 (.skip)))
 (.seq (.reg [⟨some 30,.mv (.t 6),none⟩,
 ⟨some 31,.mv (.t 7),none⟩,
 ⟨some 4,.mv (.t 30),none⟩,
 ⟨some 5,.mv (.t 31),none⟩])
 (.ret))))
theorem is_ref04_Strict:FnIs Tryz.prog 97 32 [.tmp 4,.tmp 5] c_ref04_Strict:=⟨⟨_,_,Tryz.func97,rfl,rfl,by kernel_rfl,by kernel_rfl⟩⟩
def c_ref06_Split:SCode :=
 .seq (.reg [⟨some 2,.alloc 150 [.s [],.s [],.s [],.s [],.s [],.b false,.b false,.b false,.b false],none⟩,
 ⟨some 3,.mv (.c (.i .i64 0)),none⟩])
 (.seq (.seq (.reg [⟨some 9,.mv (.t 0),none⟩,
 ⟨some 10,.lens (.t 9),none⟩,
 ⟨some 11,.bin .gtr (.t 10) (.c (.i .i64 16384)),none⟩])
 (.cond (.t 11)
 (.seq (.reg [⟨some 12,.build [.s [],.s [],.s [],.s [],.s [],.b false,.b false,.b false,.b false] [],none⟩,
 ⟨none,.store 9 (.t 2) (.t 12),none⟩,
 ⟨some 3,.mv (.c (.i .i64 5)),none⟩])
 (.ret))
 (.skip)))
 (.seq (.reg [⟨some 4,.alloc 150 [.s [],.s [],.s [],.s [],.s [],.b false,.b false,.b false,.b false],none⟩])
 (.seq (.seq (.reg [⟨some 13,.mv (.t 0),none⟩,
 ⟨some 14,.call 47 [.t 13,.c (.s [35])],none⟩,
 ⟨some 5,.mv (.t 14),none⟩])
 (.seq (.reg [⟨some 15,.mv (.t 5),none⟩,
 ⟨some 16,.mv (.t 0),none⟩,
 ⟨some 17,.lens (.t 16),none⟩,
 ⟨some 18,.bin .lss (.t 15) (.t 17),none⟩])
 (.cond (.t 18)
 (.drw [⟨some 19,.mv (.t 0),none⟩,
 ⟨some 20,.mv (.t 5),none⟩,
 ⟨some 21,.bin .add (.t 20) (.c (.i .i64 1)),none⟩,
 ⟨some 22,.slcs (.t 19) (some (.t 21)) none,none⟩,
 ⟨some 23,.mv (.t 0),none⟩,
 ⟨some 24,.mv (.t 5),none⟩,
 ⟨some 25,.slcs (.t 23) none (some (.t 24)),none⟩,
 ⟨some 26,.fad 4 (.t 4),none⟩,
 ⟨none,.store 1 (.t 26) (.t 22),none⟩,
 ⟨some 27,.fad 8 (.t 4),none⟩,
 ⟨none,.store 1 (.t 27) (.c (.b true)),none⟩,
 ⟨some 0,.mv (.t 25),none⟩] 12 [])
 (.skip))))
 (.seq (.seq (.reg [⟨some 28,.mv (.t 0),none⟩,
 ⟨some 29,.call 47 [.t 28,.c (.s [63])],none⟩,
 ⟨some 6,.mv (.t 29),none⟩])
 (.seq (.reg [⟨some 30,.mv (.t 6),none⟩,
 ⟨some 31,.mv (.t 0),none⟩,
 ⟨some 32,.lens (.t 31),none⟩,
 ⟨some 33,.bin .lss (.t 30) (.t 32),none⟩])
 (.cond (.t 33)
 (.drw [⟨some 34,.mv (.t 0),none⟩,
 ⟨some 35,.mv (.t 6),none⟩,
 ⟨some 36,.bin .add (.t 35) (.c (.i .i64 1)),none⟩,
 ⟨some 37,.slcs (.t 34) (some (.t 36)) none,none⟩,
 ⟨some 38,.mv (.t 0),none⟩,
 ⟨some 39,.mv (.t 6),none⟩,
 ⟨some 40,.slcs (.t 38) none (some (.t 39)),none⟩,
 ⟨some 41,.fad 3 (.t 4),none⟩,
 ⟨none,.store 1 (.t 41) (.t 37),none⟩,
 ⟨some 42,.fad 7 (.t 4),none⟩,
 ⟨none,.store 1 (.t 42) (.c (.b true)),none⟩,
 ⟨some 0,.mv (.t 40),none⟩] 12 [])
 (.skip))))
 (.seq (.seq (.reg [⟨some 43,.mv (.t 0),none⟩,
 ⟨some 44,.call 47 [.t 43,.c (.s [58,47])],none⟩,
 ⟨some 7,.mv (.t 44),none⟩])
 (.seq (.reg [⟨some 45,.mv (.t 7),none⟩,
 ⟨some 46,.mv (.t 0),none⟩,
 ⟨some 47,.lens (.t 46),none⟩,
 ⟨some 48,.bin .lss (.t 45) (.t 47),none⟩,
 ⟨some 49,.mv (.t 48),none⟩,
 ⟨some 50,.mv (.t 0),some (49,true)⟩,
 ⟨some 51,.mv (.t 7),some (49,true)⟩,
 ⟨some 52,.idx (.t 50) (.t 51),some (49,true)⟩,
 ⟨some 53,.bin .eql (.t 52) (.c (.i .u8 58)),some (49,true)⟩,
 ⟨some 54,.pick (.t 49) (.t 53) (.c (.b false)),none⟩])
 (.cond (.t 54)
 (.seq (.seq (.reg [⟨some 55,.mv (.t 0),none⟩,
 ⟨some 56,.mv (.t 7),none⟩,
 ⟨some 57,.slcs (.t 55) none (some (.t 56)),none⟩,
 ⟨some 58,.call 129 [.t 57],none⟩,
 ⟨some 59,.not (.t 58),none⟩])
 (.cond (.t 59)
 (.seq (.reg [⟨some 60,.build [.s [],.s [],.s [],.s [],.s [],.b false,.b false,.b false,.b false] [],none⟩,
 ⟨none,.store 9 (.t 2) (.t 60),none⟩,
 ⟨some 3,.mv (.c (.i .i64 6)),none⟩])
 (.ret))
 (.skip)))
 (.drw [⟨some 61,.mv (.t 0),none⟩,
 ⟨some 62,.mv (.t 7),none⟩,
 ⟨some 63,.slcs (.t 61) none (some (.t 62)),none⟩,
 ⟨some 64,.mv (.t 0),none⟩,
 ⟨some 65,.mv (.t 7),none⟩,
 ⟨some 66,.bin .add (.t 65) (.c (.i .i64 1)),none⟩,
 ⟨some 67,.slcs (.t 64) (some (.t 66)) none,none⟩,
 ⟨some 68,.fad 0 (.t 4),none⟩,
 ⟨none,.store 1 (.t 68) (.t 63),none⟩,
 ⟨some 69,.fad 5 (.t 4),none⟩,
 ⟨none,.store 1 (.t 69) (.c (.b true)),none⟩,
 ⟨some 0,.mv (.t 67),none⟩] 12 []))
 (.skip))))
 (.seq (.seq (.reg [⟨some 70,.mv (.t 0),none⟩,
 ⟨some 71,.call 104 [.t 70,.c (.s [47,47])],none⟩])
 (.cond (.t 71)
 (.seq (.reg [⟨some 72,.mv (.t 0),none⟩,
 ⟨some 73,.slcs (.t 72) (some (.c (.i .i64 2))) none,none⟩,
 ⟨some 74,.call 47 [.t 73,.c (.s [47])],none⟩,
 ⟨some 75,.bin .add (.c (.i .i64 2)) (.t 74),none⟩,
 ⟨some 8,.mv (.t 75),none⟩])
 (.drw [⟨some 76,.mv (.t 0),none⟩,
 ⟨some 77,.mv (.t 8),none⟩,
 ⟨some 78,.slcs (.t 76) (some (.c (.i .i64 2))) (some (.t 77)),none⟩,
 ⟨some 79,.mv (.t 0),none⟩,
 ⟨some 80,.mv (.t 8),none⟩,
 ⟨some 81,.slcs (.t 79) (some (.t 80)) none,none⟩,
 ⟨some 82,.fad 1 (.t 4),none⟩,
 ⟨none,.store 1 (.t 82) (.t 78),none⟩,
 ⟨some 83,.fad 6 (.t 4),none⟩,
 ⟨none,.store 1 (.t 83) (.c (.b true)),none⟩,
 ⟨some 0,.mv (.t 81),none⟩] 11 []))
 (.skip)))
 (.seq (.reg [⟨some 84,.mv (.t 0),none⟩,
 ⟨some 85,.fad 2 (.t 4),none⟩,
 ⟨none,.store 1 (.t 85) (.t 84),none⟩])
 (.seq (.reg [⟨some 86,.loadn 9 (.t 4),none⟩,
 ⟨none,.store 9 (.t 2) (.t 86),none⟩,
 ⟨some 3,.mv (.c (.i .i64 0)),none⟩])
 (.ret)))))))))
theorem is_ref06_Split:FnIs Tryz.prog 98 87 [.celln 2 9,.tmp 3] c_ref06_Split:=⟨⟨_,_,Tryz.func98,rfl,rfl,by kernel_rfl,by kernel_rfl⟩⟩
def c_ref05_Parse:SCode :=
 .seq (.reg [⟨some 2,.alloc 124 [.s [],.i .i64 0],none⟩,
 ⟨some 3,.mv (.c (.i .i64 0)),none⟩])
 (.seq (.reg [⟨some 8,.mv (.t 0),none⟩,
 ⟨some 9,.call 47 [.t 8,.c (.s [58])],none⟩,
 ⟨some 4,.mv (.t 9),none⟩])
 (.seq (.reg [⟨some 11,.mv (.t 0),none⟩,
 ⟨some 12,.mv (.t 4),none⟩,
 ⟨some 13,.slcs (.t 11) none (some (.t 12)),none⟩,
 ⟨some 14,.call 69 [.t 13],none⟩,
 ⟨some 10,.mv (.t 14),none⟩,
 ⟨some 15,.ext (.t 10) 0,none⟩,
 ⟨some 16,.ext (.t 10) 1,none⟩,
 ⟨some 5,.mv (.t 15),none⟩,
 ⟨some 6,.mv (.t 16),none⟩])
 (.seq (.seq (.reg [⟨some 17,.mv (.t 6),none⟩,
 ⟨some 18,.bin .neq (.t 17) (.c (.i .i64 0)),none⟩])
 (.cond (.t 18)
 (.seq (.reg [⟨some 19,.build [.s [],.i .i64 0] [],none⟩,
 ⟨some 20,.mv (.t 6),none⟩,
 ⟨none,.store 2 (.t 2) (.t 19),none⟩,
 ⟨some 3,.mv (.t 20),none⟩])
 (.ret))
 (.skip)))
 (.seq (.seq (.reg [⟨some 21,.mv (.t 4),none⟩,
 ⟨some 22,.mv (.t 0),none⟩,
 ⟨some 23,.lens (.t 22),none⟩,
 ⟨some 24,.bin .eql (.t 21) (.t 23),none⟩])
 (.cond (.t 24)
 (.seq (.reg [⟨some 25,.mv (.t 5),none⟩,
 ⟨some 26,.build [.s [],.i .i64 0] [(0,(1,.t 25))],none⟩,
 ⟨none,.store 2 (.t 2) (.t 26),none⟩,
 ⟨some 3,.mv (.c (.i .i64 0)),none⟩])
 (.ret))
 (.skip)))
 (.seq (.reg [⟨some 28,.mv (.t 0),none⟩,
 ⟨some 29,.mv (.t 4),none⟩,
 ⟨some 30,.bin .add (.t 29) (.c (.i .i64 1)),none⟩,
 ⟨some 31,.slcs (.t 28) (some (.t 30)) none,none⟩,
 ⟨some 32,.call 130 [.t 31],none⟩,
 ⟨some 27,.mv (.t 32),none⟩,
 ⟨some 33,.ext (.t 27) 0,none⟩,
 ⟨some 34,.ext (.t 27) 1,none⟩,
 ⟨some 7,.mv (.t 33),none⟩,
 ⟨some 6,.mv (.t 34),none⟩])
 (.seq (.seq (.reg [⟨some 35,.mv (.t 6),none⟩,
 ⟨some 36,.bin .neq (.t 35) (.c (.i .i64 0)),none⟩])
 (.cond (.t 36)
 (.seq (.reg [⟨some 37,.build [.s [],.i .i64 0] [],none⟩,
 ⟨some 38,.mv (.t 6),none⟩,
 ⟨none,.store 2 (.t 2) (.t 37),none⟩,
 ⟨some 3,.mv (.t 38),none⟩])
 (.ret))
 (.skip)))
 (.seq (.seq (.reg [⟨some 39,.mv (.t 7),none⟩,
 ⟨some 40,.bin .eql (.t 39) (.c (.i .i64 443)),none⟩])
 (.cond (.t 40)
 (.reg [⟨some 7,.mv (.c (.i .i64 0)),none⟩])
 (.skip)))
 (.seq (.reg [⟨some 41,.mv (.t 5),none⟩,
 ⟨some 42,.mv (.t 7),none⟩,
 ⟨some 43,.build [.s [],.i .i64 0] [(0,(1,.t 41)),(1,(1,.t 42))],none⟩,
 ⟨none,.store 2 (.t 2) (.t 43),none⟩,
 ⟨some 3,.mv (.c (.i .i64 0)),none⟩])
 (.ret)))))))))
theorem is_ref05_Parse:FnIs Tryz.prog 99 44 [.celln 2 2,.tmp 3] c_ref05_Parse:=⟨⟨_,_,Tryz.func99,rfl,rfl,by kernel_rfl,by kernel_rfl⟩⟩
def c_ref06_RemoveDots:SCode :=
 .seq (.reg [⟨some 2,.mv (.c (.s [])),none⟩])
 (.seq (.reg [⟨some 6,.mv (.t 0),none⟩,
 ⟨some 3,.mv (.t 6),none⟩,
 ⟨some 4,.mv (.c (.s [])),none⟩])
 (.seq (.blk 0
 (.loop
 (.seq (.seq (.reg [⟨some 7,.mv (.t 3),none⟩,
 ⟨some 8,.bin .neq (.t 7) (.c (.s [])),none⟩])
 (.cond (.t 8)
 (.skip)
 (.exit 0)))
 (.blk 1
 (.blk 2
 (.seq (.reg [⟨some 22,.mv (.t 3),none⟩,
 ⟨some 23,.call 104 [.t 22,.c (.s [46,46,47])],none⟩,
 ⟨some 21,.mv (.t 23),none⟩])
 (.cond (.t 21)
 (.reg [⟨some 24,.mv (.t 3),none⟩,
 ⟨some 25,.slcs (.t 24) (some (.c (.i .i64 3))) none,none⟩,
 ⟨some 3,.mv (.t 25),none⟩])
 (.seq (.reg [⟨some 27,.mv (.t 3),none⟩,
 ⟨some 28,.call 104 [.t 27,.c (.s [46,47])],none⟩,
 ⟨some 26,.mv (.t 28),none⟩])
 (.cond (.t 26)
 (.reg [⟨some 29,.mv (.t 3),none⟩,
 ⟨some 30,.slcs (.t 29) (some (.c (.i .i64 2))) none,none⟩,
 ⟨some 3,.mv (.t 30),none⟩])
 (.seq (.reg [⟨some 32,.mv (.t 3),none⟩,
 ⟨some 33,.call 104 [.t 32,.c (.s [47,46,47])],none⟩,
 ⟨some 31,.mv (.t 33),none⟩])
 (.cond (.t 31)
 (.reg [⟨some 34,.mv (.t 3),none⟩,
 ⟨some 35,.slcs (.t 34) (some (.c (.i .i64 2))) none,none⟩,
 ⟨some 3,.mv (.t 35),none⟩])
 (.seq (.reg [⟨some 37,.mv (.t 3),none⟩,
 ⟨some 38,.bin .eql (.t 37) (.c (.s [47,46])),none⟩,
 ⟨some 36,.mv (.t 38),none⟩])
 (.cond (.t 36)
 (.reg [⟨some 3,.mv (.c (.s [47])),none⟩])
 (.seq (.reg [⟨some 40,.mv (.t 3),none⟩,
 ⟨some 41,.call 104 [.t 40,.c (.s [47,46,46,47])],none⟩,
 ⟨some 39,.mv (.t 41),none⟩])
 (.cond (.t 39)
 (.drw [⟨some 42,.mv (.t 3),none⟩,
 ⟨some 43,.slcs (.t 42) (some (.c (.i .i64 3))) none,none⟩,
 ⟨some 44,.mv (.t 4),none⟩,
 ⟨some 45,.call 131 [.t 44],none⟩,
 ⟨some 3,.mv (.t 43),none⟩,
 ⟨some 4,.mv (.t 45),none⟩] 6 [])
 (.seq (.reg [⟨some 47,.mv (.t 3),none⟩,
 ⟨some 48,.bin .eql (.t 47) (.c (.s [47,46,46])),none⟩,
 ⟨some 46,.mv (.t 48),none⟩])
 (.cond (.t 46)
 (.reg [⟨some 49,.mv (.t 4),none⟩,
 ⟨some 50,.call 131 [.t 49],none⟩,
 ⟨some 3,.mv (.c (.s [47])),none⟩,
 ⟨some 4,.mv (.t 50),none⟩])
 (.seq (.reg [⟨some 52,.mv (.t 3),none⟩,
 ⟨some 53,.bin .eql (.t 52) (.c (.s [46])),none⟩,
 ⟨some 54,.mv (.t 53),none⟩,
 ⟨some 55,.mv (.t 3),some (54,false)⟩,
 ⟨some 56,.bin .eql (.t 55) (.c (.s [46,46])),some (54,false)⟩,
 ⟨some 57,.pick (.t 54) (.c (.b true)) (.t 56),none⟩,
 ⟨some 51,.mv (.t 57),none⟩])
 (.cond (.t 51)
 (.reg [⟨some 3,.mv (.c (.s [])),none⟩])
 (.seq (.reg [⟨some 9,.mv (.t 3),none⟩,
 ⟨some 10,.slcs (.t 9) (some (.c (.i .i64 1))) none,none⟩,
 ⟨some 11,.call 47 [.t 10,.c (.s [47])],none⟩,
 ⟨some 12,.bin .add (.c (.i .i64 1)) (.t 11),none⟩,
 ⟨some 5,.mv (.t 12),none⟩])
 (.drw [⟨some 13,.mv (.t 3),none⟩,
 ⟨some 14,.mv (.t 5),none⟩,
 ⟨some 15,.slcs (.t 13) (some (.t 14)) none,none⟩,
 ⟨some 16,.mv (.t 4),none⟩,
 ⟨some 17,.mv (.t 3),none⟩,
 ⟨some 18,.mv (.t 5),none⟩,
 ⟨some 19,.slcs (.t 17) none (some (.t 18)),none⟩,
 ⟨some 20,.bin .add (.t 16) (.t 19),none⟩,
 ⟨some 3,.mv (.t 15),none⟩,
 ⟨some 4,.mv (.t 20),none⟩] 10 [])))))))))))))))))))))
 (.seq (.reg [⟨some 58,.mv (.t 4),none⟩,
 ⟨some 2,.mv (.t 58),none⟩])
 (.ret))))
theorem is_ref06_RemoveDots:FnIs Tryz.prog 100 59 [.tmp 2] c_ref06_RemoveDots:=⟨⟨_,_,Tryz.func100,rfl,rfl,by kernel_rfl,by kernel_rfl⟩⟩
def c_ref05_Format:SCode :=
 .seq (.reg [⟨some 1,.box 124 (.t 0),none⟩,
 ⟨some 2,.mv (.c (.s [])),none⟩])
 (.seq (.seq (.reg [⟨some 3,.fad 1 (.t 1),none⟩,
 ⟨some 4,.load1 (.t 3),none⟩,
 ⟨some 5,.bin .eql (.t 4) (.c (.i .i64 0)),none⟩])
 (.cond (.t 5)
 (.seq (.reg [⟨some 6,.fad 0 (.t 1),none⟩,
 ⟨some 7,.load1 (.t 6),none⟩,
 ⟨some 2,.mv (.t 7),none⟩])
 (.ret))
 (.skip)))
 (.seq (.drw [⟨some 8,.fad 0 (.t 1),none⟩,
 ⟨some 9,.load1 (.t 8),none⟩,
 ⟨some 10,.bin .add (.t 9) (.c (.s [58])),none⟩,
 ⟨some 11,.fad 1 (.t 1),none⟩,
 ⟨some 12,.load1 (.t 11),none⟩,
 ⟨some 13,.call 132 [.t 12],none⟩,
 ⟨some 14,.bin .add (.t 10) (.t 13),none⟩,
 ⟨some 2,.mv (.t 14),none⟩] 8 [])
 (.ret)))
theorem is_ref05_Format:FnIs Tryz.prog 101 15 [.tmp 2] c_ref05_Format:=⟨⟨_,_,Tryz.func101,rfl,rfl,by kernel_rfl,by kernel_rfl⟩⟩
def c_ref07_Origin:SCode :=
 .seq (.reg [⟨some 1,.box 79 (.t 0),none⟩,
 ⟨some 2,.alloc 124 [.s [],.i .i64 0],none⟩])
 (.seq (.reg [⟨some 3,.fad 0 (.t 1),none⟩,
 ⟨some 4,.load1 (.t 3),none⟩,
 ⟨some 5,.fad 1 (.t 1),none⟩,
 ⟨some 6,.load1 (.t 5),none⟩,
 ⟨some 7,.build [.s [],.i .i64 0] [(0,(1,.t 4)),(1,(1,.t 6))],none⟩,
 ⟨none,.store 2 (.t 2) (.t 7),none⟩])
 (.ret))
theorem is_ref07_Origin:FnIs Tryz.prog 102 8 [.celln 2 2] c_ref07_Origin:=⟨⟨_,_,Tryz.func102,rfl,rfl,by kernel_rfl,by kernel_rfl⟩⟩
def c_ref07_Target:SCode :=
 .seq (.reg [⟨some 1,.box 79 (.t 0),none⟩,
 ⟨some 2,.mv (.c (.s [])),none⟩])
 (.seq (.seq (.reg [⟨some 3,.fad 5 (.t 1),none⟩,
 ⟨some 4,.load1 (.t 3),none⟩])
 (.cond (.t 4)
 (.seq (.reg [⟨some 5,.fad 2 (.t 1),none⟩,
 ⟨some 6,.load1 (.t 5),none⟩,
 ⟨some 7,.bin .add (.t 6) (.c (.s [63])),none⟩,
 ⟨some 8,.fad 3 (.t 1),none⟩,
 ⟨some 9,.load1 (.t 8),none⟩,
 ⟨some 10,.bin .add (.t 7) (.t 9),none⟩,
 ⟨some 2,.mv (.t 10),none⟩])
 (.ret))
 (.skip)))
 (.seq (.reg [⟨some 11,.fad 2 (.t 1),none⟩,
 ⟨some 12,.load1 (.t 11),none⟩,
 ⟨some 2,.mv (.t 12),none⟩])
 (.ret)))
theorem is_ref07_Target:FnIs Tryz.prog 103 13 [.tmp 2] c_ref07_Target:=⟨⟨_,_,Tryz.func103,rfl,rfl,by kernel_rfl,by kernel_rfl⟩⟩
def c_ref01_Prefix:SCode :=
 .seq (.reg [⟨some 4,.mv (.c (.b false)),none⟩])
 (.seq (.reg [⟨some 5,.mv (.t 0),none⟩,
 ⟨some 6,.lens (.t 5),none⟩,
 ⟨some 7,.mv (.t 1),none⟩,
 ⟨some 8,.lens (.t 7),none⟩,
 ⟨some 9,.bin .geq (.t 6) (.t 8),none⟩,
 ⟨some 10,.mv (.t 9),none⟩,
 ⟨some 11,.mv (.t 0),some (10,true)⟩,
 ⟨some 12,.mv (.t 1),some (10,true)⟩,
 ⟨some 13,.lens (.t 12),some (10,true)⟩,
 ⟨some 14,.slcs (.t 11) none (some (.t 13)),some (10,true)⟩,
 ⟨some 15,.mv (.t 1),some (10,true)⟩,
 ⟨some 16,.bin .eql (.t 14) (.t 15),some (10,true)⟩,
 ⟨some 17,.pick (.t 10) (.t 16) (.c (.b false)),none⟩,
 ⟨some 4,.mv (.t 17),none⟩])
 (.ret))
theorem is_ref01_Prefix:FnIs Tryz.prog 104 18 [.tmp 4] c_ref01_Prefix:=⟨⟨_,_,Tryz.func104,rfl,rfl,by kernel_rfl,by kernel_rfl⟩⟩
def c_ref10_method:SCode :=
 .seq (.reg [⟨some 2,.mv (.c (.b false)),none⟩])
 (.seq (.seq (.reg [⟨some 3,.mv (.c (.i .i64 0)),none⟩])
 (.blk 0
 (.loop
 (.seq (.seq (.reg [⟨some 4,.mv (.t 3),none⟩,
 ⟨some 5,.mv (.t 0),none⟩,
 ⟨some 6,.lens (.t 5),none⟩,
 ⟨some 7,.bin .lss (.t 4) (.t 6),none⟩])
 (.cond (.t 7)
 (.skip)
 (.exit 0)))
 (.seq (.blk 1
 (.seq (.reg [⟨some 10,.mv (.t 0),none⟩,
 ⟨some 11,.mv (.t 3),none⟩,
 ⟨some 12,.idx (.t 10) (.t 11),none⟩,
 ⟨some 13,.call 94 [.t 12],none⟩,
 ⟨some 14,.not (.t 13),none⟩,
 ⟨some 15,.mv (.t 14),none⟩,
 ⟨some 16,.mv (.t 0),some (15,true)⟩,
 ⟨some 17,.mv (.t 3),some (15,true)⟩,
 ⟨some 18,.idx (.t 16) (.t 17),some (15,true)⟩,
 ⟨some 19,.bin .lss (.t 18) (.c (.i .u8 97)),some (15,true)⟩,
 ⟨some 20,.mv (.t 19),some (15,true)⟩,
 ⟨some 21,.mv (.t 0),some (20,false)⟩,
 ⟨some 22,.mv (.t 3),some (20,false)⟩,
 ⟨some 23,.idx (.t 21) (.t 22),some (20,false)⟩,
 ⟨some 24,.bin .gtr (.t 23) (.c (.i .u8 122)),some (20,false)⟩,
 ⟨some 25,.pick (.t 20) (.c (.b true)) (.t 24),some (15,true)⟩,
 ⟨some 26,.pick (.t 15) (.t 25) (.c (.b false)),none⟩])
 (.cond (.t 26)
 (.seq (.reg [⟨some 2,.mv (.c (.b false)),none⟩])
 (.ret))
 (.skip))))
 (.reg [⟨some 8,.mv (.t 3),none⟩,
 ⟨some 9,.bin .add (.t 8) (.c (.i .i64 1)),none⟩,
 ⟨some 3,.mv (.t 9),none⟩]))))))
 (.seq (.reg [⟨some 27,.mv (.t 0),none⟩,
 ⟨some 28,.bin .neq (.t 27) (.c (.s [])),none⟩,
 ⟨some 2,.mv (.t 28),none⟩])
 (.ret)))
theorem is_ref10_method:FnIs Tryz.prog 105 29 [.tmp 2] c_ref10_method:=⟨⟨_,_,Tryz.func105,rfl,rfl,by kernel_rfl,by kernel_rfl⟩⟩
def c_ref10_plain:SCode :=
 .seq (.reg [⟨some 2,.mv (.c (.b false)),none⟩])
 (.seq (.reg [⟨some 3,.mv (.t 0),none⟩,
 ⟨some 4,.call 93 [.t 3],none⟩,
 ⟨some 5,.mv (.t 4),none⟩,
 ⟨some 6,.mv (.t 0),some (5,false)⟩,
 ⟨some 7,.call 94 [.t 6],some (5,false)⟩,
 ⟨some 8,.pick (.t 5) (.c (.b true)) (.t 7),none⟩,
 ⟨some 9,.mv (.t 8),none⟩,
 ⟨some 10,.mv (.t 0),some (9,false)⟩,
 ⟨some 11,.call 66 [.t 10,.c (.s [46,45,95])],some (9,false)⟩,
 ⟨some 12,.pick (.t 9) (.c (.b true)) (.t 11),none⟩,
 ⟨some 2,.mv (.t 12),none⟩])
 (.ret))
theorem is_ref10_plain:FnIs Tryz.prog 106 13 [.tmp 2] c_ref10_plain:=⟨⟨_,_,Tryz.func106,rfl,rfl,by kernel_rfl,by kernel_rfl⟩⟩
def c_ref10_Escaped:SCode :=
 .seq (.reg [⟨some 2,.mv (.c (.s [])),none⟩])
 (.seq (.reg [⟨some 3,.mv (.c (.s [])),none⟩])
 (.seq (.seq (.reg [⟨some 4,.mv (.c (.i .i64 0)),none⟩])
 (.blk 0
 (.loop
 (.seq (.seq (.reg [⟨some 5,.mv (.t 4),none⟩,
 ⟨some 6,.mv (.t 0),none⟩,
 ⟨some 7,.lens (.t 6),none⟩,
 ⟨some 8,.bin .lss (.t 5) (.t 7),none⟩])
 (.cond (.t 8)
 (.skip)
 (.exit 0)))
 (.seq (.blk 1
 (.seq (.reg [⟨some 11,.mv (.t 0),none⟩,
 ⟨some 12,.mv (.t 4),none⟩,
 ⟨some 13,.idx (.t 11) (.t 12),none⟩,
 ⟨some 14,.call 106 [.t 13],none⟩])
 (.cond (.t 14)
 (.reg [⟨some 15,.mv (.t 3),none⟩,
 ⟨some 16,.mv (.t 0),none⟩,
 ⟨some 17,.mv (.t 4),none⟩,
 ⟨some 18,.mv (.t 4),none⟩,
 ⟨some 19,.bin .add (.t 18) (.c (.i .i64 1)),none⟩,
 ⟨some 20,.slcs (.t 16) (some (.t 17)) (some (.t 19)),none⟩,
 ⟨some 21,.bin .add (.t 15) (.t 20),none⟩,
 ⟨some 3,.mv (.t 21),none⟩])
 (.reg [⟨some 22,.mv (.t 3),none⟩,
 ⟨some 23,.mv (.t 0),none⟩,
 ⟨some 24,.mv (.t 4),none⟩,
 ⟨some 25,.idx (.t 23) (.t 24),none⟩,
 ⟨some 26,.call 91 [.t 25],none⟩,
 ⟨some 27,.bin .add (.t 22) (.t 26),none⟩,
 ⟨some 3,.mv (.t 27),none⟩]))))
 (.reg [⟨some 9,.mv (.t 4),none⟩,
 ⟨some 10,.bin .add (.t 9) (.c (.i .i64 1)),none⟩,
 ⟨some 4,.mv (.t 10),none⟩]))))))
 (.seq (.reg [⟨some 28,.mv (.t 3),none⟩,
 ⟨some 2,.mv (.t 28),none⟩])
 (.ret))))
theorem is_ref10_Escaped:FnIs Tryz.prog 107 29 [.tmp 2] c_ref10_Escaped:=⟨⟨_,_,Tryz.func107,rfl,rfl,by kernel_rfl,by kernel_rfl⟩⟩
def c_ref11_ToURL:SCode :=
 .seq (.reg [⟨some 1,.box 119 (.t 0),none⟩,
 ⟨some 2,.alloc 79 [.s [],.i .i64 0,.s [],.s [],.s [],.b false,.b false],none⟩,
 ⟨some 3,.mv (.c (.i .i64 0)),none⟩])
 (.seq (.reg [⟨some 14,.loadn 2 (.t 1),none⟩,
 ⟨some 15,.call 110 [.t 14],none⟩,
 ⟨some 13,.mv (.t 15),none⟩,
 ⟨some 16,.ext (.t 13) 0,none⟩,
 ⟨some 17,.ext (.t 13) 1,none⟩,
 ⟨some 18,.ext (.t 13) 2,none⟩,
 ⟨some 5,.alloc 124 [.s [],.i .i64 0],none⟩,
 ⟨some 4,.mv (.t 16),none⟩,
 ⟨none,.store 2 (.t 5) (.t 17),none⟩,
 ⟨some 6,.mv (.t 18),none⟩])
 (.seq (.seq (.reg [⟨some 19,.mv (.t 6),none⟩,
 ⟨some 20,.bin .neq (.t 19) (.c (.i .i64 0)),none⟩])
 (.cond (.t 20)
 (.seq (.reg [⟨some 21,.build [.s [],.i .i64 0,.s [],.s [],.s [],.b false,.b false] [],none⟩,
 ⟨some 22,.mv (.t 6),none⟩,
 ⟨none,.store 7 (.t 2) (.t 21),none⟩,
 ⟨some 3,.mv (.t 22),none⟩])
 (.ret))
 (.skip)))
 (.seq (.reg [⟨some 7,.mv (.c (.s [])),none⟩])
 (.seq (.seq (.reg [⟨some 23,.mv (.t 4),none⟩,
 ⟨some 24,.pu (.rsl 1) [.t 23,.c (.i .i64 1)],none⟩,
 ⟨some 25,.lenr (.t 24),none⟩,
 ⟨some 26,.mv (.c (.i .i64 0)),none⟩])
 (.blk 0
 (.loop
 (.seq (.reg [⟨some 27,.bin .lss (.t 26) (.t 25),none⟩])
 (.seq (.cond (.t 27)
 (.skip)
 (.exit 0))
 (.seq (.blk 1
 (.seq (.reg [⟨some 28,.iad 1 (.t 24) (.t 26),none⟩,
 ⟨some 29,.load1 (.t 28),none⟩,
 ⟨some 9,.mv (.t 29),none⟩])
 (.seq (.reg [⟨some 31,.mv (.t 9),none⟩,
 ⟨some 32,.call 71 [.t 31],none⟩,
 ⟨some 30,.mv (.t 32),none⟩,
 ⟨some 33,.ext (.t 30) 0,none⟩,
 ⟨some 34,.ext (.t 30) 1,none⟩,
 ⟨some 10,.mv (.t 33),none⟩,
 ⟨some 11,.mv (.t 34),none⟩])
 (.seq (.seq (.reg [⟨some 35,.mv (.t 10),none⟩,
 ⟨some 36,.bin .eql (.t 35) (.c (.s [])),none⟩,
 ⟨some 37,.mv (.t 36),none⟩,
 ⟨some 38,.mv (.t 10),some (37,false)⟩,
 ⟨some 39,.bin .eql (.t 38) (.c (.s [46])),some (37,false)⟩,
 ⟨some 40,.pick (.t 37) (.c (.b true)) (.t 39),none⟩,
 ⟨some 41,.mv (.t 40),none⟩,
 ⟨some 42,.mv (.t 10),some (41,false)⟩,
 ⟨some 43,.bin .eql (.t 42) (.c (.s [46,46])),some (41,false)⟩,
 ⟨some 44,.pick (.t 41) (.c (.b true)) (.t 43),none⟩])
 (.cond (.t 44)
 (.seq (.reg [⟨some 45,.build [.s [],.i .i64 0,.s [],.s [],.s [],.b false,.b false] [],none⟩,
 ⟨none,.store 7 (.t 2) (.t 45),none⟩,
 ⟨some 3,.mv (.c (.i .i64 110)),none⟩])
 (.ret))
 (.skip)))
 (.reg [⟨some 46,.mv (.t 7),none⟩,
 ⟨some 47,.mv (.t 10),none⟩,
 ⟨some 48,.call 74 [.t 47,.c (.s [])],none⟩,
 ⟨some 49,.bin .add (.c (.s [47])) (.t 48),none⟩,
 ⟨some 50,.bin .add (.t 46) (.t 49),none⟩,
 ⟨some 7,.mv (.t 50),none⟩])))))
 (.reg [⟨some 51,.bin .add (.t 26) (.c (.i .i64 1)),none⟩,
 ⟨some 26,.mv (.t 51),none⟩])))))))
 (.seq (.seq (.reg [⟨some 52,.mv (.t 4),none⟩,
 ⟨some 53,.lenr (.t 52),none⟩,
 ⟨some 54,.bin .eql (.t 53) (.c (.i .i64 1)),none⟩])
 (.cond (.t 54)
 (.reg [⟨some 7,.mv (.c (.s [47,46,119,101,108,108,45,107,110,111,119,110])),none⟩])
 (.skip)))
 (.seq (.reg [⟨some 55,.fad 0 (.t 5),none⟩,
 ⟨some 56,.load1 (.t 55),none⟩,
 ⟨some 57,.fad 1 (.t 5),none⟩,
 ⟨some 58,.load1 (.t 57),none⟩,
 ⟨some 59,.mv (.t 7),none⟩,
 ⟨some 60,.bin .add (.t 59) (.c (.s [47,100,105,100,46,106,115,111,110])),none⟩,
 ⟨some 61,.build [.s [],.i .i64 0,.s [],.s [],.s [],.b false,.b false] [(0,(1,.t 56)),(1,(1,.t 58)),(2,(1,.t 60))],none⟩,
 ⟨some 12,.alloc 79 [.s [],.i .i64 0,.s [],.s [],.s [],.b false,.b false],none⟩,
 ⟨none,.store 7 (.t 12) (.t 61),none⟩])
 (.seq (.seq (.reg [⟨some 62,.loadn 7 (.t 12),none⟩,
 ⟨some 63,.call 76 [.t 62],none⟩,
 ⟨some 64,.lens (.t 63),none⟩,
 ⟨some 65,.bin .gtr (.t 64) (.c (.i .i64 4096)),none⟩])
 (.cond (.t 65)
 (.seq (.reg [⟨some 66,.build [.s [],.i .i64 0,.s [],.s [],.s [],.b false,.b false] [],none⟩,
 ⟨none,.store 7 (.t 2) (.t 66),none⟩,
 ⟨some 3,.mv (.c (.i .i64 5)),none⟩])
 (.ret))
 (.skip)))
 (.seq (.reg [⟨some 67,.loadn 7 (.t 12),none⟩,
 ⟨none,.store 7 (.t 2) (.t 67),none⟩,
 ⟨some 3,.mv (.c (.i .i64 0)),none⟩])
 (.ret)))))))))
theorem is_ref11_ToURL:FnIs Tryz.prog 108 68 [.celln 2 7,.tmp 3] c_ref11_ToURL:=⟨⟨_,_,Tryz.func108,rfl,rfl,by kernel_rfl,by kernel_rfl⟩⟩
def c_ref11_FromURL:SCode :=
 .seq (.reg [⟨some 1,.box 79 (.t 0),none⟩,
 ⟨some 2,.alloc 119 [.s [],.s []],none⟩,
 ⟨some 3,.mv (.c (.i .i64 0)),none⟩])
 (.seq (.seq (.reg [⟨some 12,.loadn 7 (.t 1),none⟩,
 ⟨some 13,.call 133 [.t 12],none⟩,
 ⟨some 14,.not (.t 13),none⟩])
 (.cond (.t 14)
 (.seq (.reg [⟨some 15,.build [.s [],.s []] [],none⟩,
 ⟨none,.store 2 (.t 2) (.t 15),none⟩,
 ⟨some 3,.mv (.c (.i .i64 8)),none⟩])
 (.ret))
 (.skip)))
 (.seq (.reg [⟨some 16,.fad 2 (.t 1),none⟩,
 ⟨some 17,.load1 (.t 16),none⟩,
 ⟨some 18,.call 95 [.t 17,.c (.i .u8 47)],none⟩,
 ⟨some 19,.pu (.rsl 1) [.t 18,.c (.i .i64 1)],none⟩,
 ⟨some 4,.mv (.t 19),none⟩])
 (.seq (.seq (.reg [⟨some 20,.fad 5 (.t 1),none⟩,
 ⟨some 21,.load1 (.t 20),none⟩,
 ⟨some 22,.mv (.t 21),none⟩,
 ⟨some 23,.fad 6 (.t 1),some (22,false)⟩,
 ⟨some 24,.load1 (.t 23),some (22,false)⟩,
 ⟨some 25,.pick (.t 22) (.c (.b true)) (.t 24),none⟩,
 ⟨some 26,.mv (.t 25),none⟩,
 ⟨some 27,.mv (.t 4),some (26,false)⟩,
 ⟨some 28,.mv (.t 4),some (26,false)⟩,
 ⟨some 29,.lenr (.t 28),some (26,false)⟩,
 ⟨some 30,.bin .sub (.t 29) (.c (.i .i64 1)),some (26,false)⟩,
 ⟨some 31,.iad 1 (.t 27) (.t 30),some (26,false)⟩,
 ⟨some 32,.load1 (.t 31),some (26,false)⟩,
 ⟨some 33,.bin .neq (.t 32) (.c (.s [100,105,100,46,106,115,111,110])),some (26,false)⟩,
 ⟨some 34,.pick (.t 26) (.c (.b true)) (.t 33),none⟩])
 (.cond (.t 34)
 (.seq (.reg [⟨some 35,.build [.s [],.s []] [],none⟩,
 ⟨none,.store 2 (.t 2) (.t 35),none⟩,
 ⟨some 3,.mv (.c (.i .i64 6)),none⟩])
 (.ret))
 (.skip)))
 (.seq (.reg [⟨some 36,.mv (.t 4),none⟩,
 ⟨some 37,.mv (.t 4),none⟩,
 ⟨some 38,.lenr (.t 37),none⟩,
 ⟨some 39,.bin .sub (.t 38) (.c (.i .i64 1)),none⟩,
 ⟨some 40,.trn 1 (.t 36) (.t 39),none⟩,
 ⟨some 4,.mv (.t 40),none⟩])
 (.seq (.seq (.reg [⟨some 41,.mv (.t 4),none⟩,
 ⟨some 42,.lenr (.t 41),none⟩,
 ⟨some 43,.bin .eql (.t 42) (.c (.i .i64 0)),none⟩])
 (.cond (.t 43)
 (.seq (.reg [⟨some 44,.build [.s [],.s []] [],none⟩,
 ⟨none,.store 2 (.t 2) (.t 44),none⟩,
 ⟨some 3,.mv (.c (.i .i64 110)),none⟩])
 (.ret))
 (.skip)))
 (.seq (.reg [⟨some 45,.fad 0 (.t 1),none⟩,
 ⟨some 46,.load1 (.t 45),none⟩,
 ⟨some 5,.mv (.t 46),none⟩])
 (.seq (.seq (.reg [⟨some 47,.fad 1 (.t 1),none⟩,
 ⟨some 48,.load1 (.t 47),none⟩,
 ⟨some 49,.bin .neq (.t 48) (.c (.i .i64 0)),none⟩])
 (.cond (.t 49)
 (.reg [⟨some 50,.mv (.t 5),none⟩,
 ⟨some 51,.fad 1 (.t 1),none⟩,
 ⟨some 52,.load1 (.t 51),none⟩,
 ⟨some 53,.call 132 [.t 52],none⟩,
 ⟨some 54,.bin .add (.c (.s [37,51,65])) (.t 53),none⟩,
 ⟨some 55,.bin .add (.t 50) (.t 54),none⟩,
 ⟨some 5,.mv (.t 55),none⟩])
 (.skip)))
 (.seq (.seq (.reg [⟨some 56,.mv (.t 4),none⟩,
 ⟨some 57,.lenr (.t 56),none⟩,
 ⟨some 58,.mv (.c (.i .i64 0)),none⟩])
 (.blk 0
 (.loop
 (.seq (.reg [⟨some 59,.bin .lss (.t 58) (.t 57),none⟩])
 (.seq (.cond (.t 59)
 (.skip)
 (.exit 0))
 (.seq (.blk 1
 (.seq (.reg [⟨some 60,.iad 1 (.t 56) (.t 58),none⟩,
 ⟨some 61,.load1 (.t 60),none⟩,
 ⟨some 7,.mv (.t 61),none⟩])
 (.seq (.seq (.reg [⟨some 8,.mv (.c (.i .i64 0)),none⟩])
 (.blk 2
 (.loop
 (.seq (.seq (.reg [⟨some 62,.mv (.t 8),none⟩,
 ⟨some 63,.mv (.t 7),none⟩,
 ⟨some 64,.lens (.t 63),none⟩,
 ⟨some 65,.bin .lss (.t 62) (.t 64),none⟩])
 (.cond (.t 65)
 (.skip)
 (.exit 2)))
 (.seq (.blk 3
 (.seq (.reg [⟨some 68,.mv (.t 7),none⟩,
 ⟨some 69,.mv (.t 8),none⟩,
 ⟨some 70,.idx (.t 68) (.t 69),none⟩,
 ⟨some 71,.call 70 [.t 70],none⟩,
 ⟨some 72,.not (.t 71),none⟩,
 ⟨some 73,.mv (.t 72),none⟩,
 ⟨some 74,.mv (.t 7),some (73,true)⟩,
 ⟨some 75,.mv (.t 8),some (73,true)⟩,
 ⟨some 76,.idx (.t 74) (.t 75),some (73,true)⟩,
 ⟨some 77,.bin .neq (.t 76) (.c (.i .u8 37)),some (73,true)⟩,
 ⟨some 78,.pick (.t 73) (.t 77) (.c (.b false)),none⟩])
 (.cond (.t 78)
 (.seq (.reg [⟨some 79,.build [.s [],.s []] [],none⟩,
 ⟨none,.store 2 (.t 2) (.t 79),none⟩,
 ⟨some 3,.mv (.c (.i .i64 110)),none⟩])
 (.ret))
 (.skip))))
 (.reg [⟨some 66,.mv (.t 8),none⟩,
 ⟨some 67,.bin .add (.t 66) (.c (.i .i64 1)),none⟩,
 ⟨some 8,.mv (.t 67),none⟩]))))))
 (.seq (.reg [⟨some 81,.mv (.t 7),none⟩,
 ⟨some 82,.call 71 [.t 81],none⟩,
 ⟨some 80,.mv (.t 82),none⟩,
 ⟨some 83,.ext (.t 80) 0,none⟩,
 ⟨some 84,.ext (.t 80) 1,none⟩,
 ⟨some 9,.mv (.t 83),none⟩,
 ⟨some 10,.mv (.t 84),none⟩])
 (.seq (.seq (.reg [⟨some 85,.mv (.t 9),none⟩,
 ⟨some 86,.bin .eql (.t 85) (.c (.s [])),none⟩])
 (.cond (.t 86)
 (.seq (.reg [⟨some 87,.build [.s [],.s []] [],none⟩,
 ⟨none,.store 2 (.t 2) (.t 87),none⟩,
 ⟨some 3,.mv (.c (.i .i64 110)),none⟩])
 (.ret))
 (.skip)))
 (.seq (.reg [⟨some 88,.fad 2 (.t 1),none⟩,
 ⟨some 89,.load1 (.t 88),none⟩,
 ⟨some 90,.bin .neq (.t 89) (.c (.s [47,46,119,101,108,108,45,107,110,111,119,110,47,100,105,100,46,106,115,111,110])),none⟩])
 (.cond (.t 90)
 (.reg [⟨some 91,.mv (.t 5),none⟩,
 ⟨some 92,.mv (.t 9),none⟩,
 ⟨some 93,.call 107 [.t 92],none⟩,
 ⟨some 94,.bin .add (.c (.s [58])) (.t 93),none⟩,
 ⟨some 95,.bin .add (.t 91) (.t 94),none⟩,
 ⟨some 5,.mv (.t 95),none⟩])
 (.skip))))))))
 (.reg [⟨some 96,.bin .add (.t 58) (.c (.i .i64 1)),none⟩,
 ⟨some 58,.mv (.t 96),none⟩])))))))
 (.seq (.reg [⟨some 97,.mv (.t 5),none⟩,
 ⟨some 98,.build [.s [],.s []] [(0,(1,.c (.s [119,101,98]))),(1,(1,.t 97))],none⟩,
 ⟨some 11,.alloc 119 [.s [],.s []],none⟩,
 ⟨none,.store 2 (.t 11) (.t 98),none⟩])
 (.seq (.seq (.reg [⟨some 99,.loadn 2 (.t 11),none⟩,
 ⟨some 100,.call 80 [.t 99],none⟩,
 ⟨some 101,.lens (.t 100),none⟩,
 ⟨some 102,.bin .gtr (.t 101) (.c (.i .i64 4096)),none⟩])
 (.cond (.t 102)
 (.seq (.reg [⟨some 103,.build [.s [],.s []] [],none⟩,
 ⟨none,.store 2 (.t 2) (.t 103),none⟩,
 ⟨some 3,.mv (.c (.i .i64 5)),none⟩])
 (.ret))
 (.skip)))
 (.seq (.reg [⟨some 104,.loadn 2 (.t 11),none⟩,
 ⟨none,.store 2 (.t 2) (.t 104),none⟩,
 ⟨some 3,.mv (.c (.i .i64 0)),none⟩])
 (.ret))))))))))))
theorem is_ref11_FromURL:FnIs Tryz.prog 109 105 [.celln 2 2,.tmp 3] c_ref11_FromURL:=⟨⟨_,_,Tryz.func109,rfl,rfl,by kernel_rfl,by kernel_rfl⟩⟩
def c_ref11_first:SCode :=
 .seq (.reg [⟨some 1,.box 119 (.t 0),none⟩,
 ⟨some 2,.mv (.c .nil),none⟩,
 ⟨some 3,.alloc 124 [.s [],.i .i64 0],none⟩,
 ⟨some 4,.mv (.c (.i .i64 0)),none⟩])
 (.seq (.seq (.reg [⟨some 12,.fad 0 (.t 1),none⟩,
 ⟨some 13,.load1 (.t 12),none⟩,
 ⟨some 14,.bin .neq (.t 13) (.c (.s [119,101,98])),none⟩])
 (.cond (.t 14)
 (.seq (.reg [⟨some 15,.build [.s [],.i .i64 0] [],none⟩,
 ⟨some 2,.mv (.c .nil),none⟩,
 ⟨none,.store 2 (.t 3) (.t 15),none⟩,
 ⟨some 4,.mv (.c (.i .i64 100)),none⟩])
 (.ret))
 (.skip)))
 (.seq (.seq (.reg [⟨some 17,.loadn 2 (.t 1),none⟩,
 ⟨some 18,.call 80 [.t 17],none⟩,
 ⟨some 19,.call 77 [.t 18],none⟩,
 ⟨some 16,.mv (.t 19),none⟩,
 ⟨some 20,.ext (.t 16) 0,none⟩,
 ⟨some 21,.ext (.t 16) 1,none⟩,
 ⟨some 5,.alloc 119 [.s [],.s []],none⟩,
 ⟨none,.store 2 (.t 5) (.t 20),none⟩,
 ⟨some 6,.mv (.t 21),none⟩])
 (.seq (.reg [⟨some 22,.mv (.t 6),none⟩,
 ⟨some 23,.bin .neq (.t 22) (.c (.i .i64 0)),none⟩])
 (.cond (.t 23)
 (.seq (.reg [⟨some 24,.build [.s [],.i .i64 0] [],none⟩,
 ⟨some 25,.mv (.t 6),none⟩,
 ⟨some 2,.mv (.c .nil),none⟩,
 ⟨none,.store 2 (.t 3) (.t 24),none⟩,
 ⟨some 4,.mv (.t 25),none⟩])
 (.ret))
 (.skip))))
 (.seq (.reg [⟨some 26,.fad 1 (.t 1),none⟩,
 ⟨some 27,.load1 (.t 26),none⟩,
 ⟨some 28,.call 95 [.t 27,.c (.i .u8 58)],none⟩,
 ⟨some 7,.mv (.t 28),none⟩])
 (.seq (.reg [⟨some 30,.mv (.t 7),none⟩,
 ⟨some 31,.iad 1 (.t 30) (.c (.i .i64 0)),none⟩,
 ⟨some 32,.load1 (.t 31),none⟩,
 ⟨some 33,.call 71 [.t 32],none⟩,
 ⟨some 29,.mv (.t 33),none⟩,
 ⟨some 34,.ext (.t 29) 0,none⟩,
 ⟨some 35,.ext (.t 29) 1,none⟩,
 ⟨some 8,.mv (.t 34),none⟩,
 ⟨some 9,.mv (.t 35),none⟩])
 (.seq (.reg [⟨some 37,.mv (.t 8),none⟩,
 ⟨some 38,.call 99 [.t 37],none⟩,
 ⟨some 36,.mv (.t 38),none⟩,
 ⟨some 39,.ext (.t 36) 0,none⟩,
 ⟨some 40,.ext (.t 36) 1,none⟩,
 ⟨some 10,.alloc 124 [.s [],.i .i64 0],none⟩,
 ⟨none,.store 2 (.t 10) (.t 39),none⟩,
 ⟨some 11,.mv (.t 40),none⟩])
 (.seq (.drw [⟨some 41,.mv (.t 7),none⟩,
 ⟨some 42,.loadn 2 (.t 10),none⟩,
 ⟨some 43,.mv (.t 11),none⟩,
 ⟨some 2,.mv (.t 41),none⟩,
 ⟨none,.store 2 (.t 3) (.t 42),none⟩,
 ⟨some 4,.mv (.t 43),none⟩] 6 [])
 (.ret)))))))
theorem is_ref11_first:FnIs Tryz.prog 110 44 [.tmp 2,.celln 3 2,.tmp 4] c_ref11_first:=⟨⟨_,_,Tryz.func110,rfl,rfl,by kernel_rfl,by kernel_rfl⟩⟩
def c_slices_Reverse__api_Entry_api_Entry:SCode :=
 .seq (.reg [⟨some 4,.mv (.t 0),none⟩,
 ⟨some 5,.lenr (.t 4),none⟩,
 ⟨some 6,.bin .sub (.t 5) (.c (.i .i64 1)),none⟩,
 ⟨some 2,.mv (.c (.i .i64 0)),none⟩,
 ⟨some 3,.mv (.t 6),none⟩])
 (.blk 0
 (.loop
 (.seq (.seq (.reg [⟨some 7,.mv (.t 2),none⟩,
 ⟨some 8,.mv (.t 3),none⟩,
 ⟨some 9,.bin .lss (.t 7) (.t 8),none⟩])
 (.cond (.t 9)
 (.skip)
 (.exit 0)))
 (.seq (.blk 1
 (.drw [⟨some 14,.mv (.t 0),none⟩,
 ⟨some 15,.mv (.t 2),none⟩,
 ⟨some 16,.mv (.t 0),none⟩,
 ⟨some 17,.mv (.t 3),none⟩,
 ⟨some 18,.mv (.t 0),none⟩,
 ⟨some 19,.mv (.t 3),none⟩,
 ⟨some 20,.iad 14 (.t 18) (.t 19),none⟩,
 ⟨some 21,.loadn 14 (.t 20),none⟩,
 ⟨some 22,.mv (.t 0),none⟩,
 ⟨some 23,.mv (.t 2),none⟩,
 ⟨some 24,.iad 14 (.t 22) (.t 23),none⟩,
 ⟨some 25,.loadn 14 (.t 24),none⟩,
 ⟨some 26,.iad 14 (.t 14) (.t 15),none⟩,
 ⟨none,.store 14 (.t 26) (.t 21),none⟩,
 ⟨some 27,.iad 14 (.t 16) (.t 17),none⟩,
 ⟨none,.store 14 (.t 27) (.t 25),none⟩] 16 []))
 (.reg [⟨some 10,.mv (.t 2),none⟩,
 ⟨some 11,.bin .add (.t 10) (.c (.i .i64 1)),none⟩,
 ⟨some 12,.mv (.t 3),none⟩,
 ⟨some 13,.bin .sub (.t 12) (.c (.i .i64 1)),none⟩,
 ⟨some 2,.mv (.t 11),none⟩,
 ⟨some 3,.mv (.t 13),none⟩])))))
theorem is_slices_Reverse__api_Entry_api_Entry:FnIs Tryz.prog 111 28 [] c_slices_Reverse__api_Entry_api_Entry:=⟨⟨_,_,Tryz.func111,rfl,rfl,by kernel_rfl,by kernel_rfl⟩⟩
def c_acct_Parse:SCode :=
 .seq (.reg [⟨some 2,.alloc 86 [.s [],.s []],none⟩,
 ⟨some 3,.mv (.c (.i .i64 0)),none⟩])
 (.seq (.seq (.reg [⟨some 8,.mv (.t 0),none⟩,
 ⟨some 9,.lens (.t 8),none⟩,
 ⟨some 10,.bin .gtr (.t 9) (.c (.i .i64 4096)),none⟩])
 (.cond (.t 10)
 (.seq (.reg [⟨some 11,.build [.s [],.s []] [],none⟩,
 ⟨none,.store 2 (.t 2) (.t 11),none⟩,
 ⟨some 3,.mv (.c (.i .i64 5)),none⟩])
 (.ret))
 (.skip)))
 (.seq (.seq (.reg [⟨some 12,.mv (.t 0),none⟩,
 ⟨some 13,.lens (.t 12),none⟩,
 ⟨some 14,.bin .lss (.t 13) (.c (.i .i64 5)),none⟩,
 ⟨some 15,.mv (.t 14),none⟩,
 ⟨some 16,.mv (.t 0),some (15,false)⟩,
 ⟨some 17,.slcs (.t 16) none (some (.c (.i .i64 5))),some (15,false)⟩,
 ⟨some 18,.call 134 [.t 17,.c (.s [97,99,99,116,58])],some (15,false)⟩,
 ⟨some 19,.not (.t 18),some (15,false)⟩,
 ⟨some 20,.pick (.t 15) (.c (.b true)) (.t 19),none⟩])
 (.cond (.t 20)
 (.seq (.reg [⟨some 21,.build [.s [],.s []] [],none⟩,
 ⟨none,.store 2 (.t 2) (.t 21),none⟩,
 ⟨some 3,.mv (.c (.i .i64 60)),none⟩])
 (.ret))
 (.skip)))
 (.seq (.reg [⟨some 23,.mv (.t 0),none⟩,
 ⟨some 24,.slcs (.t 23) (some (.c (.i .i64 5))) none,none⟩,
 ⟨some 25,.call 135 [.t 24],none⟩,
 ⟨some 22,.mv (.t 25),none⟩,
 ⟨some 26,.ext (.t 22) 0,none⟩,
 ⟨some 27,.ext (.t 22) 1,none⟩,
 ⟨some 28,.ext (.t 22) 2,none⟩,
 ⟨some 4,.mv (.t 26),none⟩,
 ⟨some 5,.mv (.t 27),none⟩,
 ⟨some 6,.mv (.t 28),none⟩])
 (.seq (.seq (.reg [⟨some 29,.mv (.t 6),none⟩,
 ⟨some 30,.not (.t 29),none⟩])
 (.cond (.t 30)
 (.seq (.reg [⟨some 31,.build [.s [],.s []] [],none⟩,
 ⟨none,.store 2 (.t 2) (.t 31),none⟩,
 ⟨some 3,.mv (.c (.i .i64 6)),none⟩])
 (.ret))
 (.skip)))
 (.seq (.reg [⟨some 33,.mv (.t 4),none⟩,
 ⟨some 34,.call 136 [.t 33,.c (.s [33,36,38,39,40,41,42,43,44,59,61])],none⟩,
 ⟨some 32,.mv (.t 34),none⟩,
 ⟨some 35,.ext (.t 32) 0,none⟩,
 ⟨some 36,.ext (.t 32) 1,none⟩,
 ⟨some 4,.mv (.t 35),none⟩,
 ⟨some 7,.mv (.t 36),none⟩])
 (.seq (.seq (.reg [⟨some 37,.mv (.t 7),none⟩,
 ⟨some 38,.bin .neq (.t 37) (.c (.i .i64 0)),none⟩,
 ⟨some 39,.mv (.t 38),none⟩,
 ⟨some 40,.mv (.t 4),some (39,false)⟩,
 ⟨some 41,.bin .eql (.t 40) (.c (.s [])),some (39,false)⟩,
 ⟨some 42,.pick (.t 39) (.c (.b true)) (.t 41),none⟩,
 ⟨some 43,.mv (.t 42),none⟩,
 ⟨some 44,.mv (.t 4),some (43,false)⟩,
 ⟨some 45,.idx (.t 44) (.c (.i .i64 0)),some (43,false)⟩,
 ⟨some 46,.bin .eql (.t 45) (.c (.i .u8 37)),some (43,false)⟩,
 ⟨some 47,.pick (.t 43) (.c (.b true)) (.t 46),none⟩])
 (.cond (.t 47)
 (.seq (.reg [⟨some 48,.build [.s [],.s []] [],none⟩,
 ⟨none,.store 2 (.t 2) (.t 48),none⟩,
 ⟨some 3,.mv (.c (.i .i64 80)),none⟩])
 (.ret))
 (.skip)))
 (.seq (.reg [⟨some 50,.mv (.t 5),none⟩,
 ⟨some 51,.call 137 [.t 50],none⟩,
 ⟨some 49,.mv (.t 51),none⟩,
 ⟨some 52,.ext (.t 49) 0,none⟩,
 ⟨some 53,.ext (.t 49) 1,none⟩,
 ⟨some 5,.mv (.t 52),none⟩,
 ⟨some 7,.mv (.t 53),none⟩])
 (.seq (.seq (.reg [⟨some 54,.mv (.t 7),none⟩,
 ⟨some 55,.bin .neq (.t 54) (.c (.i .i64 0)),none⟩])
 (.cond (.t 55)
 (.seq (.reg [⟨some 56,.build [.s [],.s []] [],none⟩,
 ⟨some 57,.mv (.t 7),none⟩,
 ⟨none,.store 2 (.t 2) (.t 56),none⟩,
 ⟨some 3,.mv (.t 57),none⟩])
 (.ret))
 (.skip)))
 (.seq (.reg [⟨some 58,.mv (.t 4),none⟩,
 ⟨some 59,.mv (.t 5),none⟩,
 ⟨some 60,.build [.s [],.s []] [(0,(1,.t 58)),(1,(1,.t 59))],none⟩,
 ⟨none,.store 2 (.t 2) (.t 60),none⟩,
 ⟨some 3,.mv (.c (.i .i64 0)),none⟩])
 (.ret))))))))))
theorem is_acct_Parse:FnIs Tryz.prog 112 61 [.celln 2 2,.tmp 3] c_acct_Parse:=⟨⟨_,_,Tryz.func112,rfl,rfl,by kernel_rfl,by kernel_rfl⟩⟩
def c_acct_Format:SCode :=
 .seq (.reg [⟨some 1,.box 86 (.t 0),none⟩,
 ⟨some 2,.mv (.c (.s [])),none⟩])
 (.seq (.reg [⟨some 3,.fad 0 (.t 1),none⟩,
 ⟨some 4,.load1 (.t 3),none⟩,
 ⟨some 5,.bin .add (.c (.s [97,99,99,116,58])) (.t 4),none⟩,
 ⟨some 6,.bin .add (.t 5) (.c (.s [64])),none⟩,
 ⟨some 7,.fad 1 (.t 1),none⟩,
 ⟨some 8,.load1 (.t 7),none⟩,
 ⟨some 9,.bin .add (.t 6) (.t 8),none⟩,
 ⟨some 2,.mv (.t 9),none⟩])
 (.ret))
theorem is_acct_Format:FnIs Tryz.prog 113 10 [.tmp 2] c_acct_Format:=⟨⟨_,_,Tryz.func113,rfl,rfl,by kernel_rfl,by kernel_rfl⟩⟩
def c_mail_Parse:SCode :=
 .seq (.reg [⟨some 2,.alloc 91 [.s [],.s []],none⟩,
 ⟨some 3,.mv (.c (.i .i64 0)),none⟩])
 (.seq (.seq (.reg [⟨some 8,.mv (.t 0),none⟩,
 ⟨some 9,.lens (.t 8),none⟩,
 ⟨some 10,.bin .gtr (.t 9) (.c (.i .i64 4096)),none⟩])
 (.cond (.t 10)
 (.seq (.reg [⟨some 11,.build [.s [],.s []] [],none⟩,
 ⟨none,.store 2 (.t 2) (.t 11),none⟩,
 ⟨some 3,.mv (.c (.i .i64 5)),none⟩])
 (.ret))
 (.skip)))
 (.seq (.seq (.reg [⟨some 12,.mv (.t 0),none⟩,
 ⟨some 13,.lens (.t 12),none⟩,
 ⟨some 14,.bin .lss (.t 13) (.c (.i .i64 7)),none⟩,
 ⟨some 15,.mv (.t 14),none⟩,
 ⟨some 16,.mv (.t 0),some (15,false)⟩,
 ⟨some 17,.slcs (.t 16) none (some (.c (.i .i64 7))),some (15,false)⟩,
 ⟨some 18,.call 134 [.t 17,.c (.s [109,97,105,108,116,111,58])],some (15,false)⟩,
 ⟨some 19,.not (.t 18),some (15,false)⟩,
 ⟨some 20,.pick (.t 15) (.c (.b true)) (.t 19),none⟩])
 (.cond (.t 20)
 (.seq (.reg [⟨some 21,.build [.s [],.s []] [],none⟩,
 ⟨none,.store 2 (.t 2) (.t 21),none⟩,
 ⟨some 3,.mv (.c (.i .i64 60)),none⟩])
 (.ret))
 (.skip)))
 (.seq (.reg [⟨some 23,.mv (.t 0),none⟩,
 ⟨some 24,.slcs (.t 23) (some (.c (.i .i64 7))) none,none⟩,
 ⟨some 25,.call 88 [.t 24,.c (.s [64])],none⟩,
 ⟨some 22,.mv (.t 25),none⟩,
 ⟨some 26,.ext (.t 22) 0,none⟩,
 ⟨some 27,.ext (.t 22) 1,none⟩,
 ⟨some 28,.ext (.t 22) 2,none⟩,
 ⟨some 4,.mv (.t 26),none⟩,
 ⟨some 5,.mv (.t 27),none⟩,
 ⟨some 6,.mv (.t 28),none⟩])
 (.seq (.seq (.reg [⟨some 29,.mv (.t 6),none⟩,
 ⟨some 30,.not (.t 29),none⟩,
 ⟨some 31,.mv (.t 30),none⟩,
 ⟨some 32,.mv (.t 0),some (31,false)⟩,
 ⟨some 33,.call 138 [.t 32,.c (.s [63,35])],some (31,false)⟩,
 ⟨some 34,.pick (.t 31) (.c (.b true)) (.t 33),none⟩])
 (.cond (.t 34)
 (.seq (.reg [⟨some 35,.build [.s [],.s []] [],none⟩,
 ⟨none,.store 2 (.t 2) (.t 35),none⟩,
 ⟨some 3,.mv (.c (.i .i64 6)),none⟩])
 (.ret))
 (.skip)))
 (.seq (.reg [⟨some 37,.mv (.t 4),none⟩,
 ⟨some 38,.call 139 [.t 37],none⟩,
 ⟨some 36,.mv (.t 38),none⟩,
 ⟨some 39,.ext (.t 36) 0,none⟩,
 ⟨some 40,.ext (.t 36) 1,none⟩,
 ⟨some 4,.mv (.t 39),none⟩,
 ⟨some 7,.mv (.t 40),none⟩])
 (.seq (.seq (.reg [⟨some 41,.mv (.t 7),none⟩,
 ⟨some 42,.bin .neq (.t 41) (.c (.i .i64 0)),none⟩])
 (.cond (.t 42)
 (.seq (.reg [⟨some 43,.build [.s [],.s []] [],none⟩,
 ⟨some 44,.mv (.t 7),none⟩,
 ⟨none,.store 2 (.t 2) (.t 43),none⟩,
 ⟨some 3,.mv (.t 44),none⟩])
 (.ret))
 (.skip)))
 (.seq (.reg [⟨some 46,.mv (.t 5),none⟩,
 ⟨some 47,.call 137 [.t 46],none⟩,
 ⟨some 45,.mv (.t 47),none⟩,
 ⟨some 48,.ext (.t 45) 0,none⟩,
 ⟨some 49,.ext (.t 45) 1,none⟩,
 ⟨some 5,.mv (.t 48),none⟩,
 ⟨some 7,.mv (.t 49),none⟩])
 (.seq (.seq (.reg [⟨some 50,.mv (.t 7),none⟩,
 ⟨some 51,.bin .neq (.t 50) (.c (.i .i64 0)),none⟩])
 (.cond (.t 51)
 (.seq (.reg [⟨some 52,.build [.s [],.s []] [],none⟩,
 ⟨some 53,.mv (.t 7),none⟩,
 ⟨none,.store 2 (.t 2) (.t 52),none⟩,
 ⟨some 3,.mv (.t 53),none⟩])
 (.ret))
 (.skip)))
 (.seq (.seq (.reg [⟨some 54,.mv (.t 5),none⟩,
 ⟨some 55,.call 140 [.t 54],none⟩])
 (.cond (.t 55)
 (.seq (.reg [⟨some 56,.build [.s [],.s []] [],none⟩,
 ⟨none,.store 2 (.t 2) (.t 56),none⟩,
 ⟨some 3,.mv (.c (.i .i64 50)),none⟩])
 (.ret))
 (.skip)))
 (.seq (.reg [⟨some 57,.mv (.t 4),none⟩,
 ⟨some 58,.mv (.t 5),none⟩,
 ⟨some 59,.build [.s [],.s []] [(0,(1,.t 57)),(1,(1,.t 58))],none⟩,
 ⟨none,.store 2 (.t 2) (.t 59),none⟩,
 ⟨some 3,.mv (.c (.i .i64 0)),none⟩])
 (.ret)))))))))))
theorem is_mail_Parse:FnIs Tryz.prog 114 60 [.celln 2 2,.tmp 3] c_mail_Parse:=⟨⟨_,_,Tryz.func114,rfl,rfl,by kernel_rfl,by kernel_rfl⟩⟩
def c_mail_Format:SCode :=
 .seq (.reg [⟨some 1,.box 91 (.t 0),none⟩,
 ⟨some 2,.mv (.c (.s [])),none⟩])
 (.seq (.drw [⟨some 3,.fad 0 (.t 1),none⟩,
 ⟨some 4,.load1 (.t 3),none⟩,
 ⟨some 5,.call 141 [.t 4,.c (.s [33,36,39,42,43])],none⟩,
 ⟨some 6,.bin .add (.c (.s [109,97,105,108,116,111,58])) (.t 5),none⟩,
 ⟨some 7,.bin .add (.t 6) (.c (.s [64])),none⟩,
 ⟨some 8,.fad 1 (.t 1),none⟩,
 ⟨some 9,.load1 (.t 8),none⟩,
 ⟨some 10,.bin .add (.t 7) (.t 9),none⟩,
 ⟨some 2,.mv (.t 10),none⟩] 9 [])
 (.ret))
theorem is_mail_Format:FnIs Tryz.prog 115 11 [.tmp 2] c_mail_Format:=⟨⟨_,_,Tryz.func115,rfl,rfl,by kernel_rfl,by kernel_rfl⟩⟩
def c_weburl_Parse:SCode :=
 .seq (.reg [⟨some 2,.alloc 79 [.s [],.i .i64 0,.s [],.s [],.s [],.b false,.b false],none⟩,
 ⟨some 3,.mv (.c (.i .i64 0)),none⟩])
 (.seq (.seq (.reg [⟨some 8,.mv (.t 0),none⟩,
 ⟨some 9,.lens (.t 8),none⟩,
 ⟨some 10,.bin .gtr (.t 9) (.c (.i .i64 4096)),none⟩])
 (.cond (.t 10)
 (.seq (.reg [⟨some 11,.build [.s [],.i .i64 0,.s [],.s [],.s [],.b false,.b false] [],none⟩,
 ⟨none,.store 7 (.t 2) (.t 11),none⟩,
 ⟨some 3,.mv (.c (.i .i64 5)),none⟩])
 (.ret))
 (.skip)))
 (.seq (.reg [⟨some 13,.mv (.t 0),none⟩,
 ⟨some 14,.call 142 [.t 13],none⟩,
 ⟨some 12,.mv (.t 14),none⟩,
 ⟨some 15,.ext (.t 12) 0,none⟩,
 ⟨some 16,.ext (.t 12) 1,none⟩,
 ⟨some 4,.alloc 150 [.s [],.s [],.s [],.s [],.s [],.b false,.b false,.b false,.b false],none⟩,
 ⟨none,.store 9 (.t 4) (.t 15),none⟩,
 ⟨some 5,.mv (.t 16),none⟩])
 (.seq (.seq (.reg [⟨some 17,.mv (.t 5),none⟩,
 ⟨some 18,.bin .neq (.t 17) (.c (.i .i64 0)),none⟩])
 (.cond (.t 18)
 (.seq (.reg [⟨some 19,.build [.s [],.i .i64 0,.s [],.s [],.s [],.b false,.b false] [],none⟩,
 ⟨some 20,.mv (.t 5),none⟩,
 ⟨none,.store 7 (.t 2) (.t 19),none⟩,
 ⟨some 3,.mv (.t 20),none⟩])
 (.ret))
 (.skip)))
 (.seq (.reg [⟨some 22,.loadn 9 (.t 4),none⟩,
 ⟨some 23,.call 143 [.t 22],none⟩,
 ⟨some 21,.mv (.t 23),none⟩,
 ⟨some 24,.ext (.t 21) 0,none⟩,
 ⟨some 25,.ext (.t 21) 1,none⟩,
 ⟨some 6,.alloc 124 [.s [],.i .i64 0],none⟩,
 ⟨none,.store 2 (.t 6) (.t 24),none⟩,
 ⟨some 5,.mv (.t 25),none⟩])
 (.seq (.seq (.reg [⟨some 26,.mv (.t 5),none⟩,
 ⟨some 27,.bin .neq (.t 26) (.c (.i .i64 0)),none⟩])
 (.cond (.t 27)
 (.seq (.reg [⟨some 28,.build [.s [],.i .i64 0,.s [],.s [],.s [],.b false,.b false] [],none⟩,
 ⟨some 29,.mv (.t 5),none⟩,
 ⟨none,.store 7 (.t 2) (.t 28),none⟩,
 ⟨some 3,.mv (.t 29),none⟩])
 (.ret))
 (.skip)))
 (.seq (.reg [⟨some 31,.loadn 9 (.t 4),none⟩,
 ⟨some 32,.call 144 [.t 31],none⟩,
 ⟨some 30,.mv (.t 32),none⟩,
 ⟨some 33,.ext (.t 30) 0,none⟩,
 ⟨some 34,.ext (.t 30) 1,none⟩,
 ⟨some 7,.alloc 79 [.s [],.i .i64 0,.s [],.s [],.s [],.b false,.b false],none⟩,
 ⟨none,.store 7 (.t 7) (.t 33),none⟩,
 ⟨some 5,.mv (.t 34),none⟩])
 (.seq (.seq (.reg [⟨some 35,.mv (.t 5),none⟩,
 ⟨some 36,.bin .neq (.t 35) (.c (.i .i64 0)),none⟩])
 (.cond (.t 36)
 (.seq (.reg [⟨some 37,.build [.s [],.i .i64 0,.s [],.s [],.s [],.b false,.b false] [],none⟩,
 ⟨some 38,.mv (.t 5),none⟩,
 ⟨none,.store 7 (.t 2) (.t 37),none⟩,
 ⟨some 3,.mv (.t 38),none⟩])
 (.ret))
 (.skip)))
 (.seq (.drw [⟨some 39,.fad 0 (.t 6),none⟩,
 ⟨some 40,.load1 (.t 39),none⟩,
 ⟨some 41,.fad 1 (.t 6),none⟩,
 ⟨some 42,.load1 (.t 41),none⟩,
 ⟨some 43,.fad 0 (.t 7),none⟩,
 ⟨none,.store 1 (.t 43) (.t 40),none⟩,
 ⟨some 44,.fad 1 (.t 7),none⟩,
 ⟨none,.store 1 (.t 44) (.t 42),none⟩] 8 [(41,(43,none))])
 (.seq (.seq (.reg [⟨some 45,.loadn 7 (.t 7),none⟩,
 ⟨some 46,.call 117 [.t 45],none⟩,
 ⟨some 47,.lens (.t 46),none⟩,
 ⟨some 48,.bin .gtr (.t 47) (.c (.i .i64 4096)),none⟩])
 (.cond (.t 48)
 (.seq (.reg [⟨some 49,.build [.s [],.i .i64 0,.s [],.s [],.s [],.b false,.b false] [],none⟩,
 ⟨none,.store 7 (.t 2) (.t 49),none⟩,
 ⟨some 3,.mv (.c (.i .i64 5)),none⟩])
 (.ret))
 (.skip)))
 (.seq (.reg [⟨some 50,.loadn 7 (.t 7),none⟩,
 ⟨none,.store 7 (.t 2) (.t 50),none⟩,
 ⟨some 3,.mv (.c (.i .i64 0)),none⟩])
 (.ret)))))))))))
theorem is_weburl_Parse:FnIs Tryz.prog 116 51 [.celln 2 7,.tmp 3] c_weburl_Parse:=⟨⟨_,_,Tryz.func116,rfl,rfl,by kernel_rfl,by kernel_rfl⟩⟩
def c_weburl_Format:SCode :=
 .seq (.reg [⟨some 1,.box 79 (.t 0),none⟩,
 ⟨some 2,.mv (.c (.s [])),none⟩])
 (.seq (.drw [⟨some 4,.loadn 7 (.t 1),none⟩,
 ⟨some 5,.call 146 [.t 4],none⟩,
 ⟨some 6,.call 145 [.t 5],none⟩,
 ⟨some 7,.bin .add (.c (.s [104,116,116,112,115,58,47,47])) (.t 6),none⟩,
 ⟨some 8,.loadn 7 (.t 1),none⟩,
 ⟨some 9,.call 147 [.t 8],none⟩,
 ⟨some 10,.bin .add (.t 7) (.t 9),none⟩,
 ⟨some 3,.mv (.t 10),none⟩] 8 [])
 (.seq (.seq (.reg [⟨some 11,.fad 6 (.t 1),none⟩,
 ⟨some 12,.load1 (.t 11),none⟩])
 (.cond (.t 12)
 (.reg [⟨some 13,.mv (.t 3),none⟩,
 ⟨some 14,.fad 4 (.t 1),none⟩,
 ⟨some 15,.load1 (.t 14),none⟩,
 ⟨some 16,.bin .add (.c (.s [35])) (.t 15),none⟩,
 ⟨some 17,.bin .add (.t 13) (.t 16),none⟩,
 ⟨some 3,.mv (.t 17),none⟩])
 (.skip)))
 (.seq (.reg [⟨some 18,.mv (.t 3),none⟩,
 ⟨some 2,.mv (.t 18),none⟩])
 (.ret))))
theorem is_weburl_Format:FnIs Tryz.prog 117 19 [.tmp 2] c_weburl_Format:=⟨⟨_,_,Tryz.func117,rfl,rfl,by kernel_rfl,by kernel_rfl⟩⟩
def c_did_ParseDID:SCode :=
 .seq (.reg [⟨some 2,.alloc 119 [.s [],.s []],none⟩,
 ⟨some 3,.mv (.c (.i .i64 0)),none⟩])
 (.seq (.seq (.reg [⟨some 9,.mv (.t 0),none⟩,
 ⟨some 10,.lens (.t 9),none⟩,
 ⟨some 11,.bin .gtr (.t 10) (.c (.i .i64 4096)),none⟩])
 (.cond (.t 11)
 (.seq (.reg [⟨some 12,.build [.s [],.s []] [],none⟩,
 ⟨none,.store 2 (.t 2) (.t 12),none⟩,
 ⟨some 3,.mv (.c (.i .i64 5)),none⟩])
 (.ret))
 (.skip)))
 (.seq (.reg [⟨some 14,.mv (.t 0),none⟩,
 ⟨some 15,.call 148 [.t 14,.c (.s [100,105,100,58])],none⟩,
 ⟨some 13,.mv (.t 15),none⟩,
 ⟨some 16,.ext (.t 13) 0,none⟩,
 ⟨some 17,.ext (.t 13) 1,none⟩,
 ⟨some 4,.mv (.t 16),none⟩,
 ⟨some 5,.mv (.t 17),none⟩])
 (.seq (.seq (.reg [⟨some 18,.mv (.t 5),none⟩,
 ⟨some 19,.not (.t 18),none⟩])
 (.cond (.t 19)
 (.seq (.reg [⟨some 20,.build [.s [],.s []] [],none⟩,
 ⟨none,.store 2 (.t 2) (.t 20),none⟩,
 ⟨some 3,.mv (.c (.i .i64 60)),none⟩])
 (.ret))
 (.skip)))
 (.seq (.reg [⟨some 22,.mv (.t 4),none⟩,
 ⟨some 23,.call 88 [.t 22,.c (.s [58])],none⟩,
 ⟨some 21,.mv (.t 23),none⟩,
 ⟨some 24,.ext (.t 21) 0,none⟩,
 ⟨some 25,.ext (.t 21) 1,none⟩,
 ⟨some 26,.ext (.t 21) 2,none⟩,
 ⟨some 6,.mv (.t 24),none⟩,
 ⟨some 7,.mv (.t 25),none⟩,
 ⟨some 5,.mv (.t 26),none⟩])
 (.seq (.seq (.reg [⟨some 27,.mv (.t 5),none⟩,
 ⟨some 28,.not (.t 27),none⟩])
 (.cond (.t 28)
 (.seq (.reg [⟨some 29,.build [.s [],.s []] [],none⟩,
 ⟨none,.store 2 (.t 2) (.t 29),none⟩,
 ⟨some 3,.mv (.c (.i .i64 6)),none⟩])
 (.ret))
 (.skip)))
 (.seq (.seq (.reg [⟨some 30,.mv (.t 6),none⟩,
 ⟨some 31,.call 149 [.t 30],none⟩,
 ⟨some 32,.not (.t 31),none⟩])
 (.cond (.t 32)
 (.seq (.reg [⟨some 33,.build [.s [],.s []] [],none⟩,
 ⟨none,.store 2 (.t 2) (.t 33),none⟩,
 ⟨some 3,.mv (.c (.i .i64 100)),none⟩])
 (.ret))
 (.skip)))
 (.seq (.reg [⟨some 35,.mv (.t 7),none⟩,
 ⟨some 36,.call 150 [.t 35],none⟩,
 ⟨some 34,.mv (.t 36),none⟩,
 ⟨some 37,.ext (.t 34) 0,none⟩,
 ⟨some 38,.ext (.t 34) 1,none⟩,
 ⟨some 7,.mv (.t 37),none⟩,
 ⟨some 8,.mv (.t 38),none⟩])
 (.seq (.seq (.reg [⟨some 39,.mv (.t 8),none⟩,
 ⟨some 40,.bin .neq (.t 39) (.c (.i .i64 0)),none⟩])
 (.cond (.t 40)
 (.seq (.reg [⟨some 41,.build [.s [],.s []] [],none⟩,
 ⟨some 42,.mv (.t 8),none⟩,
 ⟨none,.store 2 (.t 2) (.t 41),none⟩,
 ⟨some 3,.mv (.t 42),none⟩])
 (.ret))
 (.skip)))
 (.seq (.reg [⟨some 43,.mv (.t 6),none⟩,
 ⟨some 44,.mv (.t 7),none⟩,
 ⟨some 45,.build [.s [],.s []] [(0,(1,.t 43)),(1,(1,.t 44))],none⟩,
 ⟨none,.store 2 (.t 2) (.t 45),none⟩,
 ⟨some 3,.mv (.c (.i .i64 0)),none⟩])
 (.ret))))))))))
theorem is_did_ParseDID:FnIs Tryz.prog 118 46 [.celln 2 2,.tmp 3] c_did_ParseDID:=⟨⟨_,_,Tryz.func118,rfl,rfl,by kernel_rfl,by kernel_rfl⟩⟩
def c_didweb_Canonical:SCode :=
 .seq (.reg [⟨some 1,.box 119 (.t 0),none⟩,
 ⟨some 2,.alloc 119 [.s [],.s []],none⟩,
 ⟨some 3,.mv (.c (.i .i64 0)),none⟩])
 (.seq (.reg [⟨some 7,.loadn 2 (.t 1),none⟩,
 ⟨some 8,.call 151 [.t 7],none⟩,
 ⟨some 6,.mv (.t 8),none⟩,
 ⟨some 9,.ext (.t 6) 0,none⟩,
 ⟨some 10,.ext (.t 6) 1,none⟩,
 ⟨some 4,.alloc 79 [.s [],.i .i64 0,.s [],.s [],.s [],.b false,.b false],none⟩,
 ⟨none,.store 7 (.t 4) (.t 9),none⟩,
 ⟨some 5,.mv (.t 10),none⟩])
 (.seq (.seq (.reg [⟨some 11,.mv (.t 5),none⟩,
 ⟨some 12,.bin .neq (.t 11) (.c (.i .i64 0)),none⟩])
 (.cond (.t 12)
 (.seq (.reg [⟨some 13,.build [.s [],.s []] [],none⟩,
 ⟨some 14,.mv (.t 5),none⟩,
 ⟨none,.store 2 (.t 2) (.t 13),none⟩,
 ⟨some 3,.mv (.t 14),none⟩])
 (.ret))
 (.skip)))
 (.seq (.reg [⟨some 15,.loadn 7 (.t 4),none⟩,
 ⟨some 16,.call 152 [.t 15],none⟩,
 ⟨some 17,.ext (.t 16) 0,none⟩,
 ⟨some 18,.ext (.t 16) 1,none⟩,
 ⟨none,.store 2 (.t 2) (.t 17),none⟩,
 ⟨some 3,.mv (.t 18),none⟩])
 (.ret))))
theorem is_didweb_Canonical:FnIs Tryz.prog 119 19 [.celln 2 2,.tmp 3] c_didweb_Canonical:=⟨⟨_,_,Tryz.func119,rfl,rfl,by kernel_rfl,by kernel_rfl⟩⟩
def c_didweb_Authority:SCode :=
 .seq (.reg [⟨some 1,.box 119 (.t 0),none⟩,
 ⟨some 2,.alloc 124 [.s [],.i .i64 0],none⟩,
 ⟨some 3,.mv (.c (.i .i64 0)),none⟩])
 (.seq (.seq (.reg [⟨some 11,.fad 0 (.t 1),none⟩,
 ⟨some 12,.load1 (.t 11),none⟩,
 ⟨some 13,.bin .neq (.t 12) (.c (.s [119,101,98])),none⟩])
 (.cond (.t 13)
 (.seq (.reg [⟨some 14,.build [.s [],.i .i64 0] [],none⟩,
 ⟨none,.store 2 (.t 2) (.t 14),none⟩,
 ⟨some 3,.mv (.c (.i .i64 100)),none⟩])
 (.ret))
 (.skip)))
 (.seq (.seq (.reg [⟨some 16,.loadn 2 (.t 1),none⟩,
 ⟨some 17,.call 121 [.t 16],none⟩,
 ⟨some 18,.call 118 [.t 17],none⟩,
 ⟨some 15,.mv (.t 18),none⟩,
 ⟨some 19,.ext (.t 15) 0,none⟩,
 ⟨some 20,.ext (.t 15) 1,none⟩,
 ⟨some 4,.alloc 119 [.s [],.s []],none⟩,
 ⟨none,.store 2 (.t 4) (.t 19),none⟩,
 ⟨some 5,.mv (.t 20),none⟩])
 (.seq (.reg [⟨some 21,.mv (.t 5),none⟩,
 ⟨some 22,.bin .neq (.t 21) (.c (.i .i64 0)),none⟩])
 (.cond (.t 22)
 (.seq (.reg [⟨some 23,.build [.s [],.i .i64 0] [],none⟩,
 ⟨some 24,.mv (.t 5),none⟩,
 ⟨none,.store 2 (.t 2) (.t 23),none⟩,
 ⟨some 3,.mv (.t 24),none⟩])
 (.ret))
 (.skip))))
 (.seq (.reg [⟨some 26,.fad 1 (.t 1),none⟩,
 ⟨some 27,.load1 (.t 26),none⟩,
 ⟨some 28,.call 88 [.t 27,.c (.s [58])],none⟩,
 ⟨some 25,.mv (.t 28),none⟩,
 ⟨some 29,.ext (.t 25) 0,none⟩,
 ⟨some 30,.ext (.t 25) 1,none⟩,
 ⟨some 31,.ext (.t 25) 2,none⟩,
 ⟨some 6,.mv (.t 29),none⟩,
 ⟨some 7,.mv (.t 30),none⟩,
 ⟨some 8,.mv (.t 31),none⟩])
 (.seq (.reg [⟨some 33,.mv (.t 6),none⟩,
 ⟨some 34,.call 153 [.t 33],none⟩,
 ⟨some 32,.mv (.t 34),none⟩,
 ⟨some 35,.ext (.t 32) 0,none⟩,
 ⟨some 36,.ext (.t 32) 1,none⟩,
 ⟨some 9,.mv (.t 35),none⟩,
 ⟨some 10,.mv (.t 36),none⟩])
 (.seq (.seq (.reg [⟨some 37,.mv (.t 10),none⟩,
 ⟨some 38,.bin .neq (.t 37) (.c (.i .i64 0)),none⟩])
 (.cond (.t 38)
 (.seq (.reg [⟨some 39,.build [.s [],.i .i64 0] [],none⟩,
 ⟨some 40,.mv (.t 10),none⟩,
 ⟨none,.store 2 (.t 2) (.t 39),none⟩,
 ⟨some 3,.mv (.t 40),none⟩])
 (.ret))
 (.skip)))
 (.seq (.reg [⟨some 41,.mv (.t 9),none⟩,
 ⟨some 42,.call 154 [.t 41],none⟩,
 ⟨some 43,.ext (.t 42) 0,none⟩,
 ⟨some 44,.ext (.t 42) 1,none⟩,
 ⟨none,.store 2 (.t 2) (.t 43),none⟩,
 ⟨some 3,.mv (.t 44),none⟩])
 (.ret)))))))
theorem is_didweb_Authority:FnIs Tryz.prog 120 45 [.celln 2 2,.tmp 3] c_didweb_Authority:=⟨⟨_,_,Tryz.func120,rfl,rfl,by kernel_rfl,by kernel_rfl⟩⟩
def c_did_FormatDID:SCode :=
 .seq (.reg [⟨some 1,.box 119 (.t 0),none⟩,
 ⟨some 2,.mv (.c (.s [])),none⟩])
 (.seq (.reg [⟨some 3,.fad 0 (.t 1),none⟩,
 ⟨some 4,.load1 (.t 3),none⟩,
 ⟨some 5,.bin .add (.c (.s [100,105,100,58])) (.t 4),none⟩,
 ⟨some 6,.bin .add (.t 5) (.c (.s [58])),none⟩,
 ⟨some 7,.fad 1 (.t 1),none⟩,
 ⟨some 8,.load1 (.t 7),none⟩,
 ⟨some 9,.bin .add (.t 6) (.t 8),none⟩,
 ⟨some 2,.mv (.t 9),none⟩])
 (.ret))
theorem is_did_FormatDID:FnIs Tryz.prog 121 10 [.tmp 2] c_did_FormatDID:=⟨⟨_,_,Tryz.func121,rfl,rfl,by kernel_rfl,by kernel_rfl⟩⟩
def c_ascii_lower:SCode :=
 .seq (.reg [⟨some 2,.mv (.c (.i .u8 0)),none⟩])
 (.seq (.seq (.reg [⟨some 3,.mv (.t 0),none⟩,
 ⟨some 4,.call 156 [.t 3],none⟩])
 (.cond (.t 4)
 (.seq (.reg [⟨some 5,.mv (.t 0),none⟩,
 ⟨some 6,.bin .add (.t 5) (.c (.i .u8 32)),none⟩,
 ⟨some 2,.mv (.t 6),none⟩])
 (.ret))
 (.skip)))
 (.seq (.reg [⟨some 7,.mv (.t 0),none⟩,
 ⟨some 2,.mv (.t 7),none⟩])
 (.ret)))
theorem is_ascii_lower:FnIs Tryz.prog 123 8 [.tmp 2] c_ascii_lower:=⟨⟨_,_,Tryz.func123,rfl,rfl,by kernel_rfl,by kernel_rfl⟩⟩
def c_ref01_IsHex:SCode :=
 .seq (.reg [⟨some 2,.mv (.c (.b false)),none⟩])
 (.seq (.reg [⟨some 3,.mv (.t 0),none⟩,
 ⟨some 4,.call 94 [.t 3],none⟩,
 ⟨some 5,.mv (.t 4),none⟩,
 ⟨some 6,.mv (.t 0),some (5,false)⟩,
 ⟨some 7,.bin .geq (.t 6) (.c (.i .u8 65)),some (5,false)⟩,
 ⟨some 8,.mv (.t 7),some (5,false)⟩,
 ⟨some 9,.mv (.t 0),some (8,true)⟩,
 ⟨some 10,.bin .leq (.t 9) (.c (.i .u8 70)),some (8,true)⟩,
 ⟨some 11,.pick (.t 8) (.t 10) (.c (.b false)),some (5,false)⟩,
 ⟨some 12,.pick (.t 5) (.c (.b true)) (.t 11),none⟩,
 ⟨some 13,.mv (.t 12),none⟩,
 ⟨some 14,.mv (.t 0),some (13,false)⟩,
 ⟨some 15,.bin .geq (.t 14) (.c (.i .u8 97)),some (13,false)⟩,
 ⟨some 16,.mv (.t 15),some (13,false)⟩,
 ⟨some 17,.mv (.t 0),some (16,true)⟩,
 ⟨some 18,.bin .leq (.t 17) (.c (.i .u8 102)),some (16,true)⟩,
 ⟨some 19,.pick (.t 16) (.t 18) (.c (.b false)),some (13,false)⟩,
 ⟨some 20,.pick (.t 13) (.c (.b true)) (.t 19),none⟩,
 ⟨some 2,.mv (.t 20),none⟩])
 (.ret))
theorem is_ref01_IsHex:FnIs Tryz.prog 124 21 [.tmp 2] c_ref01_IsHex:=⟨⟨_,_,Tryz.func124,rfl,rfl,by kernel_rfl,by kernel_rfl⟩⟩
def c_ref03_digit:SCode :=
 .seq (.reg [⟨some 2,.mv (.c (.i .u8 0)),none⟩])
 (.seq (.blk 0
 (.seq (.reg [⟨some 4,.mv (.t 0),none⟩,
 ⟨some 5,.bin .leq (.t 4) (.c (.i .u8 57)),none⟩,
 ⟨some 3,.mv (.t 5),none⟩])
 (.cond (.t 3)
 (.seq (.reg [⟨some 6,.mv (.t 0),none⟩,
 ⟨some 7,.bin .sub (.t 6) (.c (.i .u8 48)),none⟩,
 ⟨some 2,.mv (.t 7),none⟩])
 (.ret))
 (.seq (.reg [⟨some 9,.mv (.t 0),none⟩,
 ⟨some 10,.bin .leq (.t 9) (.c (.i .u8 70)),none⟩,
 ⟨some 8,.mv (.t 10),none⟩])
 (.cond (.t 8)
 (.seq (.reg [⟨some 11,.mv (.t 0),none⟩,
 ⟨some 12,.bin .sub (.t 11) (.c (.i .u8 65)),none⟩,
 ⟨some 13,.bin .add (.t 12) (.c (.i .u8 10)),none⟩,
 ⟨some 2,.mv (.t 13),none⟩])
 (.ret))
 (.skip))))))
 (.seq (.reg [⟨some 14,.mv (.t 0),none⟩,
 ⟨some 15,.bin .sub (.t 14) (.c (.i .u8 97)),none⟩,
 ⟨some 16,.bin .add (.t 15) (.c (.i .u8 10)),none⟩,
 ⟨some 2,.mv (.t 16),none⟩])
 (.ret)))
theorem is_ref03_digit:FnIs Tryz.prog 125 17 [.tmp 2] c_ref03_digit:=⟨⟨_,_,Tryz.func125,rfl,rfl,by kernel_rfl,by kernel_rfl⟩⟩
def c_ref05_label:SCode :=
 .seq (.reg [⟨some 2,.mv (.c (.b false)),none⟩])
 (.seq (.seq (.reg [⟨some 3,.mv (.c (.i .i64 0)),none⟩])
 (.blk 0
 (.loop
 (.seq (.seq (.reg [⟨some 4,.mv (.t 3),none⟩,
 ⟨some 5,.mv (.t 0),none⟩,
 ⟨some 6,.lens (.t 5),none⟩,
 ⟨some 7,.bin .lss (.t 4) (.t 6),none⟩])
 (.cond (.t 7)
 (.skip)
 (.exit 0)))
 (.seq (.blk 1
 (.seq (.reg [⟨some 10,.mv (.t 0),none⟩,
 ⟨some 11,.mv (.t 3),none⟩,
 ⟨some 12,.idx (.t 10) (.t 11),none⟩,
 ⟨some 13,.call 93 [.t 12],none⟩,
 ⟨some 14,.not (.t 13),none⟩,
 ⟨some 15,.mv (.t 14),none⟩,
 ⟨some 16,.mv (.t 0),some (15,true)⟩,
 ⟨some 17,.mv (.t 3),some (15,true)⟩,
 ⟨some 18,.idx (.t 16) (.t 17),some (15,true)⟩,
 ⟨some 19,.call 94 [.t 18],some (15,true)⟩,
 ⟨some 20,.not (.t 19),some (15,true)⟩,
 ⟨some 21,.pick (.t 15) (.t 20) (.c (.b false)),none⟩,
 ⟨some 22,.mv (.t 21),none⟩,
 ⟨some 23,.mv (.t 0),some (22,true)⟩,
 ⟨some 24,.mv (.t 3),some (22,true)⟩,
 ⟨some 25,.idx (.t 23) (.t 24),some (22,true)⟩,
 ⟨some 26,.bin .neq (.t 25) (.c (.i .u8 45)),some (22,true)⟩,
 ⟨some 27,.pick (.t 22) (.t 26) (.c (.b false)),none⟩])
 (.cond (.t 27)
 (.seq (.reg [⟨some 2,.mv (.c (.b false)),none⟩])
 (.ret))
 (.skip))))
 (.reg [⟨some 8,.mv (.t 3),none⟩,
 ⟨some 9,.bin .add (.t 8) (.c (.i .i64 1)),none⟩,
 ⟨some 3,.mv (.t 9),none⟩]))))))
 (.seq (.reg [⟨some 28,.mv (.t 0),none⟩,
 ⟨some 29,.bin .neq (.t 28) (.c (.s [])),none⟩,
 ⟨some 30,.mv (.t 29),none⟩,
 ⟨some 31,.mv (.t 0),some (30,true)⟩,
 ⟨some 32,.lens (.t 31),some (30,true)⟩,
 ⟨some 33,.bin .leq (.t 32) (.c (.i .i64 63)),some (30,true)⟩,
 ⟨some 34,.pick (.t 30) (.t 33) (.c (.b false)),none⟩,
 ⟨some 35,.mv (.t 34),none⟩,
 ⟨some 36,.mv (.t 0),some (35,true)⟩,
 ⟨some 37,.idx (.t 36) (.c (.i .i64 0)),some (35,true)⟩,
 ⟨some 38,.bin .neq (.t 37) (.c (.i .u8 45)),some (35,true)⟩,
 ⟨some 39,.pick (.t 35) (.t 38) (.c (.b false)),none⟩,
 ⟨some 40,.mv (.t 39),none⟩,
 ⟨some 41,.mv (.t 0),some (40,true)⟩,
 ⟨some 42,.mv (.t 0),some (40,true)⟩,
 ⟨some 43,.lens (.t 42),some (40,true)⟩,
 ⟨some 44,.bin .sub (.t 43) (.c (.i .i64 1)),some (40,true)⟩,
 ⟨some 45,.idx (.t 41) (.t 44),some (40,true)⟩,
 ⟨some 46,.bin .neq (.t 45) (.c (.i .u8 45)),some (40,true)⟩,
 ⟨some 47,.pick (.t 40) (.t 46) (.c (.b false)),none⟩,
 ⟨some 2,.mv (.t 47),none⟩])
 (.ret)))
theorem is_ref05_label:FnIs Tryz.prog 126 48 [.tmp 2] c_ref05_label:=⟨⟨_,_,Tryz.func126,rfl,rfl,by kernel_rfl,by kernel_rfl⟩⟩
def c_ref01_Digits:SCode :=
 .seq (.reg [⟨some 2,.mv (.c (.b false)),none⟩])
 (.seq (.seq (.reg [⟨some 3,.mv (.c (.i .i64 0)),none⟩])
 (.blk 0
 (.loop
 (.seq (.seq (.reg [⟨some 4,.mv (.t 3),none⟩,
 ⟨some 5,.mv (.t 0),none⟩,
 ⟨some 6,.lens (.t 5),none⟩,
 ⟨some 7,.bin .lss (.t 4) (.t 6),none⟩])
 (.cond (.t 7)
 (.skip)
 (.exit 0)))
 (.seq (.blk 1
 (.seq (.reg [⟨some 10,.mv (.t 0),none⟩,
 ⟨some 11,.mv (.t 3),none⟩,
 ⟨some 12,.idx (.t 10) (.t 11),none⟩,
 ⟨some 13,.call 94 [.t 12],none⟩,
 ⟨some 14,.not (.t 13),none⟩])
 (.cond (.t 14)
 (.seq (.reg [⟨some 2,.mv (.c (.b false)),none⟩])
 (.ret))
 (.skip))))
 (.reg [⟨some 8,.mv (.t 3),none⟩,
 ⟨some 9,.bin .add (.t 8) (.c (.i .i64 1)),none⟩,
 ⟨some 3,.mv (.t 9),none⟩]))))))
 (.seq (.reg [⟨some 15,.mv (.t 0),none⟩,
 ⟨some 16,.bin .neq (.t 15) (.c (.s [])),none⟩,
 ⟨some 2,.mv (.t 16),none⟩])
 (.ret)))
theorem is_ref01_Digits:FnIs Tryz.prog 127 17 [.tmp 2] c_ref01_Digits:=⟨⟨_,_,Tryz.func127,rfl,rfl,by kernel_rfl,by kernel_rfl⟩⟩
def c_ref04_parse:SCode :=
 .seq (.reg [⟨some 6,.mv (.c (.i .u64 0)),none⟩,
 ⟨some 7,.mv (.c (.i .i64 0)),none⟩])
 (.seq (.seq (.reg [⟨some 12,.mv (.t 0),none⟩,
 ⟨some 13,.bin .eql (.t 12) (.c (.s [])),none⟩])
 (.cond (.t 13)
 (.seq (.reg [⟨some 6,.mv (.c (.i .u64 0)),none⟩,
 ⟨some 7,.mv (.c (.i .i64 3)),none⟩])
 (.ret))
 (.skip)))
 (.seq (.seq (.reg [⟨some 8,.mv (.c (.i .i64 0)),none⟩])
 (.blk 0
 (.loop
 (.seq (.seq (.reg [⟨some 14,.mv (.t 8),none⟩,
 ⟨some 15,.mv (.t 0),none⟩,
 ⟨some 16,.lens (.t 15),none⟩,
 ⟨some 17,.bin .lss (.t 14) (.t 16),none⟩])
 (.cond (.t 17)
 (.skip)
 (.exit 0)))
 (.seq (.blk 1
 (.seq (.reg [⟨some 20,.mv (.t 1),none⟩,
 ⟨some 21,.bin .eql (.t 20) (.c (.i .u64 10)),none⟩,
 ⟨some 22,.mv (.t 21),none⟩,
 ⟨some 23,.mv (.t 0),some (22,true)⟩,
 ⟨some 24,.mv (.t 8),some (22,true)⟩,
 ⟨some 25,.idx (.t 23) (.t 24),some (22,true)⟩,
 ⟨some 26,.call 94 [.t 25],some (22,true)⟩,
 ⟨some 27,.not (.t 26),some (22,true)⟩,
 ⟨some 28,.pick (.t 22) (.t 27) (.c (.b false)),none⟩,
 ⟨some 29,.mv (.t 28),none⟩,
 ⟨some 30,.mv (.t 1),some (29,false)⟩,
 ⟨some 31,.bin .eql (.t 30) (.c (.i .u64 16)),some (29,false)⟩,
 ⟨some 32,.mv (.t 31),some (29,false)⟩,
 ⟨some 33,.mv (.t 0),some (32,true)⟩,
 ⟨some 34,.mv (.t 8),some (32,true)⟩,
 ⟨some 35,.idx (.t 33) (.t 34),some (32,true)⟩,
 ⟨some 36,.call 124 [.t 35],some (32,true)⟩,
 ⟨some 37,.not (.t 36),some (32,true)⟩,
 ⟨some 38,.pick (.t 32) (.t 37) (.c (.b false)),some (29,false)⟩,
 ⟨some 39,.pick (.t 29) (.c (.b true)) (.t 38),none⟩])
 (.cond (.t 39)
 (.seq (.reg [⟨some 6,.mv (.c (.i .u64 0)),none⟩,
 ⟨some 7,.mv (.c (.i .i64 1)),none⟩])
 (.ret))
 (.skip))))
 (.reg [⟨some 18,.mv (.t 8),none⟩,
 ⟨some 19,.bin .add (.t 18) (.c (.i .i64 1)),none⟩,
 ⟨some 8,.mv (.t 19),none⟩]))))))
 (.seq (.reg [⟨some 9,.mv (.c (.i .u64 0)),none⟩])
 (.seq (.seq (.reg [⟨some 10,.mv (.c (.i .i64 0)),none⟩])
 (.blk 2
 (.loop
 (.seq (.seq (.reg [⟨some 40,.mv (.t 10),none⟩,
 ⟨some 41,.mv (.t 0),none⟩,
 ⟨some 42,.lens (.t 41),none⟩,
 ⟨some 43,.bin .lss (.t 40) (.t 42),none⟩])
 (.cond (.t 43)
 (.skip)
 (.exit 2)))
 (.seq (.blk 3
 (.seq (.reg [⟨some 46,.mv (.t 0),none⟩,
 ⟨some 47,.mv (.t 10),none⟩,
 ⟨some 48,.idx (.t 46) (.t 47),none⟩,
 ⟨some 49,.bin .sub (.t 48) (.c (.i .u8 48)),none⟩,
 ⟨some 50,.cvi .u64 (.t 49),none⟩,
 ⟨some 11,.mv (.t 50),none⟩])
 (.seq (.seq (.reg [⟨some 51,.mv (.t 0),none⟩,
 ⟨some 52,.mv (.t 10),none⟩,
 ⟨some 53,.idx (.t 51) (.t 52),none⟩,
 ⟨some 54,.bin .gtr (.t 53) (.c (.i .u8 57)),none⟩])
 (.cond (.t 54)
 (.reg [⟨some 55,.mv (.t 0),none⟩,
 ⟨some 56,.mv (.t 10),none⟩,
 ⟨some 57,.idx (.t 55) (.t 56),none⟩,
 ⟨some 58,.pu (.bits .or) [.t 57,.c (.i .u8 32)],none⟩,
 ⟨some 59,.cvi .u64 (.t 58),none⟩,
 ⟨some 60,.bin .sub (.t 59) (.c (.i .u64 97)),none⟩,
 ⟨some 61,.bin .add (.t 60) (.c (.i .u64 10)),none⟩,
 ⟨some 11,.mv (.t 61),none⟩])
 (.skip)))
 (.seq (.seq (.reg [⟨some 62,.mv (.t 9),none⟩,
 ⟨some 63,.mv (.t 2),none⟩,
 ⟨some 64,.mv (.t 1),none⟩,
 ⟨some 65,.bin .quo (.t 63) (.t 64),none⟩,
 ⟨some 66,.bin .gtr (.t 62) (.t 65),none⟩,
 ⟨some 67,.mv (.t 66),none⟩,
 ⟨some 68,.mv (.t 9),some (67,false)⟩,
 ⟨some 69,.mv (.t 1),some (67,false)⟩,
 ⟨some 70,.bin .mul (.t 68) (.t 69),some (67,false)⟩,
 ⟨some 71,.mv (.t 2),some (67,false)⟩,
 ⟨some 72,.mv (.t 11),some (67,false)⟩,
 ⟨some 73,.bin .sub (.t 71) (.t 72),some (67,false)⟩,
 ⟨some 74,.bin .gtr (.t 70) (.t 73),some (67,false)⟩,
 ⟨some 75,.pick (.t 67) (.c (.b true)) (.t 74),none⟩,
 ⟨some 76,.mv (.t 75),none⟩,
 ⟨some 77,.mv (.t 11),some (76,false)⟩,
 ⟨some 78,.mv (.t 2),some (76,false)⟩,
 ⟨some 79,.bin .gtr (.t 77) (.t 78),some (76,false)⟩,
 ⟨some 80,.pick (.t 76) (.c (.b true)) (.t 79),none⟩])
 (.cond (.t 80)
 (.seq (.reg [⟨some 6,.mv (.c (.i .u64 0)),none⟩,
 ⟨some 7,.mv (.c (.i .i64 4)),none⟩])
 (.ret))
 (.skip)))
 (.reg [⟨some 81,.mv (.t 9),none⟩,
 ⟨some 82,.mv (.t 1),none⟩,
 ⟨some 83,.bin .mul (.t 81) (.t 82),none⟩,
 ⟨some 84,.mv (.t 11),none⟩,
 ⟨some 85,.bin .add (.t 83) (.t 84),none⟩,
 ⟨some 9,.mv (.t 85),none⟩])))))
 (.reg [⟨some 44,.mv (.t 10),none⟩,
 ⟨some 45,.bin .add (.t 44) (.c (.i .i64 1)),none⟩,
 ⟨some 10,.mv (.t 45),none⟩]))))))
 (.seq (.reg [⟨some 86,.mv (.t 9),none⟩,
 ⟨some 6,.mv (.t 86),none⟩,
 ⟨some 7,.mv (.c (.i .i64 0)),none⟩])
 (.ret))))))
theorem is_ref04_parse:FnIs Tryz.prog 128 87 [.tmp 6,.tmp 7] c_ref04_parse:=⟨⟨_,_,Tryz.func128,rfl,rfl,by kernel_rfl,by kernel_rfl⟩⟩
def c_ref06_scheme:SCode :=
 .seq (.reg [⟨some 2,.mv (.c (.b false)),none⟩])
 (.seq (.seq (.reg [⟨some 3,.mv (.c (.i .i64 0)),none⟩])
 (.blk 0
 (.loop
 (.seq (.seq (.reg [⟨some 4,.mv (.t 3),none⟩,
 ⟨some 5,.mv (.t 0),none⟩,
 ⟨some 6,.lens (.t 5),none⟩,
 ⟨some 7,.bin .lss (.t 4) (.t 6),none⟩])
 (.cond (.t 7)
 (.skip)
 (.exit 0)))
 (.seq (.blk 1
 (.seq (.reg [⟨some 10,.mv (.t 0),none⟩,
 ⟨some 11,.mv (.t 3),none⟩,
 ⟨some 12,.idx (.t 10) (.t 11),none⟩,
 ⟨some 13,.call 93 [.t 12],none⟩,
 ⟨some 14,.not (.t 13),none⟩,
 ⟨some 15,.mv (.t 14),none⟩,
 ⟨some 16,.mv (.t 3),some (15,true)⟩,
 ⟨some 17,.bin .eql (.t 16) (.c (.i .i64 0)),some (15,true)⟩,
 ⟨some 18,.mv (.t 17),some (15,true)⟩,
 ⟨some 19,.mv (.t 0),some (18,false)⟩,
 ⟨some 20,.mv (.t 3),some (18,false)⟩,
 ⟨some 21,.idx (.t 19) (.t 20),some (18,false)⟩,
 ⟨some 22,.call 94 [.t 21],some (18,false)⟩,
 ⟨some 23,.not (.t 22),some (18,false)⟩,
 ⟨some 24,.mv (.t 23),some (18,false)⟩,
 ⟨some 25,.mv (.t 0),some (24,true)⟩,
 ⟨some 26,.mv (.t 3),some (24,true)⟩,
 ⟨some 27,.idx (.t 25) (.t 26),some (24,true)⟩,
 ⟨some 28,.call 66 [.t 27,.c (.s [43,45,46])],some (24,true)⟩,
 ⟨some 29,.not (.t 28),some (24,true)⟩,
 ⟨some 30,.pick (.t 24) (.t 29) (.c (.b false)),some (18,false)⟩,
 ⟨some 31,.pick (.t 18) (.c (.b true)) (.t 30),some (15,true)⟩,
 ⟨some 32,.pick (.t 15) (.t 31) (.c (.b false)),none⟩])
 (.cond (.t 32)
 (.seq (.reg [⟨some 2,.mv (.c (.b false)),none⟩])
 (.ret))
 (.skip))))
 (.reg [⟨some 8,.mv (.t 3),none⟩,
 ⟨some 9,.bin .add (.t 8) (.c (.i .i64 1)),none⟩,
 ⟨some 3,.mv (.t 9),none⟩]))))))
 (.seq (.reg [⟨some 33,.mv (.t 0),none⟩,
 ⟨some 34,.bin .neq (.t 33) (.c (.s [])),none⟩,
 ⟨some 2,.mv (.t 34),none⟩])
 (.ret)))
theorem is_ref06_scheme:FnIs Tryz.prog 129 35 [.tmp 2] c_ref06_scheme:=⟨⟨_,_,Tryz.func129,rfl,rfl,by kernel_rfl,by kernel_rfl⟩⟩
def c_ref05_Port:SCode :=
 .seq (.reg [⟨some 2,.mv (.c (.i .i64 0)),none⟩,
 ⟨some 3,.mv (.c (.i .i64 0)),none⟩])
 (.seq (.reg [⟨some 7,.mv (.t 0),none⟩,
 ⟨some 8,.call 97 [.t 7,.c (.i .u64 65535)],none⟩,
 ⟨some 6,.mv (.t 8),none⟩,
 ⟨some 9,.ext (.t 6) 0,none⟩,
 ⟨some 10,.ext (.t 6) 1,none⟩,
 ⟨some 4,.mv (.t 9),none⟩,
 ⟨some 5,.mv (.t 10),none⟩])
 (.seq (.seq (.reg [⟨some 11,.mv (.t 5),none⟩,
 ⟨some 12,.bin .neq (.t 11) (.c (.i .i64 0)),none⟩,
 ⟨some 13,.mv (.t 12),none⟩,
 ⟨some 14,.mv (.t 4),some (13,false)⟩,
 ⟨some 15,.bin .eql (.t 14) (.c (.i .u64 0)),some (13,false)⟩,
 ⟨some 16,.pick (.t 13) (.c (.b true)) (.t 15),none⟩])
 (.cond (.t 16)
 (.seq (.reg [⟨some 2,.mv (.c (.i .i64 0)),none⟩,
 ⟨some 3,.mv (.c (.i .i64 51)),none⟩])
 (.ret))
 (.skip)))
 (.seq (.reg [⟨some 17,.mv (.t 4),none⟩,
 ⟨some 18,.cvi .i64 (.t 17),none⟩,
 ⟨some 2,.mv (.t 18),none⟩,
 ⟨some 3,.mv (.c (.i .i64 0)),none⟩])
 (.ret))))
theorem is_ref05_Port:FnIs Tryz.prog 130 19 [.tmp 2,.tmp 3] c_ref05_Port:=⟨⟨_,_,Tryz.func130,rfl,rfl,by kernel_rfl,by kernel_rfl⟩⟩
def c_ref06_shorten:SCode :=
 .seq (.reg [⟨some 2,.mv (.c (.s [])),none⟩])
 (.seq (.seq (.reg [⟨some 4,.mv (.t 0),none⟩,
 ⟨some 5,.lens (.t 4),none⟩,
 ⟨some 6,.bin .sub (.t 5) (.c (.i .i64 1)),none⟩,
 ⟨some 3,.mv (.t 6),none⟩])
 (.blk 0
 (.loop
 (.seq (.seq (.reg [⟨some 7,.mv (.t 3),none⟩,
 ⟨some 8,.bin .geq (.t 7) (.c (.i .i64 0)),none⟩])
 (.cond (.t 8)
 (.skip)
 (.exit 0)))
 (.seq (.blk 1
 (.seq (.reg [⟨some 11,.mv (.t 0),none⟩,
 ⟨some 12,.mv (.t 3),none⟩,
 ⟨some 13,.idx (.t 11) (.t 12),none⟩,
 ⟨some 14,.bin .eql (.t 13) (.c (.i .u8 47)),none⟩])
 (.cond (.t 14)
 (.seq (.reg [⟨some 15,.mv (.t 0),none⟩,
 ⟨some 16,.mv (.t 3),none⟩,
 ⟨some 17,.slcs (.t 15) none (some (.t 16)),none⟩,
 ⟨some 2,.mv (.t 17),none⟩])
 (.ret))
 (.skip))))
 (.reg [⟨some 9,.mv (.t 3),none⟩,
 ⟨some 10,.bin .sub (.t 9) (.c (.i .i64 1)),none⟩,
 ⟨some 3,.mv (.t 10),none⟩]))))))
 (.seq (.reg [⟨some 2,.mv (.c (.s [])),none⟩])
 (.ret)))
theorem is_ref06_shorten:FnIs Tryz.prog 131 18 [.tmp 2] c_ref06_shorten:=⟨⟨_,_,Tryz.func131,rfl,rfl,by kernel_rfl,by kernel_rfl⟩⟩
def c_ref05_Decimal:SCode :=
 .seq (.reg [⟨some 2,.mv (.c (.s [])),none⟩])
 (.seq (.seq (.reg [⟨some 3,.mv (.t 0),none⟩,
 ⟨some 4,.bin .lss (.t 3) (.c (.i .i64 0)),none⟩])
 (.cond (.t 4)
 (.seq (.reg [⟨some 5,.mv (.t 0),none⟩,
 ⟨some 6,.bin .add (.t 5) (.c (.i .i64 1)),none⟩,
 ⟨some 7,.neg (.t 6),none⟩,
 ⟨some 8,.cvi .u64 (.t 7),none⟩,
 ⟨some 9,.bin .add (.t 8) (.c (.i .u64 1)),none⟩,
 ⟨some 10,.call 157 [.t 9],none⟩,
 ⟨some 11,.bin .add (.c (.s [45])) (.t 10),none⟩,
 ⟨some 2,.mv (.t 11),none⟩])
 (.ret))
 (.skip)))
 (.seq (.reg [⟨some 12,.mv (.t 0),none⟩,
 ⟨some 13,.cvi .u64 (.t 12),none⟩,
 ⟨some 14,.call 157 [.t 13],none⟩,
 ⟨some 2,.mv (.t 14),none⟩])
 (.ret)))
theorem is_ref05_Decimal:FnIs Tryz.prog 132 15 [.tmp 2] c_ref05_Decimal:=⟨⟨_,_,Tryz.func132,rfl,rfl,by kernel_rfl,by kernel_rfl⟩⟩
def c_ref07_Valid:SCode :=
 .seq (.reg [⟨some 1,.box 79 (.t 0),none⟩,
 ⟨some 2,.mv (.c (.b false)),none⟩])
 (.seq (.reg [⟨some 6,.loadn 7 (.t 1),none⟩,
 ⟨some 7,.call 76 [.t 6],none⟩,
 ⟨some 8,.call 75 [.t 7],none⟩,
 ⟨some 5,.mv (.t 8),none⟩,
 ⟨some 9,.ext (.t 5) 0,none⟩,
 ⟨some 10,.ext (.t 5) 1,none⟩,
 ⟨some 3,.alloc 79 [.s [],.i .i64 0,.s [],.s [],.s [],.b false,.b false],none⟩,
 ⟨none,.store 7 (.t 3) (.t 9),none⟩,
 ⟨some 4,.mv (.t 10),none⟩])
 (.seq (.reg [⟨some 11,.mv (.t 4),none⟩,
 ⟨some 12,.bin .eql (.t 11) (.c (.i .i64 0)),none⟩,
 ⟨some 13,.mv (.t 12),none⟩,
 ⟨some 14,.loadn 7 (.t 1),some (13,true)⟩,
 ⟨some 15,.loadn 7 (.t 3),some (13,true)⟩,
 ⟨some 16,.eqs false (.str [(0,(none,.ts)),(1,(none,.ti)),(2,(none,.ts)),(3,(none,.ts)),(4,(none,.ts)),(5,(none,.tb)),(6,(none,.tb))]) (.t 14) (.t 15),some (13,true)⟩,
 ⟨some 17,.pick (.t 13) (.t 16) (.c (.b false)),none⟩,
 ⟨some 2,.mv (.t 17),none⟩])
 (.ret)))
theorem is_ref07_Valid:FnIs Tryz.prog 133 18 [.tmp 2] c_ref07_Valid:=⟨⟨_,_,Tryz.func133,rfl,rfl,by kernel_rfl,by kernel_rfl⟩⟩
def c_ascii_Equal:SCode :=
 .seq (.reg [⟨some 4,.mv (.c (.b false)),none⟩])
 (.seq (.seq (.reg [⟨some 6,.mv (.t 0),none⟩,
 ⟨some 7,.lens (.t 6),none⟩,
 ⟨some 8,.mv (.t 1),none⟩,
 ⟨some 9,.lens (.t 8),none⟩,
 ⟨some 10,.bin .neq (.t 7) (.t 9),none⟩])
 (.cond (.t 10)
 (.seq (.reg [⟨some 4,.mv (.c (.b false)),none⟩])
 (.ret))
 (.skip)))
 (.seq (.seq (.reg [⟨some 11,.mv (.t 0),none⟩,
 ⟨some 12,.lens (.t 11),none⟩,
 ⟨some 13,.mv (.c (.i .i64 0)),none⟩])
 (.blk 0
 (.loop
 (.seq (.reg [⟨some 14,.bin .lss (.t 13) (.t 12),none⟩])
 (.seq (.cond (.t 14)
 (.skip)
 (.exit 0))
 (.seq (.blk 1
 (.seq (.reg [⟨some 15,.mv (.t 13),none⟩,
 ⟨some 5,.mv (.t 15),none⟩])
 (.seq (.drw [⟨some 16,.mv (.t 0),none⟩,
 ⟨some 17,.mv (.t 5),none⟩,
 ⟨some 18,.idx (.t 16) (.t 17),none⟩,
 ⟨some 19,.call 123 [.t 18],none⟩,
 ⟨some 20,.mv (.t 1),none⟩,
 ⟨some 21,.mv (.t 5),none⟩,
 ⟨some 22,.idx (.t 20) (.t 21),none⟩,
 ⟨some 23,.call 123 [.t 22],none⟩,
 ⟨some 24,.bin .neq (.t 19) (.t 23),none⟩] 9 [])
 (.cond (.t 24)
 (.seq (.reg [⟨some 4,.mv (.c (.b false)),none⟩])
 (.ret))
 (.skip)))))
 (.reg [⟨some 25,.bin .add (.t 13) (.c (.i .i64 1)),none⟩,
 ⟨some 13,.mv (.t 25),none⟩])))))))
 (.seq (.reg [⟨some 4,.mv (.c (.b true)),none⟩])
 (.ret))))
theorem is_ascii_Equal:FnIs Tryz.prog 134 26 [.tmp 4] c_ascii_Equal:=⟨⟨_,_,Tryz.func134,rfl,rfl,by kernel_rfl,by kernel_rfl⟩⟩
def c_acct_cutParts:SCode :=
 .seq (.reg [⟨some 2,.mv (.c (.s [])),none⟩,
 ⟨some 3,.mv (.c (.s [])),none⟩,
 ⟨some 4,.mv (.c (.b false)),none⟩])
 (.seq (.reg [⟨some 5,.mv (.t 0),none⟩,
 ⟨some 6,.call 88 [.t 5,.c (.s [64])],none⟩,
 ⟨some 7,.ext (.t 6) 0,none⟩,
 ⟨some 8,.ext (.t 6) 1,none⟩,
 ⟨some 9,.ext (.t 6) 2,none⟩,
 ⟨some 2,.mv (.t 7),none⟩,
 ⟨some 3,.mv (.t 8),none⟩,
 ⟨some 4,.mv (.t 9),none⟩])
 (.ret))
theorem is_acct_cutParts:FnIs Tryz.prog 135 10 [.tmp 2,.tmp 3,.tmp 4] c_acct_cutParts:=⟨⟨_,_,Tryz.func135,rfl,rfl,by kernel_rfl,by kernel_rfl⟩⟩
def c_percent_Normalize:SCode :=
 .seq (.reg [⟨some 3,.box 9 (.t 1),none⟩,
 ⟨some 4,.mv (.c (.s [])),none⟩,
 ⟨some 5,.mv (.c (.i .i64 0)),none⟩])
 (.seq (.reg [⟨some 6,.mv (.t 0),none⟩,
 ⟨some 7,.mkf 159 [] [.t 3],none⟩,
 ⟨some 8,.call 158 [.t 6,.t 7],none⟩,
 ⟨some 9,.ext (.t 8) 0,none⟩,
 ⟨some 10,.ext (.t 8) 1,none⟩,
 ⟨some 4,.mv (.t 9),none⟩,
 ⟨some 5,.mv (.t 10),none⟩])
 (.ret))
theorem is_percent_Normalize:FnIs Tryz.prog 136 11 [.tmp 4,.tmp 5] c_percent_Normalize:=⟨⟨_,_,Tryz.func136,rfl,rfl,by kernel_rfl,by kernel_rfl⟩⟩
end Go.Proofs.YtbeoijfmfkifeaaGreatDoor.Sx
