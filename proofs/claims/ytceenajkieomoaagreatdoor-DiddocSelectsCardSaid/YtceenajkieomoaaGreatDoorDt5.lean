/- The texts that the proofs of these statements reach, in their order, as few files. -/
import Derived.Test.YtceenajkieomoaaGreatDoorProg
import Derived.Laws.BitsAllLaws
import Derived.Laws.BitsLemmas
import Derived.Lib.IndexAny
import Derived.Shelf.Strings.IndexAnyAll
import Derived.Test.YtceenajkieomoaaGreatDoorDt4
set_option linter.unusedVariables false
set_option linter.unusedSimpArgs false
set_option maxRecDepth 100000
namespace Go.Proofs.YtceenajkieomoaaGreatDoor.Sx
open Go.RowKit
open Option renaming some -> Sa, none -> Sb
def c_law17_DiddocSelects:SCode :=.seq (.reg [⟨Sa 4,.mv (.c (.b false)),Sb⟩]) (.seq (.seq (.reg [⟨Sa 12,.call 7 [],Sb⟩,⟨Sa 13,.not (.t 12),Sb⟩]) (.cond (.t 13) (.seq (.reg [⟨Sa 4,.mv (.c (.b false)),Sb⟩]) (.ret)) (.skip))) (.seq (.seq (.reg [⟨Sa 14,.mv (.t 0),Sb⟩,⟨Sa 15,.lens (.t 14),Sb⟩,⟨Sa 16,.bin .gtr (.t 15) (.c (.i .i64 3000)),Sb⟩,⟨Sa 17,.mv (.t 16),Sb⟩,⟨Sa 18,.mv (.t 1),some (17,false)⟩,⟨Sa 19,.lens (.t 18),some (17,false)⟩,⟨Sa 20,.bin .gtr (.t 19) (.c (.i .i64 300)),some (17,false)⟩,⟨Sa 21,.pick (.t 17) (.c (.b true)) (.t 20),Sb⟩]) (.cond (.t 21) (.seq (.reg [⟨Sa 4,.mv (.c (.b true)),Sb⟩]) (.ret)) (.skip))) (.seq (.reg [⟨Sa 23,.mv (.t 0),Sb⟩,⟨Sa 24,.call 9 [.t 23],Sb⟩,⟨Sa 22,.mv (.t 24),Sb⟩,⟨Sa 25,.ext (.t 22) 0,Sb⟩,⟨Sa 26,.ext (.t 22) 1,Sb⟩,⟨Sa 27,.ext (.t 22) 2,Sb⟩,⟨Sa 5,.alloc 25 [.i .i64 0,.s [],.nil,.nil],Sb⟩,⟨Sb,.store 4 (.t 5) (.t 25),Sb⟩,⟨Sa 6,.mv (.t 26),Sb⟩,⟨Sa 7,.mv (.t 27),Sb⟩]) (.seq (.reg [⟨Sa 29,.loadn 4 (.t 5),Sb⟩,⟨Sa 30,.mv (.t 1),Sb⟩,⟨Sa 31,.call 13 [.t 29,.t 30],Sb⟩,⟨Sa 28,.mv (.t 31),Sb⟩,⟨Sa 32,.ext (.t 28) 0,Sb⟩,⟨Sa 33,.ext (.t 28) 1,Sb⟩,⟨Sa 8,.alloc 25 [.i .i64 0,.s [],.nil,.nil],Sb⟩,⟨Sb,.store 4 (.t 8) (.t 32),Sb⟩,⟨Sa 9,.mv (.t 33),Sb⟩]) (.seq (.reg [⟨Sa 35,.loadn 4 (.t 5),Sb⟩,⟨Sa 36,.mv (.t 1),Sb⟩,⟨Sa 37,.call 14 [.t 35,.t 36],Sb⟩,⟨Sa 34,.mv (.t 37),Sb⟩,⟨Sa 38,.ext (.t 34) 0,Sb⟩,⟨Sa 39,.ext (.t 34) 1,Sb⟩,⟨Sa 10,.alloc 25 [.i .i64 0,.s [],.nil,.nil],Sb⟩,⟨Sb,.store 4 (.t 10) (.t 38),Sb⟩,⟨Sa 11,.mv (.t 39),Sb⟩]) (.seq (.reg [⟨Sa 40,.mv (.t 9),Sb⟩,⟨Sa 41,.mv (.t 11),Sb⟩,⟨Sa 42,.beq false (.t 40) (.t 41),Sb⟩,⟨Sa 43,.mv (.t 42),Sb⟩,⟨Sa 44,.loadn 4 (.t 8),some (43,true)⟩,⟨Sa 45,.loadn 4 (.t 10),some (43,true)⟩,⟨Sa 46,.call 15 [.t 44,.t 45],some (43,true)⟩,⟨Sa 47,.pick (.t 43) (.t 46) (.c (.b false)),Sb⟩,⟨Sa 4,.mv (.t 47),Sb⟩]) (.ret)))))))
theorem is_law17_DiddocSelects:FnIs Tryz.prog 4 48 [.tmp 4] c_law17_DiddocSelects:=⟨⟨_,_,Tryz.func4,rfl,rfl,by kernel_rfl,by kernel_rfl⟩⟩
def c_law17_sane:SCode :=.seq (.reg [⟨Sa 0,.mv (.c (.b false)),Sb⟩]) (.seq (.reg [⟨Sa 9,.call 9 [.c (.s [123,34,105,100,34,58,34,100,105,100,58,119,101,98,58,97,46,101,120,97,109,112,108,101,34,44,34,115,101,114,118,105,99,101,34,58,91,123,34,105,100,34,58,34,35,102,105,108,101,115,34,44,34,116,121,112,101,34,58,34,88,34,44,34,115,101,114,118,105,99,101,69,110,100,112,111,105,110,116,34,58,34,104,116,116,112,115,58,47,47,97,46,101,120,97,109,112,108,101,47,102,47,34,125,93,125])],Sb⟩,⟨Sa 8,.mv (.t 9),Sb⟩,⟨Sa 10,.ext (.t 8) 0,Sb⟩,⟨Sa 11,.ext (.t 8) 1,Sb⟩,⟨Sa 12,.ext (.t 8) 2,Sb⟩,⟨Sa 1,.alloc 25 [.i .i64 0,.s [],.nil,.nil],Sb⟩,⟨Sb,.store 4 (.t 1) (.t 10),Sb⟩,⟨Sa 2,.mv (.t 11),Sb⟩,⟨Sa 3,.mv (.t 12),Sb⟩]) (.seq (.reg [⟨Sa 14,.loadn 4 (.t 1),Sb⟩,⟨Sa 15,.call 10 [.t 14],Sb⟩,⟨Sa 13,.mv (.t 15),Sb⟩,⟨Sa 16,.ext (.t 13) 0,Sb⟩,⟨Sa 17,.ext (.t 13) 1,Sb⟩,⟨Sa 4,.alloc 34 [.s [],.nil,.nil,.nil,.nil],Sb⟩,⟨Sb,.store 5 (.t 4) (.t 16),Sb⟩,⟨Sa 5,.mv (.t 17),Sb⟩]) (.seq (.reg [⟨Sa 19,.loadn 4 (.t 1),Sb⟩,⟨Sa 20,.call 13 [.t 19,.c (.s [100,105,100,58,119,101,98,58,97,46,101,120,97,109,112,108,101,35,102,105,108,101,115])],Sb⟩,⟨Sa 18,.mv (.t 20),Sb⟩,⟨Sa 21,.ext (.t 18) 0,Sb⟩,⟨Sa 22,.ext (.t 18) 1,Sb⟩,⟨Sa 6,.alloc 25 [.i .i64 0,.s [],.nil,.nil],Sb⟩,⟨Sb,.store 4 (.t 6) (.t 21),Sb⟩,⟨Sa 7,.mv (.t 22),Sb⟩]) (.seq (.reg [⟨Sa 23,.mv (.t 5),Sb⟩,⟨Sa 24,.bin .eql (.t 23) (.c (.i .i64 0)),Sb⟩,⟨Sa 25,.mv (.t 24),Sb⟩,⟨Sa 26,.fad 4 (.t 4),some (25,true)⟩,⟨Sa 27,.load1 (.t 26),some (25,true)⟩,⟨Sa 28,.lenr (.t 27),some (25,true)⟩,⟨Sa 29,.bin .eql (.t 28) (.c (.i .i64 1)),some (25,true)⟩,⟨Sa 30,.pick (.t 25) (.t 29) (.c (.b false)),Sb⟩,⟨Sa 31,.mv (.t 30),Sb⟩,⟨Sa 32,.fad 4 (.t 4),some (31,true)⟩,⟨Sa 33,.load1 (.t 32),some (31,true)⟩,⟨Sa 34,.iad 3 (.t 33) (.c (.i .i64 0)),some (31,true)⟩,⟨Sa 35,.fad 0 (.t 34),some (31,true)⟩,⟨Sa 36,.load1 (.t 35),some (31,true)⟩,⟨Sa 37,.bin .eql (.t 36) (.c (.s [100,105,100,58,119,101,98,58,97,46,101,120,97,109,112,108,101,35,102,105,108,101,115])),some (31,true)⟩,⟨Sa 38,.pick (.t 31) (.t 37) (.c (.b false)),Sb⟩,⟨Sa 39,.mv (.t 38),Sb⟩,⟨Sa 40,.fad 4 (.t 4),some (39,true)⟩,⟨Sa 41,.load1 (.t 40),some (39,true)⟩,⟨Sa 42,.iad 3 (.t 41) (.c (.i .i64 0)),some (39,true)⟩,⟨Sa 43,.fad 2 (.t 42),some (39,true)⟩,⟨Sa 44,.load1 (.t 43),some (39,true)⟩,⟨Sa 45,.lenr (.t 44),some (39,true)⟩,⟨Sa 46,.bin .eql (.t 45) (.c (.i .i64 1)),some (39,true)⟩,⟨Sa 47,.pick (.t 39) (.t 46) (.c (.b false)),Sb⟩,⟨Sa 48,.mv (.t 47),Sb⟩,⟨Sa 49,.mv (.t 7),some (48,true)⟩,⟨Sa 50,.pick (.t 48) (.t 49) (.c (.b false)),Sb⟩,⟨Sa 51,.mv (.t 50),Sb⟩,⟨Sa 52,.fad 0 (.t 6),some (51,true)⟩,⟨Sa 53,.load1 (.t 52),some (51,true)⟩,⟨Sa 54,.bin .eql (.t 53) (.c (.i .i64 7)),some (51,true)⟩,⟨Sa 55,.pick (.t 51) (.t 54) (.c (.b false)),Sb⟩,⟨Sa 0,.mv (.t 55),Sb⟩]) (.ret)))))
theorem is_law17_sane:FnIs Tryz.prog 7 56 [.tmp 0] c_law17_sane:=⟨⟨_,_,Tryz.func7,rfl,rfl,by kernel_rfl,by kernel_rfl⟩⟩
def c_ref14_Parse:SCode :=.seq (.reg [⟨Sa 2,.alloc 25 [.i .i64 0,.s [],.nil,.nil],Sb⟩,⟨Sa 3,.mv (.c (.i .i64 0)),Sb⟩,⟨Sa 4,.mv (.c (.i .i64 0)),Sb⟩]) (.seq (.seq (.reg [⟨Sa 8,.mv (.t 0),Sb⟩,⟨Sa 9,.lens (.t 8),Sb⟩,⟨Sa 10,.bin .gtr (.t 9) (.c (.i .i64 1048576)),Sb⟩]) (.cond (.t 10) (.seq (.reg [⟨Sa 11,.build [.i .i64 0,.s [],.nil,.nil] [],Sb⟩,⟨Sb,.store 4 (.t 2) (.t 11),Sb⟩,⟨Sa 3,.mv (.c (.i .i64 0)),Sb⟩,⟨Sa 4,.mv (.c (.i .i64 142)),Sb⟩]) (.ret)) (.skip))) (.seq (.reg [⟨Sa 12,.mv (.t 0),Sb⟩,⟨Sa 13,.build [.s [],.i .i64 0,.i .i64 0,.i .i64 0,.i .i64 0] [(0,(1,.t 12))],Sb⟩,⟨Sa 14,.box 53 (.t 13),Sb⟩,⟨Sa 5,.mv (.t 14),Sb⟩]) (.seq (.reg [⟨Sa 15,.mv (.t 5),Sb⟩,⟨Sa 16,.mv (.t 5),Sb⟩,⟨Sa 17,.call 21 [.t 16],Sb⟩,⟨Sa 18,.call 20 [.t 15,.t 17,.c (.i .i64 0)],Sb⟩,⟨Sa 6,.alloc 25 [.i .i64 0,.s [],.nil,.nil],Sb⟩,⟨Sb,.store 4 (.t 6) (.t 18),Sb⟩]) (.seq (.seq (.reg [⟨Sa 19,.mv (.t 5),Sb⟩,⟨Sa 20,.call 21 [.t 19],Sb⟩,⟨Sa 7,.alloc 56 [.i .i64 0,.s [],.i .i64 0],Sb⟩,⟨Sb,.store 3 (.t 7) (.t 20),Sb⟩]) (.seq (.reg [⟨Sa 21,.mv (.t 5),Sb⟩,⟨Sa 22,.nck (.t 21),Sb⟩,⟨Sa 23,.fad 3 (.t 22),Sb⟩,⟨Sa 24,.load1 (.t 23),Sb⟩,⟨Sa 25,.bin .eql (.t 24) (.c (.i .i64 0)),Sb⟩,⟨Sa 26,.mv (.t 25),Sb⟩,⟨Sa 27,.fad 0 (.t 7),some (26,true)⟩,⟨Sa 28,.load1 (.t 27),some (26,true)⟩,⟨Sa 29,.bin .neq (.t 28) (.c (.i .i64 1)),some (26,true)⟩,⟨Sa 30,.pick (.t 26) (.t 29) (.c (.b false)),Sb⟩]) (.cond (.t 30) (.reg [⟨Sa 31,.mv (.t 5),Sb⟩,⟨Sa 32,.fad 2 (.t 7),Sb⟩,⟨Sa 33,.load1 (.t 32),Sb⟩,⟨Sa 34,.call 22 [.t 31,.t 33,.c (.i .i64 140)],Sb⟩]) (.skip)))) (.seq (.seq (.reg [⟨Sa 35,.mv (.t 5),Sb⟩,⟨Sa 36,.nck (.t 35),Sb⟩,⟨Sa 37,.fad 3 (.t 36),Sb⟩,⟨Sa 38,.load1 (.t 37),Sb⟩,⟨Sa 39,.bin .neq (.t 38) (.c (.i .i64 0)),Sb⟩]) (.cond (.t 39) (.seq (.drw [⟨Sa 40,.build [.i .i64 0,.s [],.nil,.nil] [],Sb⟩,⟨Sa 41,.mv (.t 5),Sb⟩,⟨Sa 42,.nck (.t 41),Sb⟩,⟨Sa 43,.fad 4 (.t 42),Sb⟩,⟨Sa 44,.load1 (.t 43),Sb⟩,⟨Sa 45,.mv (.t 5),Sb⟩,⟨Sa 46,.nck (.t 45),Sb⟩,⟨Sa 47,.fad 3 (.t 46),Sb⟩,⟨Sa 48,.load1 (.t 47),Sb⟩,⟨Sb,.store 4 (.t 2) (.t 40),Sb⟩,⟨Sa 3,.mv (.t 44),Sb⟩,⟨Sa 4,.mv (.t 48),Sb⟩] 12 [(43,(2,none)),(47,(2,none))]) (.ret)) (.skip))) (.seq (.reg [⟨Sa 49,.loadn 4 (.t 6),Sb⟩,⟨Sa 50,.mv (.t 0),Sb⟩,⟨Sa 51,.lens (.t 50),Sb⟩,⟨Sb,.store 4 (.t 2) (.t 49),Sb⟩,⟨Sa 3,.mv (.t 51),Sb⟩,⟨Sa 4,.mv (.c (.i .i64 0)),Sb⟩]) (.ret)))))))
theorem is_ref14_Parse:FnIs Tryz.prog 9 52 [.celln 2 4,.tmp 3,.tmp 4] c_ref14_Parse:=⟨⟨_,_,Tryz.func9,rfl,rfl,by kernel_rfl,by kernel_rfl⟩⟩
def c_diddoc_Decode:SCode :=.seq (.reg [⟨Sa 1,.box 25 (.t 0),Sb⟩,⟨Sa 2,.alloc 34 [.s [],.nil,.nil,.nil,.nil],Sb⟩,⟨Sa 3,.mv (.c (.i .i64 0)),Sb⟩]) (.seq (.reg [⟨Sa 16,.loadn 4 (.t 1),Sb⟩,⟨Sa 17,.call 23 [.t 16],Sb⟩,⟨Sa 4,.mv (.t 17),Sb⟩]) (.seq (.reg [⟨Sa 19,.loadn 4 (.t 1),Sb⟩,⟨Sa 20,.call 24 [.t 19],Sb⟩,⟨Sa 18,.mv (.t 20),Sb⟩,⟨Sa 21,.ext (.t 18) 0,Sb⟩,⟨Sa 22,.ext (.t 18) 1,Sb⟩,⟨Sa 5,.alloc 62 [.s [],.s []],Sb⟩,⟨Sb,.store 2 (.t 5) (.t 21),Sb⟩,⟨Sa 6,.mv (.t 22),Sb⟩]) (.seq (.seq (.reg [⟨Sa 23,.mv (.t 6),Sb⟩,⟨Sa 24,.bin .neq (.t 23) (.c (.i .i64 0)),Sb⟩]) (.cond (.t 24) (.seq (.reg [⟨Sa 25,.build [.s [],.nil,.nil,.nil,.nil] [],Sb⟩,⟨Sa 26,.mv (.t 6),Sb⟩,⟨Sb,.store 5 (.t 2) (.t 25),Sb⟩,⟨Sa 3,.mv (.t 26),Sb⟩]) (.ret)) (.skip))) (.seq (.reg [⟨Sa 27,.loadn 2 (.t 5),Sb⟩,⟨Sa 28,.call 25 [.t 27],Sb⟩,⟨Sa 29,.build [.s [],.nil,.nil,.nil,.nil] [(0,(1,.t 28))],Sb⟩,⟨Sa 7,.alloc 34 [.s [],.nil,.nil,.nil,.nil],Sb⟩,⟨Sb,.store 5 (.t 7) (.t 29),Sb⟩]) (.seq (.seq (.reg [⟨Sa 31,.mv (.t 4),Sb⟩,⟨Sa 32,.callv (.t 31) [.c (.s [97,108,115,111,75,110,111,119,110,65,115])],Sb⟩,⟨Sa 30,.mv (.t 32),Sb⟩,⟨Sa 33,.ext (.t 30) 0,Sb⟩,⟨Sa 34,.ext (.t 30) 1,Sb⟩,⟨Sa 8,.alloc 25 [.i .i64 0,.s [],.nil,.nil],Sb⟩,⟨Sb,.store 4 (.t 8) (.t 33),Sb⟩,⟨Sa 9,.mv (.t 34),Sb⟩]) (.seq (.reg [⟨Sa 35,.mv (.t 9),Sb⟩]) (.cond (.t 35) (.seq (.reg [⟨Sa 37,.loadn 4 (.t 8),Sb⟩,⟨Sa 38,.call 26 [.t 37],Sb⟩,⟨Sa 36,.mv (.t 38),Sb⟩,⟨Sa 39,.ext (.t 36) 0,Sb⟩,⟨Sa 40,.ext (.t 36) 1,Sb⟩,⟨Sa 41,.fad 1 (.t 7),Sb⟩,⟨Sb,.store 1 (.t 41) (.t 39),Sb⟩,⟨Sa 6,.mv (.t 40),Sb⟩]) (.seq (.reg [⟨Sa 42,.mv (.t 6),Sb⟩,⟨Sa 43,.bin .neq (.t 42) (.c (.i .i64 0)),Sb⟩]) (.cond (.t 43) (.seq (.reg [⟨Sa 44,.build [.s [],.nil,.nil,.nil,.nil] [],Sb⟩,⟨Sa 45,.mv (.t 6),Sb⟩,⟨Sb,.store 5 (.t 2) (.t 44),Sb⟩,⟨Sa 3,.mv (.t 45),Sb⟩]) (.ret)) (.skip)))) (.skip)))) (.seq (.seq (.reg [⟨Sa 47,.mv (.t 4),Sb⟩,⟨Sa 48,.callv (.t 47) [.c (.s [99,111,110,116,114,111,108,108,101,114])],Sb⟩,⟨Sa 46,.mv (.t 48),Sb⟩,⟨Sa 49,.ext (.t 46) 0,Sb⟩,⟨Sa 50,.ext (.t 46) 1,Sb⟩,⟨Sa 10,.alloc 25 [.i .i64 0,.s [],.nil,.nil],Sb⟩,⟨Sb,.store 4 (.t 10) (.t 49),Sb⟩,⟨Sa 11,.mv (.t 50),Sb⟩]) (.seq (.reg [⟨Sa 51,.mv (.t 11),Sb⟩]) (.cond (.t 51) (.seq (.reg [⟨Sa 53,.loadn 4 (.t 10),Sb⟩,⟨Sa 54,.call 27 [.t 53],Sb⟩,⟨Sa 52,.mv (.t 54),Sb⟩,⟨Sa 55,.ext (.t 52) 0,Sb⟩,⟨Sa 56,.ext (.t 52) 1,Sb⟩,⟨Sa 57,.fad 2 (.t 7),Sb⟩,⟨Sb,.store 1 (.t 57) (.t 55),Sb⟩,⟨Sa 6,.mv (.t 56),Sb⟩]) (.seq (.reg [⟨Sa 58,.mv (.t 6),Sb⟩,⟨Sa 59,.bin .neq (.t 58) (.c (.i .i64 0)),Sb⟩]) (.cond (.t 59) (.seq (.reg [⟨Sa 60,.build [.s [],.nil,.nil,.nil,.nil] [],Sb⟩,⟨Sa 61,.mv (.t 6),Sb⟩,⟨Sb,.store 5 (.t 2) (.t 60),Sb⟩,⟨Sa 3,.mv (.t 61),Sb⟩]) (.ret)) (.skip)))) (.skip)))) (.seq (.seq (.reg [⟨Sa 63,.mv (.t 4),Sb⟩,⟨Sa 64,.callv (.t 63) [.c (.s [118,101,114,105,102,105,99,97,116,105,111,110,77,101,116,104,111,100])],Sb⟩,⟨Sa 62,.mv (.t 64),Sb⟩,⟨Sa 65,.ext (.t 62) 0,Sb⟩,⟨Sa 66,.ext (.t 62) 1,Sb⟩,⟨Sa 12,.alloc 25 [.i .i64 0,.s [],.nil,.nil],Sb⟩,⟨Sb,.store 4 (.t 12) (.t 65),Sb⟩,⟨Sa 13,.mv (.t 66),Sb⟩]) (.seq (.reg [⟨Sa 67,.mv (.t 13),Sb⟩]) (.cond (.t 67) (.seq (.reg [⟨Sa 69,.loadn 4 (.t 12),Sb⟩,⟨Sa 70,.loadn 2 (.t 5),Sb⟩,⟨Sa 71,.call 28 [.t 69,.t 70,.c (.fn 29 [] [])],Sb⟩,⟨Sa 68,.mv (.t 71),Sb⟩,⟨Sa 72,.ext (.t 68) 0,Sb⟩,⟨Sa 73,.ext (.t 68) 1,Sb⟩,⟨Sa 74,.fad 3 (.t 7),Sb⟩,⟨Sb,.store 1 (.t 74) (.t 72),Sb⟩,⟨Sa 6,.mv (.t 73),Sb⟩]) (.seq (.reg [⟨Sa 75,.mv (.t 6),Sb⟩,⟨Sa 76,.bin .neq (.t 75) (.c (.i .i64 0)),Sb⟩]) (.cond (.t 76) (.seq (.reg [⟨Sa 77,.build [.s [],.nil,.nil,.nil,.nil] [],Sb⟩,⟨Sa 78,.mv (.t 6),Sb⟩,⟨Sb,.store 5 (.t 2) (.t 77),Sb⟩,⟨Sa 3,.mv (.t 78),Sb⟩]) (.ret)) (.skip)))) (.skip)))) (.seq (.seq (.reg [⟨Sa 80,.mv (.t 4),Sb⟩,⟨Sa 81,.callv (.t 80) [.c (.s [115,101,114,118,105,99,101])],Sb⟩,⟨Sa 79,.mv (.t 81),Sb⟩,⟨Sa 82,.ext (.t 79) 0,Sb⟩,⟨Sa 83,.ext (.t 79) 1,Sb⟩,⟨Sa 14,.alloc 25 [.i .i64 0,.s [],.nil,.nil],Sb⟩,⟨Sb,.store 4 (.t 14) (.t 82),Sb⟩,⟨Sa 15,.mv (.t 83),Sb⟩]) (.seq (.reg [⟨Sa 84,.mv (.t 15),Sb⟩]) (.cond (.t 84) (.seq (.reg [⟨Sa 86,.loadn 4 (.t 14),Sb⟩,⟨Sa 87,.loadn 2 (.t 5),Sb⟩,⟨Sa 88,.call 30 [.t 86,.t 87,.c (.fn 31 [] [])],Sb⟩,⟨Sa 85,.mv (.t 88),Sb⟩,⟨Sa 89,.ext (.t 85) 0,Sb⟩,⟨Sa 90,.ext (.t 85) 1,Sb⟩,⟨Sa 91,.fad 4 (.t 7),Sb⟩,⟨Sb,.store 1 (.t 91) (.t 89),Sb⟩,⟨Sa 6,.mv (.t 90),Sb⟩]) (.seq (.reg [⟨Sa 92,.mv (.t 6),Sb⟩,⟨Sa 93,.bin .neq (.t 92) (.c (.i .i64 0)),Sb⟩]) (.cond (.t 93) (.seq (.reg [⟨Sa 94,.build [.s [],.nil,.nil,.nil,.nil] [],Sb⟩,⟨Sa 95,.mv (.t 6),Sb⟩,⟨Sb,.store 5 (.t 2) (.t 94),Sb⟩,⟨Sa 3,.mv (.t 95),Sb⟩]) (.ret)) (.skip)))) (.skip)))) (.seq (.reg [⟨Sa 96,.loadn 5 (.t 7),Sb⟩,⟨Sb,.store 5 (.t 2) (.t 96),Sb⟩,⟨Sa 3,.mv (.c (.i .i64 0)),Sb⟩]) (.ret))))))))))
theorem is_diddoc_Decode:FnIs Tryz.prog 10 97 [.celln 2 5,.tmp 3] c_diddoc_Decode:=⟨⟨_,_,Tryz.func10,rfl,rfl,by kernel_rfl,by kernel_rfl⟩⟩
def c_ref17_Decode:SCode :=.seq (.reg [⟨Sa 1,.box 25 (.t 0),Sb⟩,⟨Sa 2,.alloc 34 [.s [],.nil,.nil,.nil,.nil],Sb⟩,⟨Sa 3,.mv (.c (.i .i64 0)),Sb⟩]) (.seq (.seq (.reg [⟨Sa 12,.fad 0 (.t 1),Sb⟩,⟨Sa 13,.load1 (.t 12),Sb⟩,⟨Sa 14,.bin .neq (.t 13) (.c (.i .i64 7)),Sb⟩]) (.cond (.t 14) (.seq (.reg [⟨Sa 15,.build [.s [],.nil,.nil,.nil,.nil] [],Sb⟩,⟨Sb,.store 5 (.t 2) (.t 15),Sb⟩,⟨Sa 3,.mv (.c (.i .i64 160)),Sb⟩]) (.ret)) (.skip))) (.seq (.reg [⟨Sa 16,.build [.s [],.s [],.i .i64 0] [],Sb⟩,⟨Sa 17,.box 76 (.t 16),Sb⟩,⟨Sa 4,.mv (.t 17),Sb⟩]) (.seq (.reg [⟨Sa 19,.mv (.t 4),Sb⟩,⟨Sa 20,.loadn 4 (.t 1),Sb⟩,⟨Sa 21,.call 33 [.t 19,.t 20,.c (.s [105,100])],Sb⟩,⟨Sa 22,.call 32 [.t 21],Sb⟩,⟨Sa 18,.mv (.t 22),Sb⟩,⟨Sa 23,.ext (.t 18) 0,Sb⟩,⟨Sa 24,.ext (.t 18) 1,Sb⟩,⟨Sa 5,.alloc 62 [.s [],.s []],Sb⟩,⟨Sb,.store 2 (.t 5) (.t 23),Sb⟩,⟨Sa 6,.mv (.t 24),Sb⟩]) (.seq (.seq (.reg [⟨Sa 25,.mv (.t 6),Sb⟩,⟨Sa 26,.bin .neq (.t 25) (.c (.i .i64 0)),Sb⟩]) (.cond (.t 26) (.seq (.reg [⟨Sa 27,.build [.s [],.nil,.nil,.nil,.nil] [],Sb⟩,⟨Sb,.store 5 (.t 2) (.t 27),Sb⟩,⟨Sa 3,.mv (.c (.i .i64 160)),Sb⟩]) (.ret)) (.skip))) (.seq (.reg [⟨Sa 28,.mv (.t 4),Sb⟩,⟨Sa 29,.loadn 2 (.t 5),Sb⟩,⟨Sa 30,.nck (.t 28),Sb⟩,⟨Sa 31,.fad 0 (.t 30),Sb⟩,⟨Sb,.store 2 (.t 31) (.t 29),Sb⟩]) (.seq (.cra 7 34 [.s [],.nil,.nil,.nil,.nil] [([⟨Sa 32,.loadn 2 (.t 5),Sb⟩,⟨Sa 34,.mv (.t 4),Sb⟩,⟨Sa 35,.loadn 4 (.t 1),Sb⟩,⟨Sa 1000003,.mv (.c .nil),Sb⟩],⟨Sa 33,.call 34 [.t 32],Sb⟩),([],⟨Sa 36,.call 35 [.t 34,.t 35,.c (.s [97,108,115,111,75,110,111,119,110,65,115]),.c (.b false)],Sb⟩)] [⟨Sa 37,.build [.s [],.nil,.nil,.nil,.nil] [(0,(1,.t 33)),(1,(1,.t 36))],Sb⟩] ⟨Sb,.store 5 (.t 7) (.t 37),Sb⟩) (.seq (.reg [⟨Sa 38,.mv (.t 4),Sb⟩,⟨Sa 39,.loadn 4 (.t 1),Sb⟩,⟨Sa 40,.call 35 [.t 38,.t 39,.c (.s [99,111,110,116,114,111,108,108,101,114]),.c (.b true)],Sb⟩,⟨Sa 41,.fad 2 (.t 7),Sb⟩,⟨Sb,.store 1 (.t 41) (.t 40),Sb⟩]) (.seq (.seq (.reg [⟨Sa 42,.mv (.t 4),Sb⟩,⟨Sa 43,.loadn 4 (.t 1),Sb⟩,⟨Sa 44,.call 36 [.t 42,.t 43,.c (.s [118,101,114,105,102,105,99,97,116,105,111,110,77,101,116,104,111,100])],Sb⟩,⟨Sa 45,.lenr (.t 44),Sb⟩,⟨Sa 46,.mv (.c (.i .i64 0)),Sb⟩]) (.blk 0 (.loop (.seq (.reg [⟨Sa 47,.bin .lss (.t 46) (.t 45),Sb⟩]) (.seq (.cond (.t 47) (.skip) (.exit 0)) (.seq (.blk 1 (.seq (.reg [⟨Sa 48,.iad 4 (.t 44) (.t 46),Sb⟩,⟨Sa 49,.loadn 4 (.t 48),Sb⟩,⟨Sa 9,.alloc 25 [.i .i64 0,.s [],.nil,.nil],Sb⟩,⟨Sb,.store 4 (.t 9) (.t 49),Sb⟩]) (.crg [⟨Sa 50,.fad 3 (.t 7),Sb⟩,⟨Sa 51,.load1 (.t 50),Sb⟩,⟨Sa 52,.mv (.t 4),Sb⟩,⟨Sa 53,.loadn 4 (.t 9),Sb⟩] ⟨Sa 54,.call 37 [.t 52,.t 53],Sb⟩ [⟨Sa 55,.bslice 1 [.s [],.s [],.s []] [(0,(3,.t 54))],Sb⟩,⟨Sa 56,.app 48 3 48 (.t 51) (.t 55),Sb⟩,⟨Sa 57,.fad 3 (.t 7),Sb⟩,⟨Sb,.store 1 (.t 57) (.t 56),Sb⟩]))) (.reg [⟨Sa 58,.bin .add (.t 46) (.c (.i .i64 1)),Sb⟩,⟨Sa 46,.mv (.t 58),Sb⟩]))))))) (.seq (.seq (.reg [⟨Sa 59,.mv (.t 4),Sb⟩,⟨Sa 60,.loadn 4 (.t 1),Sb⟩,⟨Sa 61,.call 36 [.t 59,.t 60,.c (.s [115,101,114,118,105,99,101])],Sb⟩,⟨Sa 62,.lenr (.t 61),Sb⟩,⟨Sa 63,.mv (.c (.i .i64 0)),Sb⟩]) (.blk 2 (.loop (.seq (.reg [⟨Sa 64,.bin .lss (.t 63) (.t 62),Sb⟩]) (.seq (.cond (.t 64) (.skip) (.exit 2)) (.seq (.blk 3 (.seq (.reg [⟨Sa 65,.iad 4 (.t 61) (.t 63),Sb⟩,⟨Sa 66,.loadn 4 (.t 65),Sb⟩,⟨Sa 11,.alloc 25 [.i .i64 0,.s [],.nil,.nil],Sb⟩,⟨Sb,.store 4 (.t 11) (.t 66),Sb⟩]) (.crg [⟨Sa 67,.fad 4 (.t 7),Sb⟩,⟨Sa 68,.load1 (.t 67),Sb⟩,⟨Sa 69,.mv (.t 4),Sb⟩,⟨Sa 70,.loadn 4 (.t 11),Sb⟩] ⟨Sa 71,.call 38 [.t 69,.t 70],Sb⟩ [⟨Sa 72,.bslice 1 [.s [],.nil,.nil] [(0,(3,.t 71))],Sb⟩,⟨Sa 73,.app 46 3 64 (.t 68) (.t 72),Sb⟩,⟨Sa 74,.fad 4 (.t 7),Sb⟩,⟨Sb,.store 1 (.t 74) (.t 73),Sb⟩]))) (.reg [⟨Sa 75,.bin .add (.t 63) (.c (.i .i64 1)),Sb⟩,⟨Sa 63,.mv (.t 75),Sb⟩]))))))) (.seq (.seq (.reg [⟨Sa 76,.mv (.t 4),Sb⟩,⟨Sa 77,.nck (.t 76),Sb⟩,⟨Sa 78,.fad 2 (.t 77),Sb⟩,⟨Sa 79,.load1 (.t 78),Sb⟩,⟨Sa 80,.bin .neq (.t 79) (.c (.i .i64 0)),Sb⟩]) (.cond (.t 80) (.seq (.drw [⟨Sa 81,.build [.s [],.nil,.nil,.nil,.nil] [],Sb⟩,⟨Sa 82,.mv (.t 4),Sb⟩,⟨Sa 83,.nck (.t 82),Sb⟩,⟨Sa 84,.fad 2 (.t 83),Sb⟩,⟨Sa 85,.load1 (.t 84),Sb⟩,⟨Sb,.store 5 (.t 2) (.t 81),Sb⟩,⟨Sa 3,.mv (.t 85),Sb⟩] 7 [(84,(2,none))]) (.ret)) (.skip))) (.seq (.reg [⟨Sa 86,.loadn 5 (.t 7),Sb⟩,⟨Sb,.store 5 (.t 2) (.t 86),Sb⟩,⟨Sa 3,.mv (.c (.i .i64 0)),Sb⟩]) (.ret))))))))))))
theorem is_ref17_Decode:FnIs Tryz.prog 11 87 [.celln 2 5,.tmp 3] c_ref17_Decode:=⟨⟨_,_,Tryz.func11,rfl,rfl,by kernel_rfl,by kernel_rfl⟩⟩
def c_diddoc_Select:SCode :=.seq (.reg [⟨Sa 2,.box 25 (.t 0),Sb⟩,⟨Sa 4,.alloc 25 [.i .i64 0,.s [],.nil,.nil],Sb⟩,⟨Sa 5,.mv (.c (.b false)),Sb⟩]) (.seq (.seq (.reg [⟨Sa 19,.loadn 4 (.t 2),Sb⟩,⟨Sa 20,.call 10 [.t 19],Sb⟩,⟨Sa 18,.mv (.t 20),Sb⟩,⟨Sa 21,.ext (.t 18) 0,Sb⟩,⟨Sa 22,.ext (.t 18) 1,Sb⟩,⟨Sa 6,.alloc 34 [.s [],.nil,.nil,.nil,.nil],Sb⟩,⟨Sb,.store 5 (.t 6) (.t 21),Sb⟩,⟨Sa 7,.mv (.t 22),Sb⟩]) (.seq (.reg [⟨Sa 23,.mv (.t 7),Sb⟩,⟨Sa 24,.bin .neq (.t 23) (.c (.i .i64 0)),Sb⟩]) (.cond (.t 24) (.seq (.reg [⟨Sa 25,.build [.i .i64 0,.s [],.nil,.nil] [],Sb⟩,⟨Sb,.store 4 (.t 4) (.t 25),Sb⟩,⟨Sa 5,.mv (.c (.b false)),Sb⟩]) (.ret)) (.skip)))) (.seq (.reg [⟨Sa 27,.loadn 4 (.t 2),Sb⟩,⟨Sa 28,.call 24 [.t 27],Sb⟩,⟨Sa 26,.mv (.t 28),Sb⟩,⟨Sa 29,.ext (.t 26) 0,Sb⟩,⟨Sa 30,.ext (.t 26) 1,Sb⟩,⟨Sa 8,.alloc 62 [.s [],.s []],Sb⟩,⟨Sb,.store 2 (.t 8) (.t 29),Sb⟩,⟨Sa 9,.mv (.t 30),Sb⟩]) (.seq (.seq (.reg [⟨Sa 31,.mv (.t 9),Sb⟩,⟨Sa 32,.bin .neq (.t 31) (.c (.i .i64 0)),Sb⟩]) (.cond (.t 32) (.seq (.reg [⟨Sa 33,.build [.i .i64 0,.s [],.nil,.nil] [],Sb⟩,⟨Sb,.store 4 (.t 4) (.t 33),Sb⟩,⟨Sa 5,.mv (.c (.b false)),Sb⟩]) (.ret)) (.skip))) (.seq (.seq (.reg [⟨Sa 34,.bslice 2 [.s [],.s []] [(0,(1,.c (.s [118,101,114,105,102,105,99,97,116,105,111,110,77,101,116,104,111,100]))),(1,(1,.c (.s [115,101,114,118,105,99,101])))],Sb⟩,⟨Sa 35,.lenr (.t 34),Sb⟩,⟨Sa 36,.mv (.c (.i .i64 0)),Sb⟩]) (.blk 0 (.loop (.seq (.reg [⟨Sa 37,.bin .lss (.t 36) (.t 35),Sb⟩]) (.seq (.cond (.t 37) (.skip) (.exit 0)) (.seq (.blk 1 (.seq (.reg [⟨Sa 38,.iad 1 (.t 34) (.t 36),Sb⟩,⟨Sa 39,.load1 (.t 38),Sb⟩,⟨Sa 11,.mv (.t 39),Sb⟩]) (.seq (.reg [⟨Sa 41,.loadn 4 (.t 2),Sb⟩,⟨Sa 42,.mv (.t 11),Sb⟩,⟨Sa 43,.call 40 [.t 41,.t 42],Sb⟩,⟨Sa 40,.mv (.t 43),Sb⟩,⟨Sa 44,.ext (.t 40) 0,Sb⟩,⟨Sa 45,.ext (.t 40) 1,Sb⟩,⟨Sa 12,.alloc 25 [.i .i64 0,.s [],.nil,.nil],Sb⟩,⟨Sb,.store 4 (.t 12) (.t 44),Sb⟩,⟨Sa 13,.mv (.t 45),Sb⟩]) (.seq (.reg [⟨Sa 46,.fad 3 (.t 12),Sb⟩,⟨Sa 47,.load1 (.t 46),Sb⟩,⟨Sa 48,.lenr (.t 47),Sb⟩,⟨Sa 49,.mv (.c (.i .i64 0)),Sb⟩]) (.blk 2 (.loop (.seq (.reg [⟨Sa 50,.bin .lss (.t 49) (.t 48),Sb⟩]) (.seq (.cond (.t 50) (.skip) (.exit 2)) (.seq (.blk 3 (.seq (.reg [⟨Sa 51,.iad 4 (.t 47) (.t 49),Sb⟩,⟨Sa 52,.loadn 4 (.t 51),Sb⟩,⟨Sa 15,.alloc 25 [.i .i64 0,.s [],.nil,.nil],Sb⟩,⟨Sb,.store 4 (.t 15) (.t 52),Sb⟩]) (.seq (.reg [⟨Sa 54,.loadn 4 (.t 15),Sb⟩,⟨Sa 55,.loadn 2 (.t 8),Sb⟩,⟨Sa 56,.call 41 [.t 54,.t 55],Sb⟩,⟨Sa 53,.mv (.t 56),Sb⟩,⟨Sa 57,.ext (.t 53) 0,Sb⟩,⟨Sa 58,.ext (.t 53) 1,Sb⟩,⟨Sa 16,.mv (.t 57),Sb⟩,⟨Sa 17,.mv (.t 58),Sb⟩]) (.seq (.reg [⟨Sa 59,.mv (.t 17),Sb⟩,⟨Sa 60,.bin .eql (.t 59) (.c (.i .i64 0)),Sb⟩,⟨Sa 61,.mv (.t 60),Sb⟩,⟨Sa 62,.mv (.t 16),some (61,true)⟩,⟨Sa 63,.mv (.t 1),some (61,true)⟩,⟨Sa 64,.bin .eql (.t 62) (.t 63),some (61,true)⟩,⟨Sa 65,.pick (.t 61) (.t 64) (.c (.b false)),Sb⟩]) (.cond (.t 65) (.seq (.reg [⟨Sa 66,.loadn 4 (.t 15),Sb⟩,⟨Sb,.store 4 (.t 4) (.t 66),Sb⟩,⟨Sa 5,.mv (.c (.b true)),Sb⟩]) (.ret)) (.skip)))))) (.reg [⟨Sa 67,.bin .add (.t 49) (.c (.i .i64 1)),Sb⟩,⟨Sa 49,.mv (.t 67),Sb⟩])))))))))) (.reg [⟨Sa 68,.bin .add (.t 36) (.c (.i .i64 1)),Sb⟩,⟨Sa 36,.mv (.t 68),Sb⟩]))))))) (.seq (.reg [⟨Sa 69,.build [.i .i64 0,.s [],.nil,.nil] [],Sb⟩,⟨Sb,.store 4 (.t 4) (.t 69),Sb⟩,⟨Sa 5,.mv (.c (.b false)),Sb⟩]) (.ret))))))
theorem is_diddoc_Select:FnIs Tryz.prog 13 70 [.celln 4 4,.tmp 5] c_diddoc_Select:=⟨⟨_,_,Tryz.func13,rfl,rfl,by kernel_rfl,by kernel_rfl⟩⟩
def c_ref17_Select:SCode :=.seq (.reg [⟨Sa 2,.box 25 (.t 0),Sb⟩,⟨Sa 4,.alloc 25 [.i .i64 0,.s [],.nil,.nil],Sb⟩,⟨Sa 5,.mv (.c (.b false)),Sb⟩]) (.seq (.reg [⟨Sa 21,.loadn 4 (.t 2),Sb⟩,⟨Sa 22,.call 11 [.t 21],Sb⟩,⟨Sa 20,.mv (.t 22),Sb⟩,⟨Sa 23,.ext (.t 20) 0,Sb⟩,⟨Sa 24,.ext (.t 20) 1,Sb⟩,⟨Sa 6,.alloc 34 [.s [],.nil,.nil,.nil,.nil],Sb⟩,⟨Sb,.store 5 (.t 6) (.t 23),Sb⟩,⟨Sa 7,.mv (.t 24),Sb⟩]) (.seq (.seq (.reg [⟨Sa 25,.mv (.t 7),Sb⟩,⟨Sa 26,.bin .neq (.t 25) (.c (.i .i64 0)),Sb⟩]) (.cond (.t 26) (.seq (.reg [⟨Sa 27,.build [.i .i64 0,.s [],.nil,.nil] [],Sb⟩,⟨Sb,.store 4 (.t 4) (.t 27),Sb⟩,⟨Sa 5,.mv (.c (.b false)),Sb⟩]) (.ret)) (.skip))) (.seq (.reg [⟨Sa 29,.fad 0 (.t 6),Sb⟩,⟨Sa 30,.load1 (.t 29),Sb⟩,⟨Sa 31,.call 32 [.t 30],Sb⟩,⟨Sa 28,.mv (.t 31),Sb⟩,⟨Sa 32,.ext (.t 28) 0,Sb⟩,⟨Sa 33,.ext (.t 28) 1,Sb⟩,⟨Sa 8,.alloc 62 [.s [],.s []],Sb⟩,⟨Sb,.store 2 (.t 8) (.t 32),Sb⟩,⟨Sa 9,.mv (.t 33),Sb⟩]) (.seq (.seq (.reg [⟨Sa 34,.bslice 2 [.s [],.s []] [(0,(1,.c (.s [118,101,114,105,102,105,99,97,116,105,111,110,77,101,116,104,111,100]))),(1,(1,.c (.s [115,101,114,118,105,99,101])))],Sb⟩,⟨Sa 35,.lenr (.t 34),Sb⟩,⟨Sa 36,.mv (.c (.i .i64 0)),Sb⟩]) (.blk 0 (.loop (.seq (.reg [⟨Sa 37,.bin .lss (.t 36) (.t 35),Sb⟩]) (.seq (.cond (.t 37) (.skip) (.exit 0)) (.seq (.blk 1 (.seq (.reg [⟨Sa 38,.iad 1 (.t 34) (.t 36),Sb⟩,⟨Sa 39,.load1 (.t 38),Sb⟩,⟨Sa 11,.mv (.t 39),Sb⟩]) (.seq (.reg [⟨Sa 41,.loadn 4 (.t 2),Sb⟩,⟨Sa 42,.mv (.t 11),Sb⟩,⟨Sa 43,.call 42 [.t 41,.t 42],Sb⟩,⟨Sa 40,.mv (.t 43),Sb⟩,⟨Sa 44,.ext (.t 40) 0,Sb⟩,⟨Sa 45,.ext (.t 40) 1,Sb⟩,⟨Sa 12,.alloc 25 [.i .i64 0,.s [],.nil,.nil],Sb⟩,⟨Sb,.store 4 (.t 12) (.t 44),Sb⟩,⟨Sa 13,.mv (.t 45),Sb⟩]) (.seq (.reg [⟨Sa 46,.fad 3 (.t 12),Sb⟩,⟨Sa 47,.load1 (.t 46),Sb⟩,⟨Sa 48,.lenr (.t 47),Sb⟩,⟨Sa 49,.mv (.c (.i .i64 0)),Sb⟩]) (.blk 2 (.loop (.seq (.reg [⟨Sa 50,.bin .lss (.t 49) (.t 48),Sb⟩]) (.seq (.cond (.t 50) (.skip) (.exit 2)) (.seq (.blk 3 (.seq (.reg [⟨Sa 51,.iad 4 (.t 47) (.t 49),Sb⟩,⟨Sa 52,.loadn 4 (.t 51),Sb⟩,⟨Sa 15,.alloc 25 [.i .i64 0,.s [],.nil,.nil],Sb⟩,⟨Sb,.store 4 (.t 15) (.t 52),Sb⟩]) (.seq (.reg [⟨Sa 54,.loadn 4 (.t 15),Sb⟩,⟨Sa 55,.call 42 [.t 54,.c (.s [105,100])],Sb⟩,⟨Sa 53,.mv (.t 55),Sb⟩,⟨Sa 56,.ext (.t 53) 0,Sb⟩,⟨Sa 57,.ext (.t 53) 1,Sb⟩,⟨Sa 16,.alloc 25 [.i .i64 0,.s [],.nil,.nil],Sb⟩,⟨Sb,.store 4 (.t 16) (.t 56),Sb⟩,⟨Sa 17,.mv (.t 57),Sb⟩]) (.seq (.reg [⟨Sa 59,.loadn 2 (.t 8),Sb⟩,⟨Sa 60,.fad 1 (.t 16),Sb⟩,⟨Sa 61,.load1 (.t 60),Sb⟩,⟨Sa 62,.call 43 [.t 59,.t 61],Sb⟩,⟨Sa 58,.mv (.t 62),Sb⟩,⟨Sa 63,.ext (.t 58) 0,Sb⟩,⟨Sa 64,.ext (.t 58) 1,Sb⟩,⟨Sa 18,.alloc 87 [.s [],.s [],.s [],.s [],.s [],.b false,.b false],Sb⟩,⟨Sb,.store 7 (.t 18) (.t 63),Sb⟩,⟨Sa 19,.mv (.t 64),Sb⟩]) (.seq (.reg [⟨Sa 65,.mv (.t 17),Sb⟩,⟨Sa 66,.mv (.t 65),Sb⟩,⟨Sa 67,.fad 0 (.t 16),some (66,true)⟩,⟨Sa 68,.load1 (.t 67),some (66,true)⟩,⟨Sa 69,.bin .eql (.t 68) (.c (.i .i64 5)),some (66,true)⟩,⟨Sa 70,.pick (.t 66) (.t 69) (.c (.b false)),Sb⟩,⟨Sa 71,.mv (.t 70),Sb⟩,⟨Sa 72,.mv (.t 19),some (71,true)⟩,⟨Sa 73,.bin .eql (.t 72) (.c (.i .i64 0)),some (71,true)⟩,⟨Sa 74,.pick (.t 71) (.t 73) (.c (.b false)),Sb⟩,⟨Sa 75,.mv (.t 74),Sb⟩,⟨Sa 76,.loadn 7 (.t 18),some (75,true)⟩,⟨Sa 77,.call 44 [.t 76],some (75,true)⟩,⟨Sa 78,.mv (.t 1),some (75,true)⟩,⟨Sa 79,.bin .eql (.t 77) (.t 78),some (75,true)⟩,⟨Sa 80,.pick (.t 75) (.t 79) (.c (.b false)),Sb⟩]) (.cond (.t 80) (.seq (.reg [⟨Sa 81,.loadn 4 (.t 15),Sb⟩,⟨Sb,.store 4 (.t 4) (.t 81),Sb⟩,⟨Sa 5,.mv (.c (.b true)),Sb⟩]) (.ret)) (.skip))))))) (.reg [⟨Sa 82,.bin .add (.t 49) (.c (.i .i64 1)),Sb⟩,⟨Sa 49,.mv (.t 82),Sb⟩])))))))))) (.reg [⟨Sa 83,.bin .add (.t 36) (.c (.i .i64 1)),Sb⟩,⟨Sa 36,.mv (.t 83),Sb⟩]))))))) (.seq (.reg [⟨Sa 84,.build [.i .i64 0,.s [],.nil,.nil] [],Sb⟩,⟨Sb,.store 4 (.t 4) (.t 84),Sb⟩,⟨Sa 5,.mv (.c (.b false)),Sb⟩]) (.ret))))))
theorem is_ref17_Select:FnIs Tryz.prog 14 85 [.celln 4 4,.tmp 5] c_ref17_Select:=⟨⟨_,_,Tryz.func14,rfl,rfl,by kernel_rfl,by kernel_rfl⟩⟩
def c_ref14_Same:SCode :=.seq (.reg [⟨Sa 2,.box 25 (.t 0),Sb⟩,⟨Sa 3,.box 25 (.t 1),Sb⟩,⟨Sa 4,.mv (.c (.b false)),Sb⟩]) (.seq (.seq (.reg [⟨Sa 7,.fad 0 (.t 2),Sb⟩,⟨Sa 8,.load1 (.t 7),Sb⟩,⟨Sa 9,.fad 0 (.t 3),Sb⟩,⟨Sa 10,.load1 (.t 9),Sb⟩,⟨Sa 11,.bin .neq (.t 8) (.t 10),Sb⟩,⟨Sa 12,.mv (.t 11),Sb⟩,⟨Sa 13,.fad 1 (.t 2),some (12,false)⟩,⟨Sa 14,.load1 (.t 13),some (12,false)⟩,⟨Sa 15,.fad 1 (.t 3),some (12,false)⟩,⟨Sa 16,.load1 (.t 15),some (12,false)⟩,⟨Sa 17,.bin .neq (.t 14) (.t 16),some (12,false)⟩,⟨Sa 18,.pick (.t 12) (.c (.b true)) (.t 17),Sb⟩,⟨Sa 19,.mv (.t 18),Sb⟩,⟨Sa 20,.fad 3 (.t 2),some (19,false)⟩,⟨Sa 21,.load1 (.t 20),some (19,false)⟩,⟨Sa 22,.lenr (.t 21),some (19,false)⟩,⟨Sa 23,.fad 3 (.t 3),some (19,false)⟩,⟨Sa 24,.load1 (.t 23),some (19,false)⟩,⟨Sa 25,.lenr (.t 24),some (19,false)⟩,⟨Sa 26,.bin .neq (.t 22) (.t 25),some (19,false)⟩,⟨Sa 27,.pick (.t 19) (.c (.b true)) (.t 26),Sb⟩,⟨Sa 28,.mv (.t 27),Sb⟩,⟨Sa 29,.fad 2 (.t 2),some (28,false)⟩,⟨Sa 30,.load1 (.t 29),some (28,false)⟩,⟨Sa 31,.lenr (.t 30),some (28,false)⟩,⟨Sa 32,.fad 2 (.t 3),some (28,false)⟩,⟨Sa 33,.load1 (.t 32),some (28,false)⟩,⟨Sa 34,.lenr (.t 33),some (28,false)⟩,⟨Sa 35,.bin .neq (.t 31) (.t 34),some (28,false)⟩,⟨Sa 36,.pick (.t 28) (.c (.b true)) (.t 35),Sb⟩]) (.cond (.t 36) (.seq (.reg [⟨Sa 4,.mv (.c (.b false)),Sb⟩]) (.ret)) (.skip))) (.seq (.seq (.reg [⟨Sa 37,.fad 3 (.t 2),Sb⟩,⟨Sa 38,.load1 (.t 37),Sb⟩,⟨Sa 39,.lenr (.t 38),Sb⟩,⟨Sa 40,.mv (.c (.i .i64 0)),Sb⟩]) (.blk 0 (.loop (.seq (.reg [⟨Sa 41,.bin .lss (.t 40) (.t 39),Sb⟩]) (.seq (.cond (.t 41) (.skip) (.exit 0)) (.seq (.blk 1 (.seq (.reg [⟨Sa 42,.mv (.t 40),Sb⟩,⟨Sa 5,.mv (.t 42),Sb⟩]) (.seq (.drw [⟨Sa 43,.fad 3 (.t 2),Sb⟩,⟨Sa 44,.load1 (.t 43),Sb⟩,⟨Sa 45,.mv (.t 5),Sb⟩,⟨Sa 46,.iad 4 (.t 44) (.t 45),Sb⟩,⟨Sa 47,.loadn 4 (.t 46),Sb⟩,⟨Sa 48,.fad 3 (.t 3),Sb⟩,⟨Sa 49,.load1 (.t 48),Sb⟩,⟨Sa 50,.mv (.t 5),Sb⟩,⟨Sa 51,.iad 4 (.t 49) (.t 50),Sb⟩,⟨Sa 52,.loadn 4 (.t 51),Sb⟩,⟨Sa 53,.call 15 [.t 47,.t 52],Sb⟩,⟨Sa 54,.not (.t 53),Sb⟩] 12 []) (.cond (.t 54) (.seq (.reg [⟨Sa 4,.mv (.c (.b false)),Sb⟩]) (.ret)) (.skip))))) (.reg [⟨Sa 55,.bin .add (.t 40) (.c (.i .i64 1)),Sb⟩,⟨Sa 40,.mv (.t 55),Sb⟩]))))))) (.seq (.seq (.reg [⟨Sa 56,.fad 2 (.t 2),Sb⟩,⟨Sa 57,.load1 (.t 56),Sb⟩,⟨Sa 58,.lenr (.t 57),Sb⟩,⟨Sa 59,.mv (.c (.i .i64 0)),Sb⟩]) (.blk 2 (.loop (.seq (.reg [⟨Sa 60,.bin .lss (.t 59) (.t 58),Sb⟩]) (.seq (.cond (.t 60) (.skip) (.exit 2)) (.seq (.blk 3 (.seq (.reg [⟨Sa 61,.mv (.t 59),Sb⟩,⟨Sa 6,.mv (.t 61),Sb⟩]) (.seq (.drw [⟨Sa 62,.fad 2 (.t 2),Sb⟩,⟨Sa 63,.load1 (.t 62),Sb⟩,⟨Sa 64,.mv (.t 6),Sb⟩,⟨Sa 65,.iad 1 (.t 63) (.t 64),Sb⟩,⟨Sa 66,.load1 (.t 65),Sb⟩,⟨Sa 67,.fad 2 (.t 3),Sb⟩,⟨Sa 68,.load1 (.t 67),Sb⟩,⟨Sa 69,.mv (.t 6),Sb⟩,⟨Sa 70,.iad 1 (.t 68) (.t 69),Sb⟩,⟨Sa 71,.load1 (.t 70),Sb⟩,⟨Sa 72,.bin .neq (.t 66) (.t 71),Sb⟩] 11 []) (.cond (.t 72) (.seq (.reg [⟨Sa 4,.mv (.c (.b false)),Sb⟩]) (.ret)) (.skip))))) (.reg [⟨Sa 73,.bin .add (.t 59) (.c (.i .i64 1)),Sb⟩,⟨Sa 59,.mv (.t 73),Sb⟩]))))))) (.seq (.reg [⟨Sa 4,.mv (.c (.b true)),Sb⟩]) (.ret)))))
theorem is_ref14_Same:FnIs Tryz.prog 15 74 [.tmp 4] c_ref14_Same:=⟨⟨_,_,Tryz.func15,rfl,rfl,by kernel_rfl,by kernel_rfl⟩⟩
def c_ref14_parser_value:SCode :=.seq (.reg [⟨Sa 4,.box 56 (.t 1),Sb⟩,⟨Sa 6,.alloc 25 [.i .i64 0,.s [],.nil,.nil],Sb⟩]) (.seq (.reg [⟨Sa 11,.fad 0 (.t 4),Sb⟩,⟨Sa 12,.load1 (.t 11),Sb⟩,⟨Sa 13,.bin .eql (.t 12) (.c (.i .i64 3)),Sb⟩,⟨Sa 14,.mv (.t 13),Sb⟩,⟨Sa 15,.fad 0 (.t 4),some (14,false)⟩,⟨Sa 16,.load1 (.t 15),some (14,false)⟩,⟨Sa 17,.bin .eql (.t 16) (.c (.i .i64 4)),some (14,false)⟩,⟨Sa 18,.pick (.t 14) (.c (.b true)) (.t 17),Sb⟩,⟨Sa 19,.mv (.t 18),Sb⟩,⟨Sa 20,.fad 0 (.t 4),some (19,false)⟩,⟨Sa 21,.load1 (.t 20),some (19,false)⟩,⟨Sa 22,.bin .eql (.t 21) (.c (.i .i64 5)),some (19,false)⟩,⟨Sa 23,.pick (.t 19) (.c (.b true)) (.t 22),Sb⟩,⟨Sa 24,.mv (.t 23),Sb⟩,⟨Sa 25,.loadn 3 (.t 4),some (24,false)⟩,⟨Sa 26,.call 58 [.t 25,.c (.s [91])],some (24,false)⟩,⟨Sa 27,.pick (.t 24) (.c (.b true)) (.t 26),Sb⟩,⟨Sa 28,.mv (.t 27),Sb⟩,⟨Sa 29,.loadn 3 (.t 4),some (28,false)⟩,⟨Sa 30,.call 58 [.t 29,.c (.s [123])],some (28,false)⟩,⟨Sa 31,.pick (.t 28) (.c (.b true)) (.t 30),Sb⟩,⟨Sa 7,.mv (.t 31),Sb⟩]) (.seq (.seq (.reg [⟨Sa 32,.mv (.t 0),Sb⟩,⟨Sa 33,.nck (.t 32),Sb⟩,⟨Sa 34,.fad 3 (.t 33),Sb⟩,⟨Sa 35,.load1 (.t 34),Sb⟩,⟨Sa 36,.bin .neq (.t 35) (.c (.i .i64 0)),Sb⟩]) (.cond (.t 36) (.seq (.reg [⟨Sa 37,.build [.i .i64 0,.s [],.nil,.nil] [],Sb⟩,⟨Sb,.store 4 (.t 6) (.t 37),Sb⟩]) (.ret)) (.skip))) (.seq (.seq (.reg [⟨Sa 38,.mv (.t 7),Sb⟩,⟨Sa 39,.not (.t 38),Sb⟩]) (.cond (.t 39) (.seq (.reg [⟨Sa 40,.mv (.t 0),Sb⟩,⟨Sa 41,.fad 2 (.t 4),Sb⟩,⟨Sa 42,.load1 (.t 41),Sb⟩,⟨Sa 43,.call 22 [.t 40,.t 42,.c (.i .i64 140)],Sb⟩]) (.seq (.reg [⟨Sa 44,.build [.i .i64 0,.s [],.nil,.nil] [],Sb⟩,⟨Sb,.store 4 (.t 6) (.t 44),Sb⟩]) (.ret))) (.skip))) (.seq (.seq (.reg [⟨Sa 45,.fad 0 (.t 4),Sb⟩,⟨Sa 46,.load1 (.t 45),Sb⟩,⟨Sa 47,.bin .eql (.t 46) (.c (.i .i64 2)),Sb⟩,⟨Sa 48,.mv (.t 47),Sb⟩,⟨Sa 49,.mv (.t 2),some (48,true)⟩,⟨Sa 50,.bin .eql (.t 49) (.c (.i .i64 64)),some (48,true)⟩,⟨Sa 51,.pick (.t 48) (.t 50) (.c (.b false)),Sb⟩]) (.cond (.t 51) (.seq (.reg [⟨Sa 52,.mv (.t 0),Sb⟩,⟨Sa 53,.fad 2 (.t 4),Sb⟩,⟨Sa 54,.load1 (.t 53),Sb⟩,⟨Sa 55,.call 22 [.t 52,.t 54,.c (.i .i64 141)],Sb⟩]) (.seq (.reg [⟨Sa 56,.build [.i .i64 0,.s [],.nil,.nil] [],Sb⟩,⟨Sb,.store 4 (.t 6) (.t 56),Sb⟩]) (.ret))) (.skip))) (.seq (.reg [⟨Sa 57,.fad 1 (.t 4),Sb⟩,⟨Sa 58,.load1 (.t 57),Sb⟩,⟨Sa 59,.build [.i .i64 0,.s [],.nil,.nil] [(0,(1,.c (.i .i64 5))),(1,(1,.t 58))],Sb⟩,⟨Sa 8,.alloc 25 [.i .i64 0,.s [],.nil,.nil],Sb⟩,⟨Sb,.store 4 (.t 8) (.t 59),Sb⟩]) (.seq (.seq (.reg [⟨Sa 60,.fad 0 (.t 4),Sb⟩,⟨Sa 61,.load1 (.t 60),Sb⟩,⟨Sa 62,.bin .eql (.t 61) (.c (.i .i64 4)),Sb⟩]) (.cond (.t 62) (.seq (.reg [⟨Sa 64,.fad 1 (.t 4),Sb⟩,⟨Sa 65,.load1 (.t 64),Sb⟩,⟨Sa 66,.call 59 [.t 65],Sb⟩,⟨Sa 63,.mv (.t 66),Sb⟩,⟨Sa 67,.ext (.t 63) 0,Sb⟩,⟨Sa 68,.ext (.t 63) 1,Sb⟩,⟨Sa 9,.mv (.t 67),Sb⟩,⟨Sa 10,.mv (.t 68),Sb⟩]) (.seq (.seq (.reg [⟨Sa 69,.mv (.t 10),Sb⟩,⟨Sa 70,.bin .neq (.t 69) (.c (.i .i64 0)),Sb⟩]) (.cond (.t 70) (.reg [⟨Sa 71,.mv (.t 0),Sb⟩,⟨Sa 72,.fad 2 (.t 4),Sb⟩,⟨Sa 73,.load1 (.t 72),Sb⟩,⟨Sa 74,.mv (.t 10),Sb⟩,⟨Sa 75,.call 22 [.t 71,.t 73,.t 74],Sb⟩]) (.skip))) (.reg [⟨Sa 76,.mv (.t 9),Sb⟩,⟨Sa 77,.build [.i .i64 0,.s [],.nil,.nil] [(0,(1,.c (.i .i64 4))),(1,(1,.t 76))],Sb⟩,⟨Sb,.store 4 (.t 8) (.t 77),Sb⟩]))) (.skip))) (.seq (.seq (.reg [⟨Sa 78,.mv (.t 0),Sb⟩,⟨Sa 79,.nck (.t 78),Sb⟩,⟨Sa 80,.fad 2 (.t 79),Sb⟩,⟨Sa 81,.load1 (.t 80),Sb⟩,⟨Sa 82,.bin .add (.t 81) (.c (.i .i64 1)),Sb⟩,⟨Sa 83,.nck (.t 78),Sb⟩,⟨Sa 84,.fad 2 (.t 83),Sb⟩,⟨Sb,.store 1 (.t 84) (.t 82),Sb⟩]) (.seq (.reg [⟨Sa 85,.mv (.t 0),Sb⟩,⟨Sa 86,.nck (.t 85),Sb⟩,⟨Sa 87,.fad 2 (.t 86),Sb⟩,⟨Sa 88,.load1 (.t 87),Sb⟩,⟨Sa 89,.bin .gtr (.t 88) (.c (.i .i64 20000)),Sb⟩]) (.cond (.t 89) (.reg [⟨Sa 90,.mv (.t 0),Sb⟩,⟨Sa 91,.fad 2 (.t 4),Sb⟩,⟨Sa 92,.load1 (.t 91),Sb⟩,⟨Sa 93,.call 22 [.t 90,.t 92,.c (.i .i64 142)],Sb⟩]) (.skip)))) (.seq (.blk 0 (.seq (.reg [⟨Sa 95,.fad 0 (.t 4),Sb⟩,⟨Sa 96,.load1 (.t 95),Sb⟩,⟨Sa 97,.bin .eql (.t 96) (.c (.i .i64 5)),Sb⟩,⟨Sa 94,.mv (.t 97),Sb⟩]) (.cond (.t 94) (.seq (.reg [⟨Sa 98,.fad 1 (.t 4),Sb⟩,⟨Sa 99,.load1 (.t 98),Sb⟩,⟨Sa 100,.call 60 [.t 99],Sb⟩,⟨Sa 101,.build [.i .i64 0,.s [],.nil,.nil] [(0,(1,.t 100))],Sb⟩,⟨Sb,.store 4 (.t 6) (.t 101),Sb⟩]) (.ret)) (.seq (.reg [⟨Sa 103,.loadn 3 (.t 4),Sb⟩,⟨Sa 104,.call 58 [.t 103,.c (.s [91])],Sb⟩,⟨Sa 102,.mv (.t 104),Sb⟩]) (.cond (.t 102) (.seq (.reg [⟨Sa 105,.mv (.t 0),Sb⟩,⟨Sa 106,.mv (.t 2),Sb⟩,⟨Sa 107,.bin .add (.t 106) (.c (.i .i64 1)),Sb⟩,⟨Sa 108,.call 61 [.t 105,.t 107],Sb⟩,⟨Sb,.store 4 (.t 6) (.t 108),Sb⟩]) (.ret)) (.seq (.reg [⟨Sa 110,.loadn 3 (.t 4),Sb⟩,⟨Sa 111,.call 58 [.t 110,.c (.s [123])],Sb⟩,⟨Sa 109,.mv (.t 111),Sb⟩]) (.cond (.t 109) (.seq (.reg [⟨Sa 112,.mv (.t 0),Sb⟩,⟨Sa 113,.mv (.t 2),Sb⟩,⟨Sa 114,.bin .add (.t 113) (.c (.i .i64 1)),Sb⟩,⟨Sa 115,.call 62 [.t 112,.t 114],Sb⟩,⟨Sb,.store 4 (.t 6) (.t 115),Sb⟩]) (.ret)) (.skip)))))))) (.seq (.reg [⟨Sa 116,.loadn 4 (.t 8),Sb⟩,⟨Sb,.store 4 (.t 6) (.t 116),Sb⟩]) (.ret))))))))))
theorem is_ref14_parser_value:FnIs Tryz.prog 20 117 [.celln 6 4] c_ref14_parser_value:=⟨⟨_,_,Tryz.func20,rfl,rfl,by kernel_rfl,by kernel_rfl⟩⟩
def c_ref14_parser_next:SCode :=.seq (.reg [⟨Sa 2,.alloc 56 [.i .i64 0,.s [],.i .i64 0],Sb⟩]) (.seq (.seq (.reg [⟨Sa 6,.mv (.t 0),Sb⟩,⟨Sa 7,.nck (.t 6),Sb⟩,⟨Sa 8,.fad 3 (.t 7),Sb⟩,⟨Sa 9,.load1 (.t 8),Sb⟩,⟨Sa 10,.bin .neq (.t 9) (.c (.i .i64 0)),Sb⟩]) (.cond (.t 10) (.seq (.reg [⟨Sa 11,.build [.i .i64 0,.s [],.i .i64 0] [],Sb⟩,⟨Sb,.store 3 (.t 2) (.t 11),Sb⟩]) (.ret)) (.skip))) (.seq (.drw [⟨Sa 13,.mv (.t 0),Sb⟩,⟨Sa 14,.nck (.t 13),Sb⟩,⟨Sa 15,.fad 0 (.t 14),Sb⟩,⟨Sa 16,.load1 (.t 15),Sb⟩,⟨Sa 17,.mv (.t 0),Sb⟩,⟨Sa 18,.nck (.t 17),Sb⟩,⟨Sa 19,.fad 1 (.t 18),Sb⟩,⟨Sa 20,.load1 (.t 19),Sb⟩,⟨Sa 21,.pcall 63 [.t 16,.t 20],Sb⟩,⟨Sa 12,.mv (.t 21),Sb⟩,⟨Sa 22,.ext (.t 12) 0,Sb⟩,⟨Sa 23,.ext (.t 12) 1,Sb⟩,⟨Sa 24,.ext (.t 12) 2,Sb⟩,⟨Sa 3,.alloc 56 [.i .i64 0,.s [],.i .i64 0],Sb⟩,⟨Sb,.store 3 (.t 3) (.t 22),Sb⟩,⟨Sa 4,.mv (.t 23),Sb⟩,⟨Sa 5,.mv (.t 24),Sb⟩] 17 [(15,(3,none)),(19,(3,none))]) (.seq (.seq (.reg [⟨Sa 25,.mv (.t 5),Sb⟩,⟨Sa 26,.bin .neq (.t 25) (.c (.i .i64 0)),Sb⟩]) (.cond (.t 26) (.seq (.reg [⟨Sa 27,.mv (.t 0),Sb⟩,⟨Sa 28,.mv (.t 0),Sb⟩,⟨Sa 29,.nck (.t 28),Sb⟩,⟨Sa 30,.fad 1 (.t 29),Sb⟩,⟨Sa 31,.load1 (.t 30),Sb⟩,⟨Sa 32,.mv (.t 5),Sb⟩,⟨Sa 33,.call 22 [.t 27,.t 31,.t 32],Sb⟩]) (.seq (.reg [⟨Sa 34,.build [.i .i64 0,.s [],.i .i64 0] [],Sb⟩,⟨Sb,.store 3 (.t 2) (.t 34),Sb⟩]) (.ret))) (.skip))) (.seq (.reg [⟨Sa 35,.mv (.t 0),Sb⟩,⟨Sa 36,.mv (.t 4),Sb⟩,⟨Sa 37,.nck (.t 35),Sb⟩,⟨Sa 38,.fad 1 (.t 37),Sb⟩,⟨Sb,.store 1 (.t 38) (.t 36),Sb⟩]) (.seq (.reg [⟨Sa 39,.loadn 3 (.t 3),Sb⟩,⟨Sb,.store 3 (.t 2) (.t 39),Sb⟩]) (.ret))))))
theorem is_ref14_parser_next:FnIs Tryz.prog 21 40 [.celln 2 3] c_ref14_parser_next:=⟨⟨_,_,Tryz.func21,rfl,rfl,by kernel_rfl,by kernel_rfl⟩⟩
def c_ref14_parser_stop:SCode :=.seq (.reg [⟨Sa 6,.mv (.t 0),Sb⟩,⟨Sa 7,.nck (.t 6),Sb⟩,⟨Sa 8,.fad 3 (.t 7),Sb⟩,⟨Sa 9,.load1 (.t 8),Sb⟩,⟨Sa 10,.bin .eql (.t 9) (.c (.i .i64 0)),Sb⟩]) (.cond (.t 10) (.reg [⟨Sa 11,.mv (.t 0),Sb⟩,⟨Sa 12,.mv (.t 0),Sb⟩,⟨Sa 13,.mv (.t 2),Sb⟩,⟨Sa 14,.mv (.t 1),Sb⟩,⟨Sa 15,.nck (.t 11),Sb⟩,⟨Sa 16,.fad 3 (.t 15),Sb⟩,⟨Sb,.store 1 (.t 16) (.t 13),Sb⟩,⟨Sa 17,.nck (.t 12),Sb⟩,⟨Sa 18,.fad 4 (.t 17),Sb⟩,⟨Sb,.store 1 (.t 18) (.t 14),Sb⟩]) (.skip))
theorem is_ref14_parser_stop:FnIs Tryz.prog 22 19 [] c_ref14_parser_stop:=⟨⟨_,_,Tryz.func22,rfl,rfl,by kernel_rfl,by kernel_rfl⟩⟩
def c_diddoc_membersOf:SCode :=.seq (.reg [⟨Sa 1,.box 25 (.t 0),Sb⟩,⟨Sa 2,.mv (.c (.o .nilFunc)),Sb⟩]) (.seq (.reg [⟨Sa 3,.mkf 64 [] [.t 1],Sb⟩,⟨Sa 2,.mv (.t 3),Sb⟩]) (.ret))
theorem is_diddoc_membersOf:FnIs Tryz.prog 23 4 [.tmp 2] c_diddoc_membersOf:=⟨⟨_,_,Tryz.func23,rfl,rfl,by kernel_rfl,by kernel_rfl⟩⟩
def c_diddoc_subject:SCode :=.seq (.reg [⟨Sa 1,.box 25 (.t 0),Sb⟩,⟨Sa 2,.alloc 62 [.s [],.s []],Sb⟩,⟨Sa 3,.mv (.c (.i .i64 0)),Sb⟩]) (.seq (.reg [⟨Sa 9,.loadn 4 (.t 1),Sb⟩,⟨Sa 10,.call 65 [.t 9,.c (.s [105,100])],Sb⟩,⟨Sa 8,.mv (.t 10),Sb⟩,⟨Sa 11,.ext (.t 8) 0,Sb⟩,⟨Sa 12,.ext (.t 8) 1,Sb⟩,⟨Sa 4,.mv (.t 11),Sb⟩,⟨Sa 5,.mv (.t 12),Sb⟩]) (.seq (.seq (.reg [⟨Sa 13,.mv (.t 5),Sb⟩,⟨Sa 14,.not (.t 13),Sb⟩]) (.cond (.t 14) (.seq (.reg [⟨Sa 15,.build [.s [],.s []] [],Sb⟩,⟨Sb,.store 2 (.t 2) (.t 15),Sb⟩,⟨Sa 3,.mv (.c (.i .i64 160)),Sb⟩]) (.ret)) (.skip))) (.seq (.reg [⟨Sa 17,.mv (.t 4),Sb⟩,⟨Sa 18,.call 66 [.t 17],Sb⟩,⟨Sa 16,.mv (.t 18),Sb⟩,⟨Sa 19,.ext (.t 16) 0,Sb⟩,⟨Sa 20,.ext (.t 16) 1,Sb⟩,⟨Sa 6,.alloc 62 [.s [],.s []],Sb⟩,⟨Sb,.store 2 (.t 6) (.t 19),Sb⟩,⟨Sa 7,.mv (.t 20),Sb⟩]) (.seq (.seq (.reg [⟨Sa 21,.mv (.t 7),Sb⟩,⟨Sa 22,.bin .neq (.t 21) (.c (.i .i64 0)),Sb⟩]) (.cond (.t 22) (.seq (.reg [⟨Sa 23,.build [.s [],.s []] [],Sb⟩,⟨Sb,.store 2 (.t 2) (.t 23),Sb⟩,⟨Sa 3,.mv (.c (.i .i64 160)),Sb⟩]) (.ret)) (.skip))) (.seq (.reg [⟨Sa 24,.loadn 2 (.t 6),Sb⟩,⟨Sb,.store 2 (.t 2) (.t 24),Sb⟩,⟨Sa 3,.mv (.c (.i .i64 0)),Sb⟩]) (.ret))))))
theorem is_diddoc_subject:FnIs Tryz.prog 24 25 [.celln 2 2,.tmp 3] c_diddoc_subject:=⟨⟨_,_,Tryz.func24,rfl,rfl,by kernel_rfl,by kernel_rfl⟩⟩
def c_did_FormatDID:SCode :=.seq (.reg [⟨Sa 1,.box 62 (.t 0),Sb⟩,⟨Sa 2,.mv (.c (.s [])),Sb⟩]) (.seq (.reg [⟨Sa 3,.fad 0 (.t 1),Sb⟩,⟨Sa 4,.load1 (.t 3),Sb⟩,⟨Sa 5,.bin .add (.c (.s [100,105,100,58])) (.t 4),Sb⟩,⟨Sa 6,.bin .add (.t 5) (.c (.s [58])),Sb⟩,⟨Sa 7,.fad 1 (.t 1),Sb⟩,⟨Sa 8,.load1 (.t 7),Sb⟩,⟨Sa 9,.bin .add (.t 6) (.t 8),Sb⟩,⟨Sa 2,.mv (.t 9),Sb⟩]) (.ret))
theorem is_did_FormatDID:FnIs Tryz.prog 25 10 [.tmp 2] c_did_FormatDID:=⟨⟨_,_,Tryz.func25,rfl,rfl,by kernel_rfl,by kernel_rfl⟩⟩
def c_diddoc_listed:SCode :=.seq (.reg [⟨Sa 1,.box 25 (.t 0),Sb⟩,⟨Sa 2,.mv (.c .nil),Sb⟩,⟨Sa 3,.mv (.c (.i .i64 0)),Sb⟩]) (.seq (.seq (.reg [⟨Sa 4,.fad 0 (.t 1),Sb⟩,⟨Sa 5,.load1 (.t 4),Sb⟩,⟨Sa 6,.bin .neq (.t 5) (.c (.i .i64 6)),Sb⟩]) (.cond (.t 6) (.seq (.reg [⟨Sa 2,.mv (.c .nil),Sb⟩,⟨Sa 3,.mv (.c (.i .i64 160)),Sb⟩]) (.ret)) (.skip))) (.seq (.reg [⟨Sa 7,.fad 3 (.t 1),Sb⟩,⟨Sa 8,.load1 (.t 7),Sb⟩,⟨Sa 9,.call 67 [.t 8],Sb⟩,⟨Sa 10,.ext (.t 9) 0,Sb⟩,⟨Sa 11,.ext (.t 9) 1,Sb⟩,⟨Sa 2,.mv (.t 10),Sb⟩,⟨Sa 3,.mv (.t 11),Sb⟩]) (.ret)))
theorem is_diddoc_listed:FnIs Tryz.prog 26 12 [.tmp 2,.tmp 3] c_diddoc_listed:=⟨⟨_,_,Tryz.func26,rfl,rfl,by kernel_rfl,by kernel_rfl⟩⟩
def c_diddoc_oneOrListed:SCode :=.seq (.reg [⟨Sa 1,.box 25 (.t 0),Sb⟩,⟨Sa 2,.mv (.c .nil),Sb⟩,⟨Sa 3,.mv (.c (.i .i64 0)),Sb⟩]) (.seq (.seq (.reg [⟨Sa 4,.fad 0 (.t 1),Sb⟩,⟨Sa 5,.load1 (.t 4),Sb⟩,⟨Sa 6,.bin .eql (.t 5) (.c (.i .i64 6)),Sb⟩]) (.cond (.t 6) (.seq (.reg [⟨Sa 7,.loadn 4 (.t 1),Sb⟩,⟨Sa 8,.call 26 [.t 7],Sb⟩,⟨Sa 9,.ext (.t 8) 0,Sb⟩,⟨Sa 10,.ext (.t 8) 1,Sb⟩,⟨Sa 2,.mv (.t 9),Sb⟩,⟨Sa 3,.mv (.t 10),Sb⟩]) (.ret)) (.skip))) (.seq (.reg [⟨Sa 11,.loadn 4 (.t 1),Sb⟩,⟨Sa 12,.bslice 1 [.i .i64 0,.s [],.nil,.nil] [(0,(4,.t 11))],Sb⟩,⟨Sa 13,.call 67 [.t 12],Sb⟩,⟨Sa 14,.ext (.t 13) 0,Sb⟩,⟨Sa 15,.ext (.t 13) 1,Sb⟩,⟨Sa 2,.mv (.t 14),Sb⟩,⟨Sa 3,.mv (.t 15),Sb⟩]) (.ret)))
theorem is_diddoc_oneOrListed:FnIs Tryz.prog 27 16 [.tmp 2,.tmp 3] c_diddoc_oneOrListed:=⟨⟨_,_,Tryz.func27,rfl,rfl,by kernel_rfl,by kernel_rfl⟩⟩
def c_diddoc_elements__api_Method:SCode :=.seq (.reg [⟨Sa 3,.box 25 (.t 0),Sb⟩,⟨Sa 4,.box 62 (.t 1),Sb⟩,⟨Sa 6,.mv (.c .nil),Sb⟩,⟨Sa 7,.mv (.c (.i .i64 0)),Sb⟩]) (.seq (.seq (.reg [⟨Sa 13,.fad 0 (.t 3),Sb⟩,⟨Sa 14,.load1 (.t 13),Sb⟩,⟨Sa 15,.bin .neq (.t 14) (.c (.i .i64 6)),Sb⟩]) (.cond (.t 15) (.seq (.reg [⟨Sa 6,.mv (.c .nil),Sb⟩,⟨Sa 7,.mv (.c (.i .i64 160)),Sb⟩]) (.ret)) (.skip))) (.seq (.seq (.reg [⟨Sa 16,.fad 3 (.t 3),Sb⟩,⟨Sa 17,.load1 (.t 16),Sb⟩,⟨Sa 18,.lenr (.t 17),Sb⟩,⟨Sa 19,.bin .gtr (.t 18) (.c (.i .i64 64)),Sb⟩]) (.cond (.t 19) (.seq (.reg [⟨Sa 6,.mv (.c .nil),Sb⟩,⟨Sa 7,.mv (.c (.i .i64 161)),Sb⟩]) (.ret)) (.skip))) (.seq (.reg [⟨Sa 8,.mv (.c .nil),Sb⟩]) (.seq (.seq (.reg [⟨Sa 20,.fad 3 (.t 3),Sb⟩,⟨Sa 21,.load1 (.t 20),Sb⟩,⟨Sa 22,.lenr (.t 21),Sb⟩,⟨Sa 23,.mv (.c (.i .i64 0)),Sb⟩]) (.blk 0 (.loop (.seq (.reg [⟨Sa 24,.bin .lss (.t 23) (.t 22),Sb⟩]) (.seq (.cond (.t 24) (.skip) (.exit 0)) (.seq (.blk 1 (.seq (.reg [⟨Sa 25,.iad 4 (.t 21) (.t 23),Sb⟩,⟨Sa 26,.loadn 4 (.t 25),Sb⟩,⟨Sa 10,.alloc 25 [.i .i64 0,.s [],.nil,.nil],Sb⟩,⟨Sb,.store 4 (.t 10) (.t 26),Sb⟩]) (.seq (.reg [⟨Sa 28,.mv (.t 2),Sb⟩,⟨Sa 29,.loadn 4 (.t 10),Sb⟩,⟨Sa 30,.loadn 2 (.t 4),Sb⟩,⟨Sa 31,.callv (.t 28) [.t 29,.t 30],Sb⟩,⟨Sa 27,.mv (.t 31),Sb⟩,⟨Sa 32,.ext (.t 27) 0,Sb⟩,⟨Sa 33,.ext (.t 27) 1,Sb⟩,⟨Sa 11,.alloc 48 [.s [],.s [],.s []],Sb⟩,⟨Sb,.store 3 (.t 11) (.t 32),Sb⟩,⟨Sa 12,.mv (.t 33),Sb⟩]) (.seq (.seq (.reg [⟨Sa 34,.mv (.t 12),Sb⟩,⟨Sa 35,.bin .neq (.t 34) (.c (.i .i64 0)),Sb⟩]) (.cond (.t 35) (.seq (.reg [⟨Sa 36,.mv (.t 12),Sb⟩,⟨Sa 6,.mv (.c .nil),Sb⟩,⟨Sa 7,.mv (.t 36),Sb⟩]) (.ret)) (.skip))) (.reg [⟨Sa 37,.mv (.t 8),Sb⟩,⟨Sa 38,.loadn 3 (.t 11),Sb⟩,⟨Sa 39,.bslice 1 [.s [],.s [],.s []] [(0,(3,.t 38))],Sb⟩,⟨Sa 40,.app 48 3 48 (.t 37) (.t 39),Sb⟩,⟨Sa 8,.mv (.t 40),Sb⟩]))))) (.reg [⟨Sa 41,.bin .add (.t 23) (.c (.i .i64 1)),Sb⟩,⟨Sa 23,.mv (.t 41),Sb⟩]))))))) (.seq (.reg [⟨Sa 42,.mv (.t 8),Sb⟩,⟨Sa 6,.mv (.t 42),Sb⟩,⟨Sa 7,.mv (.c (.i .i64 0)),Sb⟩]) (.ret))))))
theorem is_diddoc_elements__api_Method:FnIs Tryz.prog 28 43 [.tmp 6,.tmp 7] c_diddoc_elements__api_Method:=⟨⟨_,_,Tryz.func28,rfl,rfl,by kernel_rfl,by kernel_rfl⟩⟩
def c_diddoc_decodeMethod:SCode :=.seq (.reg [⟨Sa 2,.box 25 (.t 0),Sb⟩,⟨Sa 3,.box 62 (.t 1),Sb⟩,⟨Sa 4,.alloc 48 [.s [],.s [],.s []],Sb⟩,⟨Sa 5,.mv (.c (.i .i64 0)),Sb⟩]) (.seq (.reg [⟨Sa 13,.loadn 4 (.t 2),Sb⟩,⟨Sa 14,.loadn 2 (.t 3),Sb⟩,⟨Sa 15,.call 41 [.t 13,.t 14],Sb⟩,⟨Sa 12,.mv (.t 15),Sb⟩,⟨Sa 16,.ext (.t 12) 0,Sb⟩,⟨Sa 17,.ext (.t 12) 1,Sb⟩,⟨Sa 6,.mv (.t 16),Sb⟩,⟨Sa 7,.mv (.t 17),Sb⟩]) (.seq (.seq (.reg [⟨Sa 18,.mv (.t 7),Sb⟩,⟨Sa 19,.bin .neq (.t 18) (.c (.i .i64 0)),Sb⟩]) (.cond (.t 19) (.seq (.reg [⟨Sa 20,.build [.s [],.s [],.s []] [],Sb⟩,⟨Sa 21,.mv (.t 7),Sb⟩,⟨Sb,.store 3 (.t 4) (.t 20),Sb⟩,⟨Sa 5,.mv (.t 21),Sb⟩]) (.ret)) (.skip))) (.seq (.reg [⟨Sa 23,.loadn 4 (.t 2),Sb⟩,⟨Sa 24,.call 65 [.t 23,.c (.s [116,121,112,101])],Sb⟩,⟨Sa 22,.mv (.t 24),Sb⟩,⟨Sa 25,.ext (.t 22) 0,Sb⟩,⟨Sa 26,.ext (.t 22) 1,Sb⟩,⟨Sa 8,.mv (.t 25),Sb⟩,⟨Sa 9,.mv (.t 26),Sb⟩]) (.seq (.reg [⟨Sa 28,.loadn 4 (.t 2),Sb⟩,⟨Sa 29,.call 65 [.t 28,.c (.s [99,111,110,116,114,111,108,108,101,114])],Sb⟩,⟨Sa 27,.mv (.t 29),Sb⟩,⟨Sa 30,.ext (.t 27) 0,Sb⟩,⟨Sa 31,.ext (.t 27) 1,Sb⟩,⟨Sa 10,.mv (.t 30),Sb⟩,⟨Sa 11,.mv (.t 31),Sb⟩]) (.seq (.seq (.reg [⟨Sa 32,.mv (.t 9),Sb⟩,⟨Sa 33,.not (.t 32),Sb⟩,⟨Sa 34,.mv (.t 33),Sb⟩,⟨Sa 35,.mv (.t 11),some (34,false)⟩,⟨Sa 36,.not (.t 35),some (34,false)⟩,⟨Sa 37,.pick (.t 34) (.c (.b true)) (.t 36),Sb⟩]) (.cond (.t 37) (.seq (.reg [⟨Sa 38,.build [.s [],.s [],.s []] [],Sb⟩,⟨Sb,.store 3 (.t 4) (.t 38),Sb⟩,⟨Sa 5,.mv (.c (.i .i64 160)),Sb⟩]) (.ret)) (.skip))) (.seq (.reg [⟨Sa 39,.mv (.t 6),Sb⟩,⟨Sa 40,.mv (.t 8),Sb⟩,⟨Sa 41,.mv (.t 10),Sb⟩,⟨Sa 42,.build [.s [],.s [],.s []] [(0,(1,.t 39)),(1,(1,.t 40)),(2,(1,.t 41))],Sb⟩,⟨Sb,.store 3 (.t 4) (.t 42),Sb⟩,⟨Sa 5,.mv (.c (.i .i64 0)),Sb⟩]) (.ret)))))))
theorem is_diddoc_decodeMethod:FnIs Tryz.prog 29 43 [.celln 4 3,.tmp 5] c_diddoc_decodeMethod:=⟨⟨_,_,Tryz.func29,rfl,rfl,by kernel_rfl,by kernel_rfl⟩⟩
def c_diddoc_elements__api_Service:SCode :=.seq (.reg [⟨Sa 3,.box 25 (.t 0),Sb⟩,⟨Sa 4,.box 62 (.t 1),Sb⟩,⟨Sa 6,.mv (.c .nil),Sb⟩,⟨Sa 7,.mv (.c (.i .i64 0)),Sb⟩]) (.seq (.seq (.reg [⟨Sa 13,.fad 0 (.t 3),Sb⟩,⟨Sa 14,.load1 (.t 13),Sb⟩,⟨Sa 15,.bin .neq (.t 14) (.c (.i .i64 6)),Sb⟩]) (.cond (.t 15) (.seq (.reg [⟨Sa 6,.mv (.c .nil),Sb⟩,⟨Sa 7,.mv (.c (.i .i64 160)),Sb⟩]) (.ret)) (.skip))) (.seq (.seq (.reg [⟨Sa 16,.fad 3 (.t 3),Sb⟩,⟨Sa 17,.load1 (.t 16),Sb⟩,⟨Sa 18,.lenr (.t 17),Sb⟩,⟨Sa 19,.bin .gtr (.t 18) (.c (.i .i64 64)),Sb⟩]) (.cond (.t 19) (.seq (.reg [⟨Sa 6,.mv (.c .nil),Sb⟩,⟨Sa 7,.mv (.c (.i .i64 161)),Sb⟩]) (.ret)) (.skip))) (.seq (.reg [⟨Sa 8,.mv (.c .nil),Sb⟩]) (.seq (.seq (.reg [⟨Sa 20,.fad 3 (.t 3),Sb⟩,⟨Sa 21,.load1 (.t 20),Sb⟩,⟨Sa 22,.lenr (.t 21),Sb⟩,⟨Sa 23,.mv (.c (.i .i64 0)),Sb⟩]) (.blk 0 (.loop (.seq (.reg [⟨Sa 24,.bin .lss (.t 23) (.t 22),Sb⟩]) (.seq (.cond (.t 24) (.skip) (.exit 0)) (.seq (.blk 1 (.seq (.reg [⟨Sa 25,.iad 4 (.t 21) (.t 23),Sb⟩,⟨Sa 26,.loadn 4 (.t 25),Sb⟩,⟨Sa 10,.alloc 25 [.i .i64 0,.s [],.nil,.nil],Sb⟩,⟨Sb,.store 4 (.t 10) (.t 26),Sb⟩]) (.seq (.reg [⟨Sa 28,.mv (.t 2),Sb⟩,⟨Sa 29,.loadn 4 (.t 10),Sb⟩,⟨Sa 30,.loadn 2 (.t 4),Sb⟩,⟨Sa 31,.callv (.t 28) [.t 29,.t 30],Sb⟩,⟨Sa 27,.mv (.t 31),Sb⟩,⟨Sa 32,.ext (.t 27) 0,Sb⟩,⟨Sa 33,.ext (.t 27) 1,Sb⟩,⟨Sa 11,.alloc 46 [.s [],.nil,.nil],Sb⟩,⟨Sb,.store 3 (.t 11) (.t 32),Sb⟩,⟨Sa 12,.mv (.t 33),Sb⟩]) (.seq (.seq (.reg [⟨Sa 34,.mv (.t 12),Sb⟩,⟨Sa 35,.bin .neq (.t 34) (.c (.i .i64 0)),Sb⟩]) (.cond (.t 35) (.seq (.reg [⟨Sa 36,.mv (.t 12),Sb⟩,⟨Sa 6,.mv (.c .nil),Sb⟩,⟨Sa 7,.mv (.t 36),Sb⟩]) (.ret)) (.skip))) (.reg [⟨Sa 37,.mv (.t 8),Sb⟩,⟨Sa 38,.loadn 3 (.t 11),Sb⟩,⟨Sa 39,.bslice 1 [.s [],.nil,.nil] [(0,(3,.t 38))],Sb⟩,⟨Sa 40,.app 46 3 64 (.t 37) (.t 39),Sb⟩,⟨Sa 8,.mv (.t 40),Sb⟩]))))) (.reg [⟨Sa 41,.bin .add (.t 23) (.c (.i .i64 1)),Sb⟩,⟨Sa 23,.mv (.t 41),Sb⟩]))))))) (.seq (.reg [⟨Sa 42,.mv (.t 8),Sb⟩,⟨Sa 6,.mv (.t 42),Sb⟩,⟨Sa 7,.mv (.c (.i .i64 0)),Sb⟩]) (.ret))))))
theorem is_diddoc_elements__api_Service:FnIs Tryz.prog 30 43 [.tmp 6,.tmp 7] c_diddoc_elements__api_Service:=⟨⟨_,_,Tryz.func30,rfl,rfl,by kernel_rfl,by kernel_rfl⟩⟩
def c_diddoc_decodeService:SCode :=.seq (.reg [⟨Sa 2,.box 25 (.t 0),Sb⟩,⟨Sa 3,.box 62 (.t 1),Sb⟩,⟨Sa 4,.alloc 46 [.s [],.nil,.nil],Sb⟩,⟨Sa 5,.mv (.c (.i .i64 0)),Sb⟩]) (.seq (.reg [⟨Sa 14,.loadn 4 (.t 2),Sb⟩,⟨Sa 15,.call 23 [.t 14],Sb⟩,⟨Sa 6,.mv (.t 15),Sb⟩]) (.seq (.reg [⟨Sa 17,.loadn 4 (.t 2),Sb⟩,⟨Sa 18,.loadn 2 (.t 3),Sb⟩,⟨Sa 19,.call 41 [.t 17,.t 18],Sb⟩,⟨Sa 16,.mv (.t 19),Sb⟩,⟨Sa 20,.ext (.t 16) 0,Sb⟩,⟨Sa 21,.ext (.t 16) 1,Sb⟩,⟨Sa 7,.mv (.t 20),Sb⟩,⟨Sa 8,.mv (.t 21),Sb⟩]) (.seq (.seq (.reg [⟨Sa 22,.mv (.t 8),Sb⟩,⟨Sa 23,.bin .neq (.t 22) (.c (.i .i64 0)),Sb⟩]) (.cond (.t 23) (.seq (.reg [⟨Sa 24,.build [.s [],.nil,.nil] [],Sb⟩,⟨Sa 25,.mv (.t 8),Sb⟩,⟨Sb,.store 3 (.t 4) (.t 24),Sb⟩,⟨Sa 5,.mv (.t 25),Sb⟩]) (.ret)) (.skip))) (.seq (.reg [⟨Sa 26,.mv (.t 7),Sb⟩,⟨Sa 27,.build [.s [],.nil,.nil] [(0,(1,.t 26))],Sb⟩,⟨Sa 9,.alloc 46 [.s [],.nil,.nil],Sb⟩,⟨Sb,.store 3 (.t 9) (.t 27),Sb⟩]) (.seq (.reg [⟨Sa 29,.mv (.t 6),Sb⟩,⟨Sa 30,.callv (.t 29) [.c (.s [116,121,112,101])],Sb⟩,⟨Sa 28,.mv (.t 30),Sb⟩,⟨Sa 31,.ext (.t 28) 0,Sb⟩,⟨Sa 32,.ext (.t 28) 1,Sb⟩,⟨Sa 10,.alloc 25 [.i .i64 0,.s [],.nil,.nil],Sb⟩,⟨Sb,.store 4 (.t 10) (.t 31),Sb⟩,⟨Sa 11,.mv (.t 32),Sb⟩]) (.seq (.seq (.reg [⟨Sa 34,.loadn 4 (.t 10),Sb⟩,⟨Sa 35,.call 27 [.t 34],Sb⟩,⟨Sa 33,.mv (.t 35),Sb⟩,⟨Sa 36,.ext (.t 33) 0,Sb⟩,⟨Sa 37,.ext (.t 33) 1,Sb⟩,⟨Sa 38,.fad 1 (.t 9),Sb⟩,⟨Sb,.store 1 (.t 38) (.t 36),Sb⟩,⟨Sa 8,.mv (.t 37),Sb⟩]) (.seq (.reg [⟨Sa 39,.mv (.t 8),Sb⟩,⟨Sa 40,.bin .neq (.t 39) (.c (.i .i64 0)),Sb⟩]) (.cond (.t 40) (.seq (.reg [⟨Sa 41,.build [.s [],.nil,.nil] [],Sb⟩,⟨Sa 42,.mv (.t 8),Sb⟩,⟨Sb,.store 3 (.t 4) (.t 41),Sb⟩,⟨Sa 5,.mv (.t 42),Sb⟩]) (.ret)) (.skip)))) (.seq (.reg [⟨Sa 44,.mv (.t 6),Sb⟩,⟨Sa 45,.callv (.t 44) [.c (.s [115,101,114,118,105,99,101,69,110,100,112,111,105,110,116])],Sb⟩,⟨Sa 43,.mv (.t 45),Sb⟩,⟨Sa 46,.ext (.t 43) 0,Sb⟩,⟨Sa 47,.ext (.t 43) 1,Sb⟩,⟨Sa 12,.alloc 25 [.i .i64 0,.s [],.nil,.nil],Sb⟩,⟨Sb,.store 4 (.t 12) (.t 46),Sb⟩,⟨Sa 13,.mv (.t 47),Sb⟩]) (.seq (.seq (.reg [⟨Sa 48,.fad 0 (.t 12),Sb⟩,⟨Sa 49,.load1 (.t 48),Sb⟩,⟨Sa 50,.bin .eql (.t 49) (.c (.i .i64 7)),Sb⟩]) (.cond (.t 50) (.seq (.reg [⟨Sa 51,.loadn 3 (.t 9),Sb⟩,⟨Sb,.store 3 (.t 4) (.t 51),Sb⟩,⟨Sa 5,.mv (.c (.i .i64 0)),Sb⟩]) (.ret)) (.skip))) (.seq (.seq (.reg [⟨Sa 53,.loadn 4 (.t 12),Sb⟩,⟨Sa 54,.call 27 [.t 53],Sb⟩,⟨Sa 52,.mv (.t 54),Sb⟩,⟨Sa 55,.ext (.t 52) 0,Sb⟩,⟨Sa 56,.ext (.t 52) 1,Sb⟩,⟨Sa 57,.fad 2 (.t 9),Sb⟩,⟨Sb,.store 1 (.t 57) (.t 55),Sb⟩,⟨Sa 8,.mv (.t 56),Sb⟩]) (.seq (.reg [⟨Sa 58,.mv (.t 8),Sb⟩,⟨Sa 59,.bin .neq (.t 58) (.c (.i .i64 0)),Sb⟩]) (.cond (.t 59) (.seq (.reg [⟨Sa 60,.build [.s [],.nil,.nil] [],Sb⟩,⟨Sa 61,.mv (.t 8),Sb⟩,⟨Sb,.store 3 (.t 4) (.t 60),Sb⟩,⟨Sa 5,.mv (.t 61),Sb⟩]) (.ret)) (.skip)))) (.seq (.reg [⟨Sa 62,.loadn 3 (.t 9),Sb⟩,⟨Sb,.store 3 (.t 4) (.t 62),Sb⟩,⟨Sa 5,.mv (.c (.i .i64 0)),Sb⟩]) (.ret)))))))))))
theorem is_diddoc_decodeService:FnIs Tryz.prog 31 63 [.celln 4 3,.tmp 5] c_diddoc_decodeService:=⟨⟨_,_,Tryz.func31,rfl,rfl,by kernel_rfl,by kernel_rfl⟩⟩
def c_ref10_ParseDID:SCode :=.seq (.reg [⟨Sa 2,.alloc 62 [.s [],.s []],Sb⟩,⟨Sa 3,.mv (.c (.i .i64 0)),Sb⟩]) (.seq (.blk 0 (.seq (.reg [⟨Sa 17,.mv (.t 0),Sb⟩,⟨Sa 18,.lens (.t 17),Sb⟩,⟨Sa 19,.bin .gtr (.t 18) (.c (.i .i64 4096)),Sb⟩,⟨Sa 16,.mv (.t 19),Sb⟩]) (.cond (.t 16) (.seq (.reg [⟨Sa 20,.build [.s [],.s []] [],Sb⟩,⟨Sb,.store 2 (.t 2) (.t 20),Sb⟩,⟨Sa 3,.mv (.c (.i .i64 5)),Sb⟩]) (.ret)) (.seq (.reg [⟨Sa 22,.mv (.t 0),Sb⟩,⟨Sa 23,.call 68 [.t 22,.c (.s [100,105,100,58])],Sb⟩,⟨Sa 24,.not (.t 23),Sb⟩,⟨Sa 21,.mv (.t 24),Sb⟩]) (.cond (.t 21) (.seq (.reg [⟨Sa 25,.build [.s [],.s []] [],Sb⟩,⟨Sb,.store 2 (.t 2) (.t 25),Sb⟩,⟨Sa 3,.mv (.c (.i .i64 60)),Sb⟩]) (.ret)) (.skip)))))) (.seq (.reg [⟨Sa 26,.mv (.t 0),Sb⟩,⟨Sa 27,.slcs (.t 26) (some (.c (.i .i64 4))) none,Sb⟩,⟨Sa 0,.mv (.t 27),Sb⟩]) (.seq (.reg [⟨Sa 28,.mv (.t 0),Sb⟩,⟨Sa 29,.call 69 [.t 28,.c (.s [58])],Sb⟩,⟨Sa 4,.mv (.t 29),Sb⟩]) (.seq (.seq (.reg [⟨Sa 30,.mv (.t 4),Sb⟩,⟨Sa 31,.mv (.t 0),Sb⟩,⟨Sa 32,.lens (.t 31),Sb⟩,⟨Sa 33,.bin .eql (.t 30) (.t 32),Sb⟩]) (.cond (.t 33) (.seq (.reg [⟨Sa 34,.build [.s [],.s []] [],Sb⟩,⟨Sb,.store 2 (.t 2) (.t 34),Sb⟩,⟨Sa 3,.mv (.c (.i .i64 6)),Sb⟩]) (.ret)) (.skip))) (.seq (.seq (.reg [⟨Sa 35,.mv (.t 0),Sb⟩,⟨Sa 36,.mv (.t 4),Sb⟩,⟨Sa 37,.slcs (.t 35) none (some (.t 36)),Sb⟩,⟨Sa 38,.call 70 [.t 37],Sb⟩,⟨Sa 39,.not (.t 38),Sb⟩]) (.cond (.t 39) (.seq (.reg [⟨Sa 40,.build [.s [],.s []] [],Sb⟩,⟨Sb,.store 2 (.t 2) (.t 40),Sb⟩,⟨Sa 3,.mv (.c (.i .i64 100)),Sb⟩]) (.ret)) (.skip))) (.seq (.reg [⟨Sa 41,.mv (.t 0),Sb⟩,⟨Sa 42,.mv (.t 4),Sb⟩,⟨Sa 43,.bin .add (.t 42) (.c (.i .i64 1)),Sb⟩,⟨Sa 44,.slcs (.t 41) (some (.t 43)) none,Sb⟩,⟨Sa 45,.call 71 [.t 44,.c (.i .u8 58)],Sb⟩,⟨Sa 5,.mv (.t 45),Sb⟩]) (.seq (.seq (.reg [⟨Sa 46,.mv (.t 5),Sb⟩,⟨Sa 47,.lenr (.t 46),Sb⟩,⟨Sa 48,.mv (.c (.i .i64 0)),Sb⟩]) (.blk 1 (.loop (.seq (.reg [⟨Sa 49,.bin .lss (.t 48) (.t 47),Sb⟩]) (.seq (.cond (.t 49) (.skip) (.exit 1)) (.seq (.blk 2 (.seq (.reg [⟨Sa 50,.iad 1 (.t 46) (.t 48),Sb⟩,⟨Sa 51,.load1 (.t 50),Sb⟩,⟨Sa 7,.mv (.t 51),Sb⟩]) (.seq (.reg [⟨Sa 53,.mv (.t 7),Sb⟩,⟨Sa 54,.call 72 [.t 53],Sb⟩,⟨Sa 52,.mv (.t 54),Sb⟩,⟨Sa 55,.ext (.t 52) 0,Sb⟩,⟨Sa 56,.ext (.t 52) 1,Sb⟩,⟨Sa 8,.mv (.t 55),Sb⟩,⟨Sa 9,.mv (.t 56),Sb⟩]) (.seq (.reg [⟨Sa 57,.mv (.t 9),Sb⟩,⟨Sa 58,.bin .neq (.t 57) (.c (.i .i64 0)),Sb⟩]) (.cond (.t 58) (.seq (.reg [⟨Sa 59,.build [.s [],.s []] [],Sb⟩,⟨Sb,.store 2 (.t 2) (.t 59),Sb⟩,⟨Sa 3,.mv (.c (.i .i64 2)),Sb⟩]) (.ret)) (.skip)))))) (.reg [⟨Sa 60,.bin .add (.t 48) (.c (.i .i64 1)),Sb⟩,⟨Sa 48,.mv (.t 60),Sb⟩]))))))) (.seq (.reg [⟨Sa 10,.mv (.c (.s [])),Sb⟩]) (.seq (.seq (.reg [⟨Sa 61,.mv (.t 5),Sb⟩,⟨Sa 62,.lenr (.t 61),Sb⟩,⟨Sa 63,.mv (.c (.i .i64 0)),Sb⟩]) (.blk 3 (.loop (.seq (.reg [⟨Sa 64,.bin .lss (.t 63) (.t 62),Sb⟩]) (.seq (.cond (.t 64) (.skip) (.exit 3)) (.seq (.blk 4 (.seq (.reg [⟨Sa 65,.mv (.t 63),Sb⟩,⟨Sa 66,.iad 1 (.t 61) (.t 63),Sb⟩,⟨Sa 67,.load1 (.t 66),Sb⟩,⟨Sa 11,.mv (.t 65),Sb⟩,⟨Sa 12,.mv (.t 67),Sb⟩]) (.seq (.seq (.reg [⟨Sa 13,.mv (.c (.i .i64 0)),Sb⟩]) (.blk 5 (.loop (.seq (.seq (.reg [⟨Sa 68,.mv (.t 13),Sb⟩,⟨Sa 69,.mv (.t 12),Sb⟩,⟨Sa 70,.lens (.t 69),Sb⟩,⟨Sa 71,.bin .lss (.t 68) (.t 70),Sb⟩]) (.cond (.t 71) (.skip) (.exit 5))) (.seq (.blk 6 (.seq (.reg [⟨Sa 74,.mv (.t 12),Sb⟩,⟨Sa 75,.mv (.t 13),Sb⟩,⟨Sa 76,.idx (.t 74) (.t 75),Sb⟩,⟨Sa 77,.call 73 [.t 76],Sb⟩,⟨Sa 78,.not (.t 77),Sb⟩,⟨Sa 79,.mv (.t 78),Sb⟩,⟨Sa 80,.mv (.t 12),some (79,true)⟩,⟨Sa 81,.mv (.t 13),some (79,true)⟩,⟨Sa 82,.idx (.t 80) (.t 81),some (79,true)⟩,⟨Sa 83,.bin .neq (.t 82) (.c (.i .u8 37)),some (79,true)⟩,⟨Sa 84,.pick (.t 79) (.t 83) (.c (.b false)),Sb⟩]) (.cond (.t 84) (.seq (.reg [⟨Sa 85,.build [.s [],.s []] [],Sb⟩,⟨Sb,.store 2 (.t 2) (.t 85),Sb⟩,⟨Sa 3,.mv (.c (.i .i64 1)),Sb⟩]) (.ret)) (.skip)))) (.reg [⟨Sa 72,.mv (.t 13),Sb⟩,⟨Sa 73,.bin .add (.t 72) (.c (.i .i64 1)),Sb⟩,⟨Sa 13,.mv (.t 73),Sb⟩])))))) (.seq (.reg [⟨Sa 87,.mv (.t 12),Sb⟩,⟨Sa 88,.call 72 [.t 87],Sb⟩,⟨Sa 86,.mv (.t 88),Sb⟩,⟨Sa 89,.ext (.t 86) 0,Sb⟩,⟨Sa 90,.ext (.t 86) 1,Sb⟩,⟨Sa 14,.mv (.t 89),Sb⟩,⟨Sa 15,.mv (.t 90),Sb⟩]) (.seq (.seq (.reg [⟨Sa 91,.mv (.t 11),Sb⟩,⟨Sa 92,.bin .gtr (.t 91) (.c (.i .i64 0)),Sb⟩]) (.cond (.t 92) (.reg [⟨Sa 93,.mv (.t 10),Sb⟩,⟨Sa 94,.bin .add (.t 93) (.c (.s [58])),Sb⟩,⟨Sa 10,.mv (.t 94),Sb⟩]) (.skip))) (.reg [⟨Sa 95,.mv (.t 10),Sb⟩,⟨Sa 96,.mv (.t 14),Sb⟩,⟨Sa 97,.call 74 [.t 96],Sb⟩,⟨Sa 98,.bin .add (.t 95) (.t 97),Sb⟩,⟨Sa 10,.mv (.t 98),Sb⟩])))))) (.reg [⟨Sa 99,.bin .add (.t 63) (.c (.i .i64 1)),Sb⟩,⟨Sa 63,.mv (.t 99),Sb⟩]))))))) (.seq (.seq (.reg [⟨Sa 100,.mv (.t 5),Sb⟩,⟨Sa 101,.mv (.t 5),Sb⟩,⟨Sa 102,.lenr (.t 101),Sb⟩,⟨Sa 103,.bin .sub (.t 102) (.c (.i .i64 1)),Sb⟩,⟨Sa 104,.iad 1 (.t 100) (.t 103),Sb⟩,⟨Sa 105,.load1 (.t 104),Sb⟩,⟨Sa 106,.bin .eql (.t 105) (.c (.s [])),Sb⟩]) (.cond (.t 106) (.seq (.reg [⟨Sa 107,.build [.s [],.s []] [],Sb⟩,⟨Sb,.store 2 (.t 2) (.t 107),Sb⟩,⟨Sa 3,.mv (.c (.i .i64 3)),Sb⟩]) (.ret)) (.skip))) (.seq (.reg [⟨Sa 108,.mv (.t 0),Sb⟩,⟨Sa 109,.mv (.t 4),Sb⟩,⟨Sa 110,.slcs (.t 108) none (some (.t 109)),Sb⟩,⟨Sa 111,.mv (.t 10),Sb⟩,⟨Sa 112,.build [.s [],.s []] [(0,(1,.t 110)),(1,(1,.t 111))],Sb⟩,⟨Sb,.store 2 (.t 2) (.t 112),Sb⟩,⟨Sa 3,.mv (.c (.i .i64 0)),Sb⟩]) (.ret))))))))))))
theorem is_ref10_ParseDID:FnIs Tryz.prog 32 113 [.celln 2 2,.tmp 3] c_ref10_ParseDID:=⟨⟨_,_,Tryz.func32,rfl,rfl,by kernel_rfl,by kernel_rfl⟩⟩
def c_ref17_reader_text:SCode :=.seq (.reg [⟨Sa 4,.box 25 (.t 1),Sb⟩,⟨Sa 6,.mv (.c (.s [])),Sb⟩]) (.seq (.reg [⟨Sa 10,.loadn 4 (.t 4),Sb⟩,⟨Sa 11,.mv (.t 2),Sb⟩,⟨Sa 12,.call 42 [.t 10,.t 11],Sb⟩,⟨Sa 9,.mv (.t 12),Sb⟩,⟨Sa 13,.ext (.t 9) 0,Sb⟩,⟨Sa 14,.ext (.t 9) 1,Sb⟩,⟨Sa 7,.alloc 25 [.i .i64 0,.s [],.nil,.nil],Sb⟩,⟨Sb,.store 4 (.t 7) (.t 13),Sb⟩,⟨Sa 8,.mv (.t 14),Sb⟩]) (.seq (.seq (.reg [⟨Sa 15,.fad 0 (.t 7),Sb⟩,⟨Sa 16,.load1 (.t 15),Sb⟩,⟨Sa 17,.bin .neq (.t 16) (.c (.i .i64 5)),Sb⟩]) (.cond (.t 17) (.reg [⟨Sa 18,.mv (.t 0),Sb⟩,⟨Sa 19,.call 75 [.t 18,.c (.i .i64 160)],Sb⟩]) (.skip))) (.seq (.reg [⟨Sa 20,.fad 1 (.t 7),Sb⟩,⟨Sa 21,.load1 (.t 20),Sb⟩,⟨Sa 6,.mv (.t 21),Sb⟩]) (.ret))))
theorem is_ref17_reader_text:FnIs Tryz.prog 33 22 [.tmp 6] c_ref17_reader_text:=⟨⟨_,_,Tryz.func33,rfl,rfl,by kernel_rfl,by kernel_rfl⟩⟩
def c_ref10_FormatDID:SCode :=.seq (.reg [⟨Sa 1,.box 62 (.t 0),Sb⟩,⟨Sa 2,.mv (.c (.s [])),Sb⟩]) (.seq (.reg [⟨Sa 3,.fad 0 (.t 1),Sb⟩,⟨Sa 4,.load1 (.t 3),Sb⟩,⟨Sa 5,.bin .add (.c (.s [100,105,100,58])) (.t 4),Sb⟩,⟨Sa 6,.bin .add (.t 5) (.c (.s [58])),Sb⟩,⟨Sa 7,.fad 1 (.t 1),Sb⟩,⟨Sa 8,.load1 (.t 7),Sb⟩,⟨Sa 9,.bin .add (.t 6) (.t 8),Sb⟩,⟨Sa 2,.mv (.t 9),Sb⟩]) (.ret))
theorem is_ref10_FormatDID:FnIs Tryz.prog 34 10 [.tmp 2] c_ref10_FormatDID:=⟨⟨_,_,Tryz.func34,rfl,rfl,by kernel_rfl,by kernel_rfl⟩⟩
def c_ref17_reader_strings:SCode :=.seq (.reg [⟨Sa 5,.box 25 (.t 1),Sb⟩,⟨Sa 8,.mv (.c .nil),Sb⟩]) (.seq (.reg [⟨Sa 15,.loadn 4 (.t 5),Sb⟩,⟨Sa 16,.mv (.t 2),Sb⟩,⟨Sa 17,.call 42 [.t 15,.t 16],Sb⟩,⟨Sa 14,.mv (.t 17),Sb⟩,⟨Sa 18,.ext (.t 14) 0,Sb⟩,⟨Sa 19,.ext (.t 14) 1,Sb⟩,⟨Sa 9,.alloc 25 [.i .i64 0,.s [],.nil,.nil],Sb⟩,⟨Sb,.store 4 (.t 9) (.t 18),Sb⟩,⟨Sa 10,.mv (.t 19),Sb⟩]) (.seq (.blk 0 (.seq (.reg [⟨Sa 21,.mv (.t 10),Sb⟩,⟨Sa 22,.not (.t 21),Sb⟩,⟨Sa 20,.mv (.t 22),Sb⟩]) (.cond (.t 20) (.seq (.reg [⟨Sa 8,.mv (.c .nil),Sb⟩]) (.ret)) (.seq (.reg [⟨Sa 24,.mv (.t 3),Sb⟩,⟨Sa 25,.mv (.t 24),Sb⟩,⟨Sa 26,.fad 0 (.t 9),some (25,true)⟩,⟨Sa 27,.load1 (.t 26),some (25,true)⟩,⟨Sa 28,.bin .eql (.t 27) (.c (.i .i64 5)),some (25,true)⟩,⟨Sa 29,.pick (.t 25) (.t 28) (.c (.b false)),Sb⟩,⟨Sa 23,.mv (.t 29),Sb⟩]) (.cond (.t 23) (.seq (.reg [⟨Sa 30,.fad 1 (.t 9),Sb⟩,⟨Sa 31,.load1 (.t 30),Sb⟩,⟨Sa 32,.bslo 9 1 1 [.s []] [(0,(1,.t 31))],Sb⟩,⟨Sa 8,.mv (.t 32),Sb⟩]) (.ret)) (.seq (.reg [⟨Sa 34,.fad 0 (.t 9),Sb⟩,⟨Sa 35,.load1 (.t 34),Sb⟩,⟨Sa 36,.bin .neq (.t 35) (.c (.i .i64 6)),Sb⟩,⟨Sa 33,.mv (.t 36),Sb⟩]) (.cond (.t 33) (.seq (.reg [⟨Sa 37,.mv (.t 0),Sb⟩,⟨Sa 38,.call 75 [.t 37,.c (.i .i64 160)],Sb⟩]) (.seq (.reg [⟨Sa 8,.mv (.c .nil),Sb⟩]) (.ret))) (.seq (.reg [⟨Sa 40,.fad 3 (.t 9),Sb⟩,⟨Sa 41,.load1 (.t 40),Sb⟩,⟨Sa 42,.lenr (.t 41),Sb⟩,⟨Sa 43,.bin .gtr (.t 42) (.c (.i .i64 64)),Sb⟩,⟨Sa 39,.mv (.t 43),Sb⟩]) (.cond (.t 39) (.seq (.reg [⟨Sa 44,.mv (.t 0),Sb⟩,⟨Sa 45,.call 75 [.t 44,.c (.i .i64 161)],Sb⟩]) (.seq (.reg [⟨Sa 8,.mv (.c .nil),Sb⟩]) (.ret))) (.skip)))))))))) (.seq (.reg [⟨Sa 11,.mv (.c .nil),Sb⟩]) (.seq (.seq (.reg [⟨Sa 46,.fad 3 (.t 9),Sb⟩,⟨Sa 47,.load1 (.t 46),Sb⟩,⟨Sa 48,.lenr (.t 47),Sb⟩,⟨Sa 49,.mv (.c (.i .i64 0)),Sb⟩]) (.blk 1 (.loop (.seq (.reg [⟨Sa 50,.bin .lss (.t 49) (.t 48),Sb⟩]) (.seq (.cond (.t 50) (.skip) (.exit 1)) (.seq (.blk 2 (.seq (.reg [⟨Sa 51,.iad 4 (.t 47) (.t 49),Sb⟩,⟨Sa 52,.loadn 4 (.t 51),Sb⟩,⟨Sa 13,.alloc 25 [.i .i64 0,.s [],.nil,.nil],Sb⟩,⟨Sb,.store 4 (.t 13) (.t 52),Sb⟩]) (.seq (.seq (.reg [⟨Sa 53,.fad 0 (.t 13),Sb⟩,⟨Sa 54,.load1 (.t 53),Sb⟩,⟨Sa 55,.bin .neq (.t 54) (.c (.i .i64 5)),Sb⟩]) (.cond (.t 55) (.reg [⟨Sa 56,.mv (.t 0),Sb⟩,⟨Sa 57,.call 75 [.t 56,.c (.i .i64 160)],Sb⟩]) (.skip))) (.reg [⟨Sa 58,.mv (.t 11),Sb⟩,⟨Sa 59,.fad 1 (.t 13),Sb⟩,⟨Sa 60,.load1 (.t 59),Sb⟩,⟨Sa 61,.bslice 1 [.s []] [(0,(1,.t 60))],Sb⟩,⟨Sa 62,.app 9 1 16 (.t 58) (.t 61),Sb⟩,⟨Sa 11,.mv (.t 62),Sb⟩])))) (.reg [⟨Sa 63,.bin .add (.t 49) (.c (.i .i64 1)),Sb⟩,⟨Sa 49,.mv (.t 63),Sb⟩]))))))) (.seq (.reg [⟨Sa 64,.mv (.t 11),Sb⟩,⟨Sa 8,.mv (.t 64),Sb⟩]) (.ret))))))
theorem is_ref17_reader_strings:FnIs Tryz.prog 35 65 [.tmp 8] c_ref17_reader_strings:=⟨⟨_,_,Tryz.func35,rfl,rfl,by kernel_rfl,by kernel_rfl⟩⟩
def c_ref17_reader_objects:SCode :=.seq (.reg [⟨Sa 4,.box 25 (.t 1),Sb⟩,⟨Sa 6,.mv (.c .nil),Sb⟩]) (.seq (.reg [⟨Sa 10,.loadn 4 (.t 4),Sb⟩,⟨Sa 11,.mv (.t 2),Sb⟩,⟨Sa 12,.call 42 [.t 10,.t 11],Sb⟩,⟨Sa 9,.mv (.t 12),Sb⟩,⟨Sa 13,.ext (.t 9) 0,Sb⟩,⟨Sa 14,.ext (.t 9) 1,Sb⟩,⟨Sa 7,.alloc 25 [.i .i64 0,.s [],.nil,.nil],Sb⟩,⟨Sb,.store 4 (.t 7) (.t 13),Sb⟩,⟨Sa 8,.mv (.t 14),Sb⟩]) (.seq (.blk 0 (.seq (.reg [⟨Sa 16,.mv (.t 8),Sb⟩,⟨Sa 17,.not (.t 16),Sb⟩,⟨Sa 15,.mv (.t 17),Sb⟩]) (.cond (.t 15) (.seq (.reg [⟨Sa 6,.mv (.c .nil),Sb⟩]) (.ret)) (.seq (.reg [⟨Sa 19,.fad 0 (.t 7),Sb⟩,⟨Sa 20,.load1 (.t 19),Sb⟩,⟨Sa 21,.bin .neq (.t 20) (.c (.i .i64 6)),Sb⟩,⟨Sa 18,.mv (.t 21),Sb⟩]) (.cond (.t 18) (.seq (.reg [⟨Sa 22,.mv (.t 0),Sb⟩,⟨Sa 23,.call 75 [.t 22,.c (.i .i64 160)],Sb⟩]) (.seq (.reg [⟨Sa 6,.mv (.c .nil),Sb⟩]) (.ret))) (.seq (.reg [⟨Sa 25,.fad 3 (.t 7),Sb⟩,⟨Sa 26,.load1 (.t 25),Sb⟩,⟨Sa 27,.lenr (.t 26),Sb⟩,⟨Sa 28,.bin .gtr (.t 27) (.c (.i .i64 64)),Sb⟩,⟨Sa 24,.mv (.t 28),Sb⟩]) (.cond (.t 24) (.seq (.reg [⟨Sa 29,.mv (.t 0),Sb⟩,⟨Sa 30,.call 75 [.t 29,.c (.i .i64 161)],Sb⟩]) (.seq (.reg [⟨Sa 6,.mv (.c .nil),Sb⟩]) (.ret))) (.skip)))))))) (.seq (.reg [⟨Sa 31,.fad 3 (.t 7),Sb⟩,⟨Sa 32,.load1 (.t 31),Sb⟩,⟨Sa 6,.mv (.t 32),Sb⟩]) (.ret))))
theorem is_ref17_reader_objects:FnIs Tryz.prog 36 33 [.tmp 6] c_ref17_reader_objects:=⟨⟨_,_,Tryz.func36,rfl,rfl,by kernel_rfl,by kernel_rfl⟩⟩
def c_ref17_reader_method:SCode :=.seq (.reg [⟨Sa 3,.box 25 (.t 1),Sb⟩,⟨Sa 4,.alloc 48 [.s [],.s [],.s []],Sb⟩]) (.seq (.seq (.reg [⟨Sa 6,.fad 0 (.t 3),Sb⟩,⟨Sa 7,.load1 (.t 6),Sb⟩,⟨Sa 8,.bin .neq (.t 7) (.c (.i .i64 7)),Sb⟩]) (.cond (.t 8) (.seq (.reg [⟨Sa 9,.mv (.t 0),Sb⟩,⟨Sa 10,.call 75 [.t 9,.c (.i .i64 160)],Sb⟩]) (.seq (.reg [⟨Sa 11,.build [.s [],.s [],.s []] [],Sb⟩,⟨Sb,.store 3 (.t 4) (.t 11),Sb⟩]) (.ret))) (.skip))) (.seq (.reg [⟨Sa 12,.mv (.t 0),Sb⟩,⟨Sa 13,.loadn 4 (.t 3),Sb⟩,⟨Sa 14,.call 76 [.t 12,.t 13],Sb⟩,⟨Sa 15,.build [.s [],.s [],.s []] [(0,(1,.t 14))],Sb⟩,⟨Sa 5,.alloc 48 [.s [],.s [],.s []],Sb⟩,⟨Sb,.store 3 (.t 5) (.t 15),Sb⟩]) (.seq (.reg [⟨Sa 16,.mv (.t 0),Sb⟩,⟨Sa 17,.loadn 4 (.t 3),Sb⟩,⟨Sa 18,.call 33 [.t 16,.t 17,.c (.s [116,121,112,101])],Sb⟩,⟨Sa 19,.fad 1 (.t 5),Sb⟩,⟨Sb,.store 1 (.t 19) (.t 18),Sb⟩]) (.seq (.reg [⟨Sa 20,.mv (.t 0),Sb⟩,⟨Sa 21,.loadn 4 (.t 3),Sb⟩,⟨Sa 22,.call 33 [.t 20,.t 21,.c (.s [99,111,110,116,114,111,108,108,101,114])],Sb⟩,⟨Sa 23,.fad 2 (.t 5),Sb⟩,⟨Sb,.store 1 (.t 23) (.t 22),Sb⟩]) (.seq (.reg [⟨Sa 24,.loadn 3 (.t 5),Sb⟩,⟨Sb,.store 3 (.t 4) (.t 24),Sb⟩]) (.ret))))))
theorem is_ref17_reader_method:FnIs Tryz.prog 37 25 [.celln 4 3] c_ref17_reader_method:=⟨⟨_,_,Tryz.func37,rfl,rfl,by kernel_rfl,by kernel_rfl⟩⟩
def c_ref17_reader_service:SCode :=.seq (.reg [⟨Sa 3,.box 25 (.t 1),Sb⟩,⟨Sa 4,.alloc 46 [.s [],.nil,.nil],Sb⟩]) (.seq (.seq (.reg [⟨Sa 10,.fad 0 (.t 3),Sb⟩,⟨Sa 11,.load1 (.t 10),Sb⟩,⟨Sa 12,.bin .neq (.t 11) (.c (.i .i64 7)),Sb⟩]) (.cond (.t 12) (.seq (.reg [⟨Sa 13,.mv (.t 0),Sb⟩,⟨Sa 14,.call 75 [.t 13,.c (.i .i64 160)],Sb⟩]) (.seq (.reg [⟨Sa 15,.build [.s [],.nil,.nil] [],Sb⟩,⟨Sb,.store 3 (.t 4) (.t 15),Sb⟩]) (.ret))) (.skip))) (.seq (.reg [⟨Sa 16,.mv (.t 0),Sb⟩,⟨Sa 17,.loadn 4 (.t 3),Sb⟩,⟨Sa 18,.call 76 [.t 16,.t 17],Sb⟩,⟨Sa 19,.build [.s [],.nil,.nil] [(0,(1,.t 18))],Sb⟩,⟨Sa 5,.alloc 46 [.s [],.nil,.nil],Sb⟩,⟨Sb,.store 3 (.t 5) (.t 19),Sb⟩]) (.seq (.seq (.reg [⟨Sa 21,.loadn 4 (.t 3),Sb⟩,⟨Sa 22,.call 42 [.t 21,.c (.s [116,121,112,101])],Sb⟩,⟨Sa 20,.mv (.t 22),Sb⟩,⟨Sa 23,.ext (.t 20) 0,Sb⟩,⟨Sa 24,.ext (.t 20) 1,Sb⟩,⟨Sa 6,.alloc 25 [.i .i64 0,.s [],.nil,.nil],Sb⟩,⟨Sb,.store 4 (.t 6) (.t 23),Sb⟩,⟨Sa 7,.mv (.t 24),Sb⟩]) (.seq (.reg [⟨Sa 25,.mv (.t 7),Sb⟩,⟨Sa 26,.not (.t 25),Sb⟩]) (.cond (.t 26) (.reg [⟨Sa 27,.mv (.t 0),Sb⟩,⟨Sa 28,.call 75 [.t 27,.c (.i .i64 160)],Sb⟩]) (.skip)))) (.seq (.reg [⟨Sa 29,.mv (.t 0),Sb⟩,⟨Sa 30,.loadn 4 (.t 3),Sb⟩,⟨Sa 31,.call 35 [.t 29,.t 30,.c (.s [116,121,112,101]),.c (.b true)],Sb⟩,⟨Sa 32,.fad 1 (.t 5),Sb⟩,⟨Sb,.store 1 (.t 32) (.t 31),Sb⟩]) (.seq (.reg [⟨Sa 34,.loadn 4 (.t 3),Sb⟩,⟨Sa 35,.call 42 [.t 34,.c (.s [115,101,114,118,105,99,101,69,110,100,112,111,105,110,116])],Sb⟩,⟨Sa 33,.mv (.t 35),Sb⟩,⟨Sa 36,.ext (.t 33) 0,Sb⟩,⟨Sa 37,.ext (.t 33) 1,Sb⟩,⟨Sa 8,.alloc 25 [.i .i64 0,.s [],.nil,.nil],Sb⟩,⟨Sb,.store 4 (.t 8) (.t 36),Sb⟩,⟨Sa 9,.mv (.t 37),Sb⟩]) (.seq (.seq (.reg [⟨Sa 38,.mv (.t 9),Sb⟩,⟨Sa 39,.not (.t 38),Sb⟩]) (.cond (.t 39) (.reg [⟨Sa 40,.mv (.t 0),Sb⟩,⟨Sa 41,.call 75 [.t 40,.c (.i .i64 160)],Sb⟩]) (.skip))) (.seq (.seq (.reg [⟨Sa 42,.fad 0 (.t 8),Sb⟩,⟨Sa 43,.load1 (.t 42),Sb⟩,⟨Sa 44,.bin .neq (.t 43) (.c (.i .i64 7)),Sb⟩]) (.cond (.t 44) (.reg [⟨Sa 45,.mv (.t 0),Sb⟩,⟨Sa 46,.loadn 4 (.t 3),Sb⟩,⟨Sa 47,.call 35 [.t 45,.t 46,.c (.s [115,101,114,118,105,99,101,69,110,100,112,111,105,110,116]),.c (.b true)],Sb⟩,⟨Sa 48,.fad 2 (.t 5),Sb⟩,⟨Sb,.store 1 (.t 48) (.t 47),Sb⟩]) (.skip))) (.seq (.reg [⟨Sa 49,.loadn 3 (.t 5),Sb⟩,⟨Sb,.store 3 (.t 4) (.t 49),Sb⟩]) (.ret)))))))))
theorem is_ref17_reader_service:FnIs Tryz.prog 38 50 [.celln 4 3] c_ref17_reader_service:=⟨⟨_,_,Tryz.func38,rfl,rfl,by kernel_rfl,by kernel_rfl⟩⟩
def c_jsondoc_Get:SCode :=.seq (.reg [⟨Sa 2,.box 25 (.t 0),Sb⟩,⟨Sa 4,.alloc 25 [.i .i64 0,.s [],.nil,.nil],Sb⟩,⟨Sa 5,.mv (.c (.b false)),Sb⟩]) (.seq (.seq (.reg [⟨Sa 7,.fad 0 (.t 2),Sb⟩,⟨Sa 8,.load1 (.t 7),Sb⟩,⟨Sa 9,.bin .neq (.t 8) (.c (.i .i64 7)),Sb⟩]) (.cond (.t 9) (.seq (.reg [⟨Sa 10,.build [.i .i64 0,.s [],.nil,.nil] [],Sb⟩,⟨Sb,.store 4 (.t 4) (.t 10),Sb⟩,⟨Sa 5,.mv (.c (.b false)),Sb⟩]) (.ret)) (.skip))) (.seq (.reg [⟨Sa 11,.fad 2 (.t 2),Sb⟩,⟨Sa 12,.load1 (.t 11),Sb⟩,⟨Sa 13,.mv (.t 1),Sb⟩,⟨Sa 14,.call 77 [.t 12,.t 13],Sb⟩,⟨Sa 6,.mv (.t 14),Sb⟩]) (.seq (.seq (.reg [⟨Sa 15,.mv (.t 6),Sb⟩,⟨Sa 16,.bin .lss (.t 15) (.c (.i .i64 0)),Sb⟩,⟨Sa 17,.mv (.t 16),Sb⟩,⟨Sa 18,.mv (.t 6),some (17,false)⟩,⟨Sa 19,.fad 3 (.t 2),some (17,false)⟩,⟨Sa 20,.load1 (.t 19),some (17,false)⟩,⟨Sa 21,.lenr (.t 20),some (17,false)⟩,⟨Sa 22,.bin .geq (.t 18) (.t 21),some (17,false)⟩,⟨Sa 23,.pick (.t 17) (.c (.b true)) (.t 22),Sb⟩]) (.cond (.t 23) (.seq (.reg [⟨Sa 24,.build [.i .i64 0,.s [],.nil,.nil] [],Sb⟩,⟨Sb,.store 4 (.t 4) (.t 24),Sb⟩,⟨Sa 5,.mv (.c (.b false)),Sb⟩]) (.ret)) (.skip))) (.seq (.reg [⟨Sa 25,.fad 3 (.t 2),Sb⟩,⟨Sa 26,.load1 (.t 25),Sb⟩,⟨Sa 27,.mv (.t 6),Sb⟩,⟨Sa 28,.iad 4 (.t 26) (.t 27),Sb⟩,⟨Sa 29,.loadn 4 (.t 28),Sb⟩,⟨Sa 30,.call 78 [.t 29],Sb⟩,⟨Sb,.store 4 (.t 4) (.t 30),Sb⟩,⟨Sa 5,.mv (.c (.b true)),Sb⟩]) (.ret)))))
theorem is_jsondoc_Get:FnIs Tryz.prog 40 31 [.celln 4 4,.tmp 5] c_jsondoc_Get:=⟨⟨_,_,Tryz.func40,rfl,rfl,by kernel_rfl,by kernel_rfl⟩⟩
def c_diddoc_memberID:SCode :=.seq (.reg [⟨Sa 2,.box 25 (.t 0),Sb⟩,⟨Sa 3,.box 62 (.t 1),Sb⟩,⟨Sa 4,.mv (.c (.s [])),Sb⟩,⟨Sa 5,.mv (.c (.i .i64 0)),Sb⟩]) (.seq (.reg [⟨Sa 11,.loadn 4 (.t 2),Sb⟩,⟨Sa 12,.call 65 [.t 11,.c (.s [105,100])],Sb⟩,⟨Sa 10,.mv (.t 12),Sb⟩,⟨Sa 13,.ext (.t 10) 0,Sb⟩,⟨Sa 14,.ext (.t 10) 1,Sb⟩,⟨Sa 6,.mv (.t 13),Sb⟩,⟨Sa 7,.mv (.t 14),Sb⟩]) (.seq (.seq (.reg [⟨Sa 15,.mv (.t 7),Sb⟩,⟨Sa 16,.not (.t 15),Sb⟩]) (.cond (.t 16) (.seq (.reg [⟨Sa 4,.mv (.c (.s [])),Sb⟩,⟨Sa 5,.mv (.c (.i .i64 160)),Sb⟩]) (.ret)) (.skip))) (.seq (.reg [⟨Sa 18,.loadn 2 (.t 3),Sb⟩,⟨Sa 19,.mv (.t 6),Sb⟩,⟨Sa 20,.call 79 [.t 18,.t 19],Sb⟩,⟨Sa 17,.mv (.t 20),Sb⟩,⟨Sa 21,.ext (.t 17) 0,Sb⟩,⟨Sa 22,.ext (.t 17) 1,Sb⟩,⟨Sa 8,.alloc 87 [.s [],.s [],.s [],.s [],.s [],.b false,.b false],Sb⟩,⟨Sb,.store 7 (.t 8) (.t 21),Sb⟩,⟨Sa 9,.mv (.t 22),Sb⟩]) (.seq (.seq (.reg [⟨Sa 23,.mv (.t 9),Sb⟩,⟨Sa 24,.bin .neq (.t 23) (.c (.i .i64 0)),Sb⟩]) (.cond (.t 24) (.seq (.reg [⟨Sa 4,.mv (.c (.s [])),Sb⟩,⟨Sa 5,.mv (.c (.i .i64 160)),Sb⟩]) (.ret)) (.skip))) (.seq (.reg [⟨Sa 25,.loadn 7 (.t 8),Sb⟩,⟨Sa 26,.call 80 [.t 25],Sb⟩,⟨Sa 4,.mv (.t 26),Sb⟩,⟨Sa 5,.mv (.c (.i .i64 0)),Sb⟩]) (.ret))))))
theorem is_diddoc_memberID:FnIs Tryz.prog 41 27 [.tmp 4,.tmp 5] c_diddoc_memberID:=⟨⟨_,_,Tryz.func41,rfl,rfl,by kernel_rfl,by kernel_rfl⟩⟩
def c_ref14_Get:SCode :=.seq (.reg [⟨Sa 2,.box 25 (.t 0),Sb⟩,⟨Sa 4,.alloc 25 [.i .i64 0,.s [],.nil,.nil],Sb⟩,⟨Sa 5,.mv (.c (.b false)),Sb⟩]) (.seq (.seq (.reg [⟨Sa 7,.fad 0 (.t 2),Sb⟩,⟨Sa 8,.load1 (.t 7),Sb⟩,⟨Sa 9,.bin .neq (.t 8) (.c (.i .i64 7)),Sb⟩]) (.cond (.t 9) (.seq (.reg [⟨Sa 10,.build [.i .i64 0,.s [],.nil,.nil] [],Sb⟩,⟨Sb,.store 4 (.t 4) (.t 10),Sb⟩,⟨Sa 5,.mv (.c (.b false)),Sb⟩]) (.ret)) (.skip))) (.seq (.seq (.reg [⟨Sa 11,.fad 2 (.t 2),Sb⟩,⟨Sa 12,.load1 (.t 11),Sb⟩,⟨Sa 13,.lenr (.t 12),Sb⟩,⟨Sa 14,.mv (.c (.i .i64 0)),Sb⟩]) (.blk 0 (.loop (.seq (.reg [⟨Sa 15,.bin .lss (.t 14) (.t 13),Sb⟩]) (.seq (.cond (.t 15) (.skip) (.exit 0)) (.seq (.blk 1 (.seq (.reg [⟨Sa 16,.mv (.t 14),Sb⟩,⟨Sa 6,.mv (.t 16),Sb⟩]) (.seq (.reg [⟨Sa 17,.fad 2 (.t 2),Sb⟩,⟨Sa 18,.load1 (.t 17),Sb⟩,⟨Sa 19,.mv (.t 6),Sb⟩,⟨Sa 20,.iad 1 (.t 18) (.t 19),Sb⟩,⟨Sa 21,.load1 (.t 20),Sb⟩,⟨Sa 22,.mv (.t 1),Sb⟩,⟨Sa 23,.bin .eql (.t 21) (.t 22),Sb⟩,⟨Sa 24,.mv (.t 23),Sb⟩,⟨Sa 25,.mv (.t 6),some (24,true)⟩,⟨Sa 26,.fad 3 (.t 2),some (24,true)⟩,⟨Sa 27,.load1 (.t 26),some (24,true)⟩,⟨Sa 28,.lenr (.t 27),some (24,true)⟩,⟨Sa 29,.bin .lss (.t 25) (.t 28),some (24,true)⟩,⟨Sa 30,.pick (.t 24) (.t 29) (.c (.b false)),Sb⟩]) (.cond (.t 30) (.seq (.reg [⟨Sa 31,.fad 3 (.t 2),Sb⟩,⟨Sa 32,.load1 (.t 31),Sb⟩,⟨Sa 33,.mv (.t 6),Sb⟩,⟨Sa 34,.iad 4 (.t 32) (.t 33),Sb⟩,⟨Sa 35,.loadn 4 (.t 34),Sb⟩,⟨Sb,.store 4 (.t 4) (.t 35),Sb⟩,⟨Sa 5,.mv (.c (.b true)),Sb⟩]) (.ret)) (.skip))))) (.reg [⟨Sa 36,.bin .add (.t 14) (.c (.i .i64 1)),Sb⟩,⟨Sa 14,.mv (.t 36),Sb⟩]))))))) (.seq (.reg [⟨Sa 37,.build [.i .i64 0,.s [],.nil,.nil] [],Sb⟩,⟨Sb,.store 4 (.t 4) (.t 37),Sb⟩,⟨Sa 5,.mv (.c (.b false)),Sb⟩]) (.ret))))
theorem is_ref14_Get:FnIs Tryz.prog 42 38 [.celln 4 4,.tmp 5] c_ref14_Get:=⟨⟨_,_,Tryz.func42,rfl,rfl,by kernel_rfl,by kernel_rfl⟩⟩
def c_ref10_Resolve:SCode :=.seq (.reg [⟨Sa 2,.box 62 (.t 0),Sb⟩,⟨Sa 4,.alloc 87 [.s [],.s [],.s [],.s [],.s [],.b false,.b false],Sb⟩,⟨Sa 5,.mv (.c (.i .i64 0)),Sb⟩]) (.seq (.seq (.reg [⟨Sa 6,.mv (.t 1),Sb⟩,⟨Sa 7,.call 68 [.t 6,.c (.s [100,105,100,58])],Sb⟩]) (.cond (.t 7) (.seq (.reg [⟨Sa 8,.mv (.t 1),Sb⟩,⟨Sa 9,.call 81 [.t 8],Sb⟩,⟨Sa 10,.ext (.t 9) 0,Sb⟩,⟨Sa 11,.ext (.t 9) 1,Sb⟩,⟨Sb,.store 7 (.t 4) (.t 10),Sb⟩,⟨Sa 5,.mv (.t 11),Sb⟩]) (.ret)) (.skip))) (.seq (.seq (.reg [⟨Sa 12,.mv (.t 1),Sb⟩,⟨Sa 13,.bin .neq (.t 12) (.c (.s [])),Sb⟩,⟨Sa 14,.mv (.t 13),Sb⟩,⟨Sa 15,.mv (.t 1),some (14,true)⟩,⟨Sa 16,.idx (.t 15) (.c (.i .i64 0)),some (14,true)⟩,⟨Sa 17,.call 82 [.t 16,.c (.s [47,63,35])],some (14,true)⟩,⟨Sa 18,.not (.t 17),some (14,true)⟩,⟨Sa 19,.pick (.t 14) (.t 18) (.c (.b false)),Sb⟩]) (.cond (.t 19) (.seq (.reg [⟨Sa 20,.build [.s [],.s [],.s [],.s [],.s [],.b false,.b false] [],Sb⟩,⟨Sb,.store 7 (.t 4) (.t 20),Sb⟩,⟨Sa 5,.mv (.c (.i .i64 6)),Sb⟩]) (.ret)) (.skip))) (.seq (.reg [⟨Sa 21,.loadn 2 (.t 2),Sb⟩,⟨Sa 22,.call 34 [.t 21],Sb⟩,⟨Sa 23,.mv (.t 1),Sb⟩,⟨Sa 24,.bin .add (.t 22) (.t 23),Sb⟩,⟨Sa 25,.call 81 [.t 24],Sb⟩,⟨Sa 26,.ext (.t 25) 0,Sb⟩,⟨Sa 27,.ext (.t 25) 1,Sb⟩,⟨Sb,.store 7 (.t 4) (.t 26),Sb⟩,⟨Sa 5,.mv (.t 27),Sb⟩]) (.ret))))
theorem is_ref10_Resolve:FnIs Tryz.prog 43 28 [.celln 4 7,.tmp 5] c_ref10_Resolve:=⟨⟨_,_,Tryz.func43,rfl,rfl,by kernel_rfl,by kernel_rfl⟩⟩
def c_ref10_Format:SCode :=.seq (.reg [⟨Sa 1,.box 87 (.t 0),Sb⟩,⟨Sa 2,.mv (.c (.s [])),Sb⟩]) (.seq (.drw [⟨Sa 4,.fad 0 (.t 1),Sb⟩,⟨Sa 5,.loadn 2 (.t 4),Sb⟩,⟨Sa 6,.call 34 [.t 5],Sb⟩,⟨Sa 7,.fad 2 (.t 1),Sb⟩,⟨Sa 8,.load1 (.t 7),Sb⟩,⟨Sa 9,.bin .add (.t 6) (.t 8),Sb⟩,⟨Sa 3,.mv (.t 9),Sb⟩] 7 []) (.seq (.seq (.reg [⟨Sa 10,.fad 5 (.t 1),Sb⟩,⟨Sa 11,.load1 (.t 10),Sb⟩]) (.cond (.t 11) (.reg [⟨Sa 12,.mv (.t 3),Sb⟩,⟨Sa 13,.fad 3 (.t 1),Sb⟩,⟨Sa 14,.load1 (.t 13),Sb⟩,⟨Sa 15,.bin .add (.c (.s [63])) (.t 14),Sb⟩,⟨Sa 16,.bin .add (.t 12) (.t 15),Sb⟩,⟨Sa 3,.mv (.t 16),Sb⟩]) (.skip))) (.seq (.seq (.reg [⟨Sa 17,.fad 6 (.t 1),Sb⟩,⟨Sa 18,.load1 (.t 17),Sb⟩]) (.cond (.t 18) (.reg [⟨Sa 19,.mv (.t 3),Sb⟩,⟨Sa 20,.fad 4 (.t 1),Sb⟩,⟨Sa 21,.load1 (.t 20),Sb⟩,⟨Sa 22,.bin .add (.c (.s [35])) (.t 21),Sb⟩,⟨Sa 23,.bin .add (.t 19) (.t 22),Sb⟩,⟨Sa 3,.mv (.t 23),Sb⟩]) (.skip))) (.seq (.reg [⟨Sa 24,.mv (.t 3),Sb⟩,⟨Sa 2,.mv (.t 24),Sb⟩]) (.ret)))))
theorem is_ref10_Format:FnIs Tryz.prog 44 25 [.tmp 2] c_ref10_Format:=⟨⟨_,_,Tryz.func44,rfl,rfl,by kernel_rfl,by kernel_rfl⟩⟩
def c_ref14_is:SCode :=.seq (.reg [⟨Sa 2,.box 56 (.t 0),Sb⟩,⟨Sa 4,.mv (.c (.b false)),Sb⟩]) (.seq (.reg [⟨Sa 5,.fad 0 (.t 2),Sb⟩,⟨Sa 6,.load1 (.t 5),Sb⟩,⟨Sa 7,.bin .eql (.t 6) (.c (.i .i64 2)),Sb⟩,⟨Sa 8,.mv (.t 7),Sb⟩,⟨Sa 9,.fad 1 (.t 2),some (8,true)⟩,⟨Sa 10,.load1 (.t 9),some (8,true)⟩,⟨Sa 11,.mv (.t 1),some (8,true)⟩,⟨Sa 12,.bin .eql (.t 10) (.t 11),some (8,true)⟩,⟨Sa 13,.pick (.t 8) (.t 12) (.c (.b false)),Sb⟩,⟨Sa 4,.mv (.t 13),Sb⟩]) (.ret))
theorem is_ref14_is:FnIs Tryz.prog 58 14 [.tmp 4] c_ref14_is:=⟨⟨_,_,Tryz.func58,rfl,rfl,by kernel_rfl,by kernel_rfl⟩⟩
def c_ref13_Number:SCode :=.seq (.reg [⟨Sa 2,.mv (.c (.s [])),Sb⟩,⟨Sa 3,.mv (.c (.i .i64 0)),Sb⟩]) (.seq (.seq (.reg [⟨Sa 9,.mv (.t 0),Sb⟩,⟨Sa 10,.bin .eql (.t 9) (.c (.s [])),Sb⟩,⟨Sa 11,.mv (.t 10),Sb⟩,⟨Sa 12,.mv (.t 0),some (11,false)⟩,⟨Sa 13,.call 84 [.t 12],some (11,false)⟩,⟨Sa 14,.mv (.t 0),some (11,false)⟩,⟨Sa 15,.lens (.t 14),some (11,false)⟩,⟨Sa 16,.bin .neq (.t 13) (.t 15),some (11,false)⟩,⟨Sa 17,.pick (.t 11) (.c (.b true)) (.t 16),Sb⟩]) (.cond (.t 17) (.seq (.reg [⟨Sa 2,.mv (.c (.s [])),Sb⟩,⟨Sa 3,.mv (.c (.i .i64 130)),Sb⟩]) (.ret)) (.skip))) (.seq (.reg [⟨Sa 4,.mv (.c (.s [])),Sb⟩]) (.seq (.seq (.reg [⟨Sa 18,.mv (.t 0),Sb⟩,⟨Sa 19,.idx (.t 18) (.c (.i .i64 0)),Sb⟩,⟨Sa 20,.bin .eql (.t 19) (.c (.i .u8 45)),Sb⟩]) (.cond (.t 20) (.drw [⟨Sa 21,.mv (.t 0),Sb⟩,⟨Sa 22,.slcs (.t 21) (some (.c (.i .i64 1))) none,Sb⟩,⟨Sa 4,.mv (.c (.s [45])),Sb⟩,⟨Sa 0,.mv (.t 22),Sb⟩] 4 []) (.skip))) (.seq (.reg [⟨Sa 23,.mv (.t 0),Sb⟩,⟨Sa 24,.call 69 [.t 23,.c (.s [101,69])],Sb⟩,⟨Sa 5,.mv (.t 24),Sb⟩]) (.seq (.drw [⟨Sa 25,.mv (.t 0),Sb⟩,⟨Sa 26,.mv (.t 5),Sb⟩,⟨Sa 27,.bin .add (.t 26) (.c (.i .i64 1)),Sb⟩,⟨Sa 28,.call 86 [.t 25,.t 27],Sb⟩,⟨Sa 29,.call 85 [.t 28],Sb⟩,⟨Sa 30,.mv (.t 0),Sb⟩,⟨Sa 31,.mv (.t 5),Sb⟩,⟨Sa 32,.slcs (.t 30) none (some (.t 31)),Sb⟩,⟨Sa 6,.mv (.t 29),Sb⟩,⟨Sa 7,.mv (.t 32),Sb⟩] 10 []) (.seq (.seq (.reg [⟨Sa 33,.mv (.t 7),Sb⟩,⟨Sa 34,.call 69 [.t 33,.c (.s [46])],Sb⟩,⟨Sa 8,.mv (.t 34),Sb⟩]) (.seq (.reg [⟨Sa 35,.mv (.t 8),Sb⟩,⟨Sa 36,.mv (.t 7),Sb⟩,⟨Sa 37,.lens (.t 36),Sb⟩,⟨Sa 38,.bin .lss (.t 35) (.t 37),Sb⟩]) (.cond (.t 38) (.drw [⟨Sa 39,.mv (.t 6),Sb⟩,⟨Sa 40,.mv (.t 7),Sb⟩,⟨Sa 41,.lens (.t 40),Sb⟩,⟨Sa 42,.mv (.t 8),Sb⟩,⟨Sa 43,.bin .sub (.t 41) (.t 42),Sb⟩,⟨Sa 44,.bin .sub (.t 43) (.c (.i .i64 1)),Sb⟩,⟨Sa 45,.bin .sub (.t 39) (.t 44),Sb⟩,⟨Sa 46,.mv (.t 7),Sb⟩,⟨Sa 47,.mv (.t 8),Sb⟩,⟨Sa 48,.slcs (.t 46) none (some (.t 47)),Sb⟩,⟨Sa 49,.mv (.t 7),Sb⟩,⟨Sa 50,.mv (.t 8),Sb⟩,⟨Sa 51,.bin .add (.t 50) (.c (.i .i64 1)),Sb⟩,⟨Sa 52,.slcs (.t 49) (some (.t 51)) none,Sb⟩,⟨Sa 53,.bin .add (.t 48) (.t 52),Sb⟩,⟨Sa 6,.mv (.t 45),Sb⟩,⟨Sa 7,.mv (.t 53),Sb⟩] 17 []) (.skip)))) (.seq (.blk 0 (.loop (.seq (.seq (.reg [⟨Sa 54,.mv (.t 7),Sb⟩,⟨Sa 55,.lens (.t 54),Sb⟩,⟨Sa 56,.bin .gtr (.t 55) (.c (.i .i64 0)),Sb⟩,⟨Sa 57,.mv (.t 56),Sb⟩,⟨Sa 58,.mv (.t 7),some (57,true)⟩,⟨Sa 59,.idx (.t 58) (.c (.i .i64 0)),some (57,true)⟩,⟨Sa 60,.bin .eql (.t 59) (.c (.i .u8 48)),some (57,true)⟩,⟨Sa 61,.pick (.t 57) (.t 60) (.c (.b false)),Sb⟩]) (.cond (.t 61) (.skip) (.exit 0))) (.blk 1 (.reg [⟨Sa 62,.mv (.t 7),Sb⟩,⟨Sa 63,.slcs (.t 62) (some (.c (.i .i64 1))) none,Sb⟩,⟨Sa 7,.mv (.t 63),Sb⟩]))))) (.seq (.seq (.reg [⟨Sa 64,.mv (.t 7),Sb⟩,⟨Sa 65,.bin .eql (.t 64) (.c (.s [])),Sb⟩]) (.cond (.t 65) (.seq (.reg [⟨Sa 2,.mv (.c (.s [48])),Sb⟩,⟨Sa 3,.mv (.c (.i .i64 0)),Sb⟩]) (.ret)) (.skip))) (.seq (.blk 2 (.loop (.seq (.seq (.reg [⟨Sa 66,.mv (.t 7),Sb⟩,⟨Sa 67,.mv (.t 7),Sb⟩,⟨Sa 68,.lens (.t 67),Sb⟩,⟨Sa 69,.bin .sub (.t 68) (.c (.i .i64 1)),Sb⟩,⟨Sa 70,.idx (.t 66) (.t 69),Sb⟩,⟨Sa 71,.bin .eql (.t 70) (.c (.i .u8 48)),Sb⟩]) (.cond (.t 71) (.skip) (.exit 2))) (.blk 3 (.reg [⟨Sa 72,.mv (.t 7),Sb⟩,⟨Sa 73,.mv (.t 7),Sb⟩,⟨Sa 74,.lens (.t 73),Sb⟩,⟨Sa 75,.bin .sub (.t 74) (.c (.i .i64 1)),Sb⟩,⟨Sa 76,.slcs (.t 72) none (some (.t 75)),Sb⟩,⟨Sa 77,.mv (.t 6),Sb⟩,⟨Sa 78,.bin .add (.t 77) (.c (.i .i64 1)),Sb⟩,⟨Sa 7,.mv (.t 76),Sb⟩,⟨Sa 6,.mv (.t 78),Sb⟩]))))) (.seq (.blk 4 (.seq (.reg [⟨Sa 80,.mv (.t 7),Sb⟩,⟨Sa 81,.lens (.t 80),Sb⟩,⟨Sa 82,.bin .gtr (.t 81) (.c (.i .i64 40)),Sb⟩,⟨Sa 83,.mv (.t 82),Sb⟩,⟨Sa 84,.mv (.t 6),some (83,false)⟩,⟨Sa 85,.bin .gtr (.t 84) (.c (.i .i64 400)),some (83,false)⟩,⟨Sa 86,.pick (.t 83) (.c (.b true)) (.t 85),Sb⟩,⟨Sa 87,.mv (.t 86),Sb⟩,⟨Sa 88,.mv (.t 6),some (87,false)⟩,⟨Sa 89,.bin .lss (.t 88) (.c (.i .i64 (-400))),some (87,false)⟩,⟨Sa 90,.pick (.t 87) (.c (.b true)) (.t 89),Sb⟩,⟨Sa 79,.mv (.t 90),Sb⟩]) (.cond (.t 79) (.seq (.reg [⟨Sa 2,.mv (.c (.s [])),Sb⟩,⟨Sa 3,.mv (.c (.i .i64 144)),Sb⟩]) (.ret)) (.seq (.reg [⟨Sa 92,.mv (.t 6),Sb⟩,⟨Sa 93,.bin .lss (.t 92) (.c (.i .i64 0)),Sb⟩,⟨Sa 91,.mv (.t 93),Sb⟩]) (.cond (.t 91) (.seq (.reg [⟨Sa 94,.mv (.t 4),Sb⟩,⟨Sa 95,.mv (.t 7),Sb⟩,⟨Sa 96,.bin .add (.t 94) (.t 95),Sb⟩,⟨Sa 97,.bin .add (.t 96) (.c (.s [101,45])),Sb⟩,⟨Sa 98,.mv (.t 6),Sb⟩,⟨Sa 99,.neg (.t 98),Sb⟩,⟨Sa 100,.cvi .u64 (.t 99),Sb⟩,⟨Sa 101,.call 87 [.t 100],Sb⟩,⟨Sa 102,.bin .add (.t 97) (.t 101),Sb⟩,⟨Sa 2,.mv (.t 102),Sb⟩,⟨Sa 3,.mv (.c (.i .i64 0)),Sb⟩]) (.ret)) (.seq (.reg [⟨Sa 104,.mv (.t 6),Sb⟩,⟨Sa 105,.bin .gtr (.t 104) (.c (.i .i64 0)),Sb⟩,⟨Sa 103,.mv (.t 105),Sb⟩]) (.cond (.t 103) (.seq (.reg [⟨Sa 106,.mv (.t 4),Sb⟩,⟨Sa 107,.mv (.t 7),Sb⟩,⟨Sa 108,.bin .add (.t 106) (.t 107),Sb⟩,⟨Sa 109,.bin .add (.t 108) (.c (.s [101])),Sb⟩,⟨Sa 110,.mv (.t 6),Sb⟩,⟨Sa 111,.cvi .u64 (.t 110),Sb⟩,⟨Sa 112,.call 87 [.t 111],Sb⟩,⟨Sa 113,.bin .add (.t 109) (.t 112),Sb⟩,⟨Sa 2,.mv (.t 113),Sb⟩,⟨Sa 3,.mv (.c (.i .i64 0)),Sb⟩]) (.ret)) (.skip)))))))) (.seq (.reg [⟨Sa 114,.mv (.t 4),Sb⟩,⟨Sa 115,.mv (.t 7),Sb⟩,⟨Sa 116,.bin .add (.t 114) (.t 115),Sb⟩,⟨Sa 2,.mv (.t 116),Sb⟩,⟨Sa 3,.mv (.c (.i .i64 0)),Sb⟩]) (.ret))))))))))))
theorem is_ref13_Number:FnIs Tryz.prog 59 117 [.tmp 2,.tmp 3] c_ref13_Number:=⟨⟨_,_,Tryz.func59,rfl,rfl,by kernel_rfl,by kernel_rfl⟩⟩
def c_ref14_word:SCode :=.seq (.reg [⟨Sa 2,.mv (.c (.i .i64 0)),Sb⟩]) (.seq (.seq (.reg [⟨Sa 3,.mv (.t 0),Sb⟩]) (.blk 0 (.seq (.reg [⟨Sa 5,.bin .eql (.t 3) (.c (.s [116,114,117,101])),Sb⟩,⟨Sa 4,.mv (.t 5),Sb⟩]) (.cond (.t 4) (.seq (.reg [⟨Sa 2,.mv (.c (.i .i64 3)),Sb⟩]) (.ret)) (.seq (.reg [⟨Sa 7,.bin .eql (.t 3) (.c (.s [102,97,108,115,101])),Sb⟩,⟨Sa 6,.mv (.t 7),Sb⟩]) (.cond (.t 6) (.seq (.reg [⟨Sa 2,.mv (.c (.i .i64 2)),Sb⟩]) (.ret)) (.skip))))))) (.seq (.reg [⟨Sa 2,.mv (.c (.i .i64 1)),Sb⟩]) (.ret)))
theorem is_ref14_word:FnIs Tryz.prog 60 8 [.tmp 2] c_ref14_word:=⟨⟨_,_,Tryz.func60,rfl,rfl,by kernel_rfl,by kernel_rfl⟩⟩
def c_ref14_parser_array:SCode :=.seq (.reg [⟨Sa 4,.alloc 25 [.i .i64 0,.s [],.nil,.nil],Sb⟩]) (.seq (.reg [⟨Sa 7,.build [.i .i64 0,.s [],.nil,.nil] [(0,(1,.c (.i .i64 6)))],Sb⟩,⟨Sa 5,.alloc 25 [.i .i64 0,.s [],.nil,.nil],Sb⟩,⟨Sb,.store 4 (.t 5) (.t 7),Sb⟩]) (.seq (.reg [⟨Sa 8,.mv (.t 0),Sb⟩,⟨Sa 9,.call 21 [.t 8],Sb⟩,⟨Sa 6,.alloc 56 [.i .i64 0,.s [],.i .i64 0],Sb⟩,⟨Sb,.store 3 (.t 6) (.t 9),Sb⟩]) (.seq (.seq (.reg [⟨Sa 10,.loadn 3 (.t 6),Sb⟩,⟨Sa 11,.call 58 [.t 10,.c (.s [93])],Sb⟩]) (.cond (.t 11) (.seq (.reg [⟨Sa 12,.loadn 4 (.t 5),Sb⟩,⟨Sb,.store 4 (.t 4) (.t 12),Sb⟩]) (.ret)) (.skip))) (.seq (.blk 0 (.loop (.seq (.seq (.reg [⟨Sa 13,.mv (.t 0),Sb⟩,⟨Sa 14,.nck (.t 13),Sb⟩,⟨Sa 15,.fad 3 (.t 14),Sb⟩,⟨Sa 16,.load1 (.t 15),Sb⟩,⟨Sa 17,.bin .eql (.t 16) (.c (.i .i64 0)),Sb⟩]) (.cond (.t 17) (.skip) (.exit 0))) (.blk 1 (.seq (.crg [⟨Sa 18,.fad 3 (.t 5),Sb⟩,⟨Sa 19,.load1 (.t 18),Sb⟩,⟨Sa 20,.mv (.t 0),Sb⟩,⟨Sa 21,.loadn 3 (.t 6),Sb⟩,⟨Sa 22,.mv (.t 1),Sb⟩] ⟨Sa 23,.call 20 [.t 20,.t 21,.t 22],Sb⟩ [⟨Sa 24,.bslice 1 [.i .i64 0,.s [],.nil,.nil] [(0,(4,.t 23))],Sb⟩,⟨Sa 25,.app 25 4 72 (.t 19) (.t 24),Sb⟩,⟨Sa 26,.fad 3 (.t 5),Sb⟩,⟨Sb,.store 1 (.t 26) (.t 25),Sb⟩]) (.seq (.reg [⟨Sa 27,.mv (.t 0),Sb⟩,⟨Sa 28,.call 21 [.t 27],Sb⟩,⟨Sb,.store 3 (.t 6) (.t 28),Sb⟩]) (.seq (.seq (.reg [⟨Sa 29,.loadn 3 (.t 6),Sb⟩,⟨Sa 30,.call 58 [.t 29,.c (.s [93])],Sb⟩]) (.cond (.t 30) (.seq (.reg [⟨Sa 31,.loadn 4 (.t 5),Sb⟩,⟨Sb,.store 4 (.t 4) (.t 31),Sb⟩]) (.ret)) (.skip))) (.seq (.seq (.reg [⟨Sa 32,.mv (.t 0),Sb⟩,⟨Sa 33,.nck (.t 32),Sb⟩,⟨Sa 34,.fad 3 (.t 33),Sb⟩,⟨Sa 35,.load1 (.t 34),Sb⟩,⟨Sa 36,.bin .eql (.t 35) (.c (.i .i64 0)),Sb⟩,⟨Sa 37,.mv (.t 36),Sb⟩,⟨Sa 38,.loadn 3 (.t 6),some (37,true)⟩,⟨Sa 39,.call 58 [.t 38,.c (.s [44])],some (37,true)⟩,⟨Sa 40,.not (.t 39),some (37,true)⟩,⟨Sa 41,.pick (.t 37) (.t 40) (.c (.b false)),Sb⟩]) (.cond (.t 41) (.reg [⟨Sa 42,.mv (.t 0),Sb⟩,⟨Sa 43,.fad 2 (.t 6),Sb⟩,⟨Sa 44,.load1 (.t 43),Sb⟩,⟨Sa 45,.call 22 [.t 42,.t 44,.c (.i .i64 140)],Sb⟩]) (.skip))) (.reg [⟨Sa 46,.mv (.t 0),Sb⟩,⟨Sa 47,.call 21 [.t 46],Sb⟩,⟨Sb,.store 3 (.t 6) (.t 47),Sb⟩]))))))))) (.seq (.reg [⟨Sa 48,.loadn 4 (.t 5),Sb⟩,⟨Sb,.store 4 (.t 4) (.t 48),Sb⟩]) (.ret))))))
theorem is_ref14_parser_array:FnIs Tryz.prog 61 49 [.celln 4 4] c_ref14_parser_array:=⟨⟨_,_,Tryz.func61,rfl,rfl,by kernel_rfl,by kernel_rfl⟩⟩
def c_ref14_parser_object:SCode :=.seq (.reg [⟨Sa 4,.alloc 25 [.i .i64 0,.s [],.nil,.nil],Sb⟩]) (.seq (.reg [⟨Sa 11,.build [.i .i64 0,.s [],.nil,.nil] [(0,(1,.c (.i .i64 7)))],Sb⟩,⟨Sa 5,.alloc 25 [.i .i64 0,.s [],.nil,.nil],Sb⟩,⟨Sb,.store 4 (.t 5) (.t 11),Sb⟩]) (.seq (.reg [⟨Sa 12,.mv (.t 0),Sb⟩,⟨Sa 13,.call 21 [.t 12],Sb⟩,⟨Sa 6,.alloc 56 [.i .i64 0,.s [],.i .i64 0],Sb⟩,⟨Sb,.store 3 (.t 6) (.t 13),Sb⟩]) (.seq (.seq (.reg [⟨Sa 14,.loadn 3 (.t 6),Sb⟩,⟨Sa 15,.call 58 [.t 14,.c (.s [125])],Sb⟩]) (.cond (.t 15) (.seq (.reg [⟨Sa 16,.loadn 4 (.t 5),Sb⟩,⟨Sb,.store 4 (.t 4) (.t 16),Sb⟩]) (.ret)) (.skip))) (.seq (.blk 0 (.loop (.seq (.seq (.reg [⟨Sa 17,.mv (.t 0),Sb⟩,⟨Sa 18,.nck (.t 17),Sb⟩,⟨Sa 19,.fad 3 (.t 18),Sb⟩,⟨Sa 20,.load1 (.t 19),Sb⟩,⟨Sa 21,.bin .eql (.t 20) (.c (.i .i64 0)),Sb⟩]) (.cond (.t 21) (.skip) (.exit 0))) (.blk 1 (.seq (.seq (.reg [⟨Sa 22,.fad 0 (.t 6),Sb⟩,⟨Sa 23,.load1 (.t 22),Sb⟩,⟨Sa 24,.bin .neq (.t 23) (.c (.i .i64 3)),Sb⟩]) (.cond (.t 24) (.reg [⟨Sa 25,.mv (.t 0),Sb⟩,⟨Sa 26,.fad 2 (.t 6),Sb⟩,⟨Sa 27,.load1 (.t 26),Sb⟩,⟨Sa 28,.call 22 [.t 25,.t 27,.c (.i .i64 140)],Sb⟩]) (.skip))) (.seq (.seq (.reg [⟨Sa 30,.loadn 4 (.t 5),Sb⟩,⟨Sa 31,.fad 1 (.t 6),Sb⟩,⟨Sa 32,.load1 (.t 31),Sb⟩,⟨Sa 33,.call 42 [.t 30,.t 32],Sb⟩,⟨Sa 29,.mv (.t 33),Sb⟩,⟨Sa 34,.ext (.t 29) 0,Sb⟩,⟨Sa 35,.ext (.t 29) 1,Sb⟩,⟨Sa 7,.alloc 25 [.i .i64 0,.s [],.nil,.nil],Sb⟩,⟨Sb,.store 4 (.t 7) (.t 34),Sb⟩,⟨Sa 8,.mv (.t 35),Sb⟩]) (.seq (.reg [⟨Sa 36,.mv (.t 8),Sb⟩]) (.cond (.t 36) (.reg [⟨Sa 37,.mv (.t 0),Sb⟩,⟨Sa 38,.fad 2 (.t 6),Sb⟩,⟨Sa 39,.load1 (.t 38),Sb⟩,⟨Sa 40,.call 22 [.t 37,.t 39,.c (.i .i64 143)],Sb⟩]) (.skip)))) (.seq (.reg [⟨Sa 41,.fad 1 (.t 6),Sb⟩,⟨Sa 42,.load1 (.t 41),Sb⟩,⟨Sa 9,.mv (.t 42),Sb⟩]) (.seq (.seq (.reg [⟨Sa 43,.mv (.t 0),Sb⟩,⟨Sa 44,.call 21 [.t 43],Sb⟩,⟨Sb,.store 3 (.t 6) (.t 44),Sb⟩]) (.seq (.reg [⟨Sa 45,.mv (.t 0),Sb⟩,⟨Sa 46,.nck (.t 45),Sb⟩,⟨Sa 47,.fad 3 (.t 46),Sb⟩,⟨Sa 48,.load1 (.t 47),Sb⟩,⟨Sa 49,.bin .eql (.t 48) (.c (.i .i64 0)),Sb⟩,⟨Sa 50,.mv (.t 49),Sb⟩,⟨Sa 51,.loadn 3 (.t 6),some (50,true)⟩,⟨Sa 52,.call 58 [.t 51,.c (.s [58])],some (50,true)⟩,⟨Sa 53,.not (.t 52),some (50,true)⟩,⟨Sa 54,.pick (.t 50) (.t 53) (.c (.b false)),Sb⟩]) (.cond (.t 54) (.reg [⟨Sa 55,.mv (.t 0),Sb⟩,⟨Sa 56,.fad 2 (.t 6),Sb⟩,⟨Sa 57,.load1 (.t 56),Sb⟩,⟨Sa 58,.call 22 [.t 55,.t 57,.c (.i .i64 140)],Sb⟩]) (.skip)))) (.seq (.reg [⟨Sa 59,.mv (.t 0),Sb⟩,⟨Sa 60,.mv (.t 0),Sb⟩,⟨Sa 61,.call 21 [.t 60],Sb⟩,⟨Sa 62,.mv (.t 1),Sb⟩,⟨Sa 63,.call 20 [.t 59,.t 61,.t 62],Sb⟩,⟨Sa 10,.alloc 25 [.i .i64 0,.s [],.nil,.nil],Sb⟩,⟨Sb,.store 4 (.t 10) (.t 63),Sb⟩]) (.seq (.drw [⟨Sa 64,.fad 2 (.t 5),Sb⟩,⟨Sa 65,.load1 (.t 64),Sb⟩,⟨Sa 66,.mv (.t 9),Sb⟩,⟨Sa 67,.bslice 1 [.s []] [(0,(1,.t 66))],Sb⟩,⟨Sa 68,.app 9 1 16 (.t 65) (.t 67),Sb⟩,⟨Sa 69,.fad 3 (.t 5),Sb⟩,⟨Sa 70,.load1 (.t 69),Sb⟩,⟨Sa 71,.loadn 4 (.t 10),Sb⟩,⟨Sa 72,.bslice 1 [.i .i64 0,.s [],.nil,.nil] [(0,(4,.t 71))],Sb⟩,⟨Sa 73,.app 25 4 72 (.t 70) (.t 72),Sb⟩,⟨Sa 74,.fad 2 (.t 5),Sb⟩,⟨Sb,.store 1 (.t 74) (.t 68),Sb⟩,⟨Sa 75,.fad 3 (.t 5),Sb⟩,⟨Sb,.store 1 (.t 75) (.t 73),Sb⟩] 14 [(69,(68,none)),(10,(68,none))]) (.seq (.reg [⟨Sa 76,.mv (.t 0),Sb⟩,⟨Sa 77,.call 21 [.t 76],Sb⟩,⟨Sb,.store 3 (.t 6) (.t 77),Sb⟩]) (.seq (.seq (.reg [⟨Sa 78,.loadn 3 (.t 6),Sb⟩,⟨Sa 79,.call 58 [.t 78,.c (.s [125])],Sb⟩]) (.cond (.t 79) (.seq (.reg [⟨Sa 80,.loadn 4 (.t 5),Sb⟩,⟨Sb,.store 4 (.t 4) (.t 80),Sb⟩]) (.ret)) (.skip))) (.seq (.seq (.reg [⟨Sa 81,.mv (.t 0),Sb⟩,⟨Sa 82,.nck (.t 81),Sb⟩,⟨Sa 83,.fad 3 (.t 82),Sb⟩,⟨Sa 84,.load1 (.t 83),Sb⟩,⟨Sa 85,.bin .eql (.t 84) (.c (.i .i64 0)),Sb⟩,⟨Sa 86,.mv (.t 85),Sb⟩,⟨Sa 87,.loadn 3 (.t 6),some (86,true)⟩,⟨Sa 88,.call 58 [.t 87,.c (.s [44])],some (86,true)⟩,⟨Sa 89,.not (.t 88),some (86,true)⟩,⟨Sa 90,.pick (.t 86) (.t 89) (.c (.b false)),Sb⟩]) (.cond (.t 90) (.reg [⟨Sa 91,.mv (.t 0),Sb⟩,⟨Sa 92,.fad 2 (.t 6),Sb⟩,⟨Sa 93,.load1 (.t 92),Sb⟩,⟨Sa 94,.call 22 [.t 91,.t 93,.c (.i .i64 140)],Sb⟩]) (.skip))) (.reg [⟨Sa 95,.mv (.t 0),Sb⟩,⟨Sa 96,.call 21 [.t 95],Sb⟩,⟨Sb,.store 3 (.t 6) (.t 96),Sb⟩])))))))))))))) (.seq (.reg [⟨Sa 97,.loadn 4 (.t 5),Sb⟩,⟨Sb,.store 4 (.t 4) (.t 97),Sb⟩]) (.ret))))))
theorem is_ref14_parser_object:FnIs Tryz.prog 62 98 [.celln 4 4] c_ref14_parser_object:=⟨⟨_,_,Tryz.func62,rfl,rfl,by kernel_rfl,by kernel_rfl⟩⟩
def c_ref13_Next:SCode :=.seq (.reg [⟨Sa 4,.alloc 56 [.i .i64 0,.s [],.i .i64 0],Sb⟩,⟨Sa 5,.mv (.c (.i .i64 0)),Sb⟩,⟨Sa 6,.mv (.c (.i .i64 0)),Sb⟩]) (.seq (.seq (.reg [⟨Sa 14,.mv (.t 1),Sb⟩,⟨Sa 15,.bin .lss (.t 14) (.c (.i .i64 0)),Sb⟩,⟨Sa 16,.mv (.t 15),Sb⟩,⟨Sa 17,.mv (.t 1),some (16,false)⟩,⟨Sa 18,.mv (.t 0),some (16,false)⟩,⟨Sa 19,.lens (.t 18),some (16,false)⟩,⟨Sa 20,.bin .gtr (.t 17) (.t 19),some (16,false)⟩,⟨Sa 21,.pick (.t 16) (.c (.b true)) (.t 20),Sb⟩]) (.cond (.t 21) (.seq (.reg [⟨Sa 22,.build [.i .i64 0,.s [],.i .i64 0] [],Sb⟩,⟨Sb,.store 3 (.t 4) (.t 22),Sb⟩,⟨Sa 5,.mv (.c (.i .i64 0)),Sb⟩,⟨Sa 6,.mv (.c (.i .i64 4)),Sb⟩]) (.ret)) (.skip))) (.seq (.blk 0 (.loop (.seq (.seq (.reg [⟨Sa 23,.mv (.t 1),Sb⟩,⟨Sa 24,.mv (.t 0),Sb⟩,⟨Sa 25,.lens (.t 24),Sb⟩,⟨Sa 26,.bin .lss (.t 23) (.t 25),Sb⟩,⟨Sa 27,.mv (.t 26),Sb⟩,⟨Sa 28,.mv (.t 0),some (27,true)⟩,⟨Sa 29,.mv (.t 1),some (27,true)⟩,⟨Sa 30,.idx (.t 28) (.t 29),some (27,true)⟩,⟨Sa 31,.call 88 [.t 30],some (27,true)⟩,⟨Sa 32,.pick (.t 27) (.t 31) (.c (.b false)),Sb⟩]) (.cond (.t 32) (.skip) (.exit 0))) (.blk 1 (.reg [⟨Sa 33,.mv (.t 1),Sb⟩,⟨Sa 34,.bin .add (.t 33) (.c (.i .i64 1)),Sb⟩,⟨Sa 1,.mv (.t 34),Sb⟩]))))) (.seq (.seq (.reg [⟨Sa 35,.mv (.t 1),Sb⟩,⟨Sa 36,.mv (.t 0),Sb⟩,⟨Sa 37,.lens (.t 36),Sb⟩,⟨Sa 38,.bin .eql (.t 35) (.t 37),Sb⟩]) (.cond (.t 38) (.seq (.reg [⟨Sa 39,.mv (.t 1),Sb⟩,⟨Sa 40,.build [.i .i64 0,.s [],.i .i64 0] [(0,(1,.c (.i .i64 1))),(2,(1,.t 39))],Sb⟩,⟨Sa 41,.mv (.t 1),Sb⟩,⟨Sb,.store 3 (.t 4) (.t 40),Sb⟩,⟨Sa 5,.mv (.t 41),Sb⟩,⟨Sa 6,.mv (.c (.i .i64 0)),Sb⟩]) (.ret)) (.skip))) (.seq (.seq (.reg [⟨Sa 42,.mv (.t 0),Sb⟩,⟨Sa 43,.mv (.t 1),Sb⟩,⟨Sa 44,.idx (.t 42) (.t 43),Sb⟩,⟨Sa 7,.mv (.t 44),Sb⟩]) (.blk 2 (.seq (.reg [⟨Sa 46,.mv (.t 7),Sb⟩,⟨Sa 47,.call 82 [.t 46,.c (.s [123,125,91,93,58,44])],Sb⟩,⟨Sa 45,.mv (.t 47),Sb⟩]) (.cond (.t 45) (.seq (.reg [⟨Sa 48,.mv (.t 0),Sb⟩,⟨Sa 49,.mv (.t 1),Sb⟩,⟨Sa 50,.mv (.t 1),Sb⟩,⟨Sa 51,.bin .add (.t 50) (.c (.i .i64 1)),Sb⟩,⟨Sa 52,.slcs (.t 48) (some (.t 49)) (some (.t 51)),Sb⟩,⟨Sa 53,.mv (.t 1),Sb⟩,⟨Sa 54,.build [.i .i64 0,.s [],.i .i64 0] [(0,(1,.c (.i .i64 2))),(1,(1,.t 52)),(2,(1,.t 53))],Sb⟩,⟨Sa 55,.mv (.t 1),Sb⟩,⟨Sa 56,.bin .add (.t 55) (.c (.i .i64 1)),Sb⟩,⟨Sb,.store 3 (.t 4) (.t 54),Sb⟩,⟨Sa 5,.mv (.t 56),Sb⟩,⟨Sa 6,.mv (.c (.i .i64 0)),Sb⟩]) (.ret)) (.seq (.reg [⟨Sa 58,.mv (.t 7),Sb⟩,⟨Sa 59,.bin .eql (.t 58) (.c (.i .u8 34)),Sb⟩,⟨Sa 57,.mv (.t 59),Sb⟩]) (.cond (.t 57) (.seq (.reg [⟨Sa 61,.mv (.t 0),Sb⟩,⟨Sa 62,.mv (.t 1),Sb⟩,⟨Sa 63,.call 89 [.t 61,.t 62],Sb⟩,⟨Sa 60,.mv (.t 63),Sb⟩,⟨Sa 64,.ext (.t 60) 0,Sb⟩,⟨Sa 65,.ext (.t 60) 1,Sb⟩,⟨Sa 66,.ext (.t 60) 2,Sb⟩,⟨Sa 8,.mv (.t 64),Sb⟩,⟨Sa 9,.mv (.t 65),Sb⟩,⟨Sa 10,.mv (.t 66),Sb⟩]) (.seq (.seq (.reg [⟨Sa 67,.mv (.t 10),Sb⟩,⟨Sa 68,.bin .neq (.t 67) (.c (.i .i64 0)),Sb⟩]) (.cond (.t 68) (.seq (.reg [⟨Sa 69,.build [.i .i64 0,.s [],.i .i64 0] [],Sb⟩,⟨Sa 70,.mv (.t 10),Sb⟩,⟨Sb,.store 3 (.t 4) (.t 69),Sb⟩,⟨Sa 5,.mv (.c (.i .i64 0)),Sb⟩,⟨Sa 6,.mv (.t 70),Sb⟩]) (.ret)) (.skip))) (.seq (.reg [⟨Sa 71,.mv (.t 8),Sb⟩,⟨Sa 72,.mv (.t 1),Sb⟩,⟨Sa 73,.build [.i .i64 0,.s [],.i .i64 0] [(0,(1,.c (.i .i64 3))),(1,(1,.t 71)),(2,(1,.t 72))],Sb⟩,⟨Sa 74,.mv (.t 9),Sb⟩,⟨Sb,.store 3 (.t 4) (.t 73),Sb⟩,⟨Sa 5,.mv (.t 74),Sb⟩,⟨Sa 6,.mv (.c (.i .i64 0)),Sb⟩]) (.ret)))) (.seq (.reg [⟨Sa 76,.mv (.t 7),Sb⟩,⟨Sa 77,.bin .eql (.t 76) (.c (.i .u8 45)),Sb⟩,⟨Sa 78,.mv (.t 77),Sb⟩,⟨Sa 79,.mv (.t 7),some (78,false)⟩,⟨Sa 80,.call 90 [.t 79],some (78,false)⟩,⟨Sa 81,.pick (.t 78) (.c (.b true)) (.t 80),Sb⟩,⟨Sa 75,.mv (.t 81),Sb⟩]) (.cond (.t 75) (.seq (.reg [⟨Sa 82,.mv (.t 0),Sb⟩,⟨Sa 83,.mv (.t 1),Sb⟩,⟨Sa 84,.slcs (.t 82) (some (.t 83)) none,Sb⟩,⟨Sa 85,.call 84 [.t 84],Sb⟩,⟨Sa 11,.mv (.t 85),Sb⟩]) (.seq (.seq (.reg [⟨Sa 86,.mv (.t 11),Sb⟩,⟨Sa 87,.bin .eql (.t 86) (.c (.i .i64 0)),Sb⟩]) (.cond (.t 87) (.seq (.reg [⟨Sa 88,.build [.i .i64 0,.s [],.i .i64 0] [],Sb⟩,⟨Sb,.store 3 (.t 4) (.t 88),Sb⟩,⟨Sa 5,.mv (.c (.i .i64 0)),Sb⟩,⟨Sa 6,.mv (.c (.i .i64 130)),Sb⟩]) (.ret)) (.skip))) (.seq (.reg [⟨Sa 89,.mv (.t 0),Sb⟩,⟨Sa 90,.mv (.t 1),Sb⟩,⟨Sa 91,.mv (.t 1),Sb⟩,⟨Sa 92,.mv (.t 11),Sb⟩,⟨Sa 93,.bin .add (.t 91) (.t 92),Sb⟩,⟨Sa 94,.slcs (.t 89) (some (.t 90)) (some (.t 93)),Sb⟩,⟨Sa 95,.mv (.t 1),Sb⟩,⟨Sa 96,.build [.i .i64 0,.s [],.i .i64 0] [(0,(1,.c (.i .i64 4))),(1,(1,.t 94)),(2,(1,.t 95))],Sb⟩,⟨Sa 97,.mv (.t 1),Sb⟩,⟨Sa 98,.mv (.t 11),Sb⟩,⟨Sa 99,.bin .add (.t 97) (.t 98),Sb⟩,⟨Sb,.store 3 (.t 4) (.t 96),Sb⟩,⟨Sa 5,.mv (.t 99),Sb⟩,⟨Sa 6,.mv (.c (.i .i64 0)),Sb⟩]) (.ret)))) (.skip))))))))) (.seq (.reg [⟨Sa 12,.mv (.c (.i .i64 0)),Sb⟩]) (.seq (.blk 3 (.loop (.seq (.seq (.reg [⟨Sa 100,.mv (.t 1),Sb⟩,⟨Sa 101,.mv (.t 12),Sb⟩,⟨Sa 102,.bin .add (.t 100) (.t 101),Sb⟩,⟨Sa 103,.mv (.t 0),Sb⟩,⟨Sa 104,.lens (.t 103),Sb⟩,⟨Sa 105,.bin .lss (.t 102) (.t 104),Sb⟩,⟨Sa 106,.mv (.t 105),Sb⟩,⟨Sa 107,.mv (.t 0),some (106,true)⟩,⟨Sa 108,.mv (.t 1),some (106,true)⟩,⟨Sa 109,.mv (.t 12),some (106,true)⟩,⟨Sa 110,.bin .add (.t 108) (.t 109),some (106,true)⟩,⟨Sa 111,.idx (.t 107) (.t 110),some (106,true)⟩,⟨Sa 112,.call 91 [.t 111],some (106,true)⟩,⟨Sa 113,.pick (.t 106) (.t 112) (.c (.b false)),Sb⟩]) (.cond (.t 113) (.skip) (.exit 3))) (.blk 4 (.reg [⟨Sa 114,.mv (.t 12),Sb⟩,⟨Sa 115,.bin .add (.t 114) (.c (.i .i64 1)),Sb⟩,⟨Sa 12,.mv (.t 115),Sb⟩]))))) (.seq (.seq (.reg [⟨Sa 116,.mv (.t 0),Sb⟩,⟨Sa 117,.mv (.t 1),Sb⟩,⟨Sa 118,.mv (.t 1),Sb⟩,⟨Sa 119,.mv (.t 12),Sb⟩,⟨Sa 120,.bin .add (.t 118) (.t 119),Sb⟩,⟨Sa 121,.slcs (.t 116) (some (.t 117)) (some (.t 120)),Sb⟩,⟨Sa 13,.mv (.t 121),Sb⟩]) (.seq (.reg [⟨Sa 122,.mv (.t 13),Sb⟩,⟨Sa 123,.bin .eql (.t 122) (.c (.s [116,114,117,101])),Sb⟩,⟨Sa 124,.mv (.t 123),Sb⟩,⟨Sa 125,.mv (.t 13),some (124,false)⟩,⟨Sa 126,.bin .eql (.t 125) (.c (.s [102,97,108,115,101])),some (124,false)⟩,⟨Sa 127,.pick (.t 124) (.c (.b true)) (.t 126),Sb⟩,⟨Sa 128,.mv (.t 127),Sb⟩,⟨Sa 129,.mv (.t 13),some (128,false)⟩,⟨Sa 130,.bin .eql (.t 129) (.c (.s [110,117,108,108])),some (128,false)⟩,⟨Sa 131,.pick (.t 128) (.c (.b true)) (.t 130),Sb⟩]) (.cond (.t 131) (.seq (.reg [⟨Sa 132,.mv (.t 13),Sb⟩,⟨Sa 133,.mv (.t 1),Sb⟩,⟨Sa 134,.build [.i .i64 0,.s [],.i .i64 0] [(0,(1,.c (.i .i64 5))),(1,(1,.t 132)),(2,(1,.t 133))],Sb⟩,⟨Sa 135,.mv (.t 1),Sb⟩,⟨Sa 136,.mv (.t 12),Sb⟩,⟨Sa 137,.bin .add (.t 135) (.t 136),Sb⟩,⟨Sb,.store 3 (.t 4) (.t 134),Sb⟩,⟨Sa 5,.mv (.t 137),Sb⟩,⟨Sa 6,.mv (.c (.i .i64 0)),Sb⟩]) (.ret)) (.skip)))) (.seq (.reg [⟨Sa 138,.build [.i .i64 0,.s [],.i .i64 0] [],Sb⟩,⟨Sb,.store 3 (.t 4) (.t 138),Sb⟩,⟨Sa 5,.mv (.c (.i .i64 0)),Sb⟩,⟨Sa 6,.mv (.c (.i .i64 130)),Sb⟩]) (.ret)))))))))
theorem is_ref13_Next:FnIs Tryz.prog 63 139 [.celln 4 3,.tmp 5,.tmp 6] c_ref13_Next:=⟨⟨_,_,Tryz.func63,rfl,rfl,by kernel_rfl,by kernel_rfl⟩⟩
def c_diddoc_membersOf_1:SCode :=.seq (.reg [⟨Sa 3,.alloc 25 [.i .i64 0,.s [],.nil,.nil],Sb⟩,⟨Sa 4,.mv (.c (.b false)),Sb⟩]) (.seq (.reg [⟨Sa 5,.loadn 4 (.t 1),Sb⟩,⟨Sa 6,.mv (.t 0),Sb⟩,⟨Sa 7,.call 40 [.t 5,.t 6],Sb⟩,⟨Sa 8,.ext (.t 7) 0,Sb⟩,⟨Sa 9,.ext (.t 7) 1,Sb⟩,⟨Sb,.store 4 (.t 3) (.t 8),Sb⟩,⟨Sa 4,.mv (.t 9),Sb⟩]) (.ret))
theorem is_diddoc_membersOf_1:FnIs Tryz.prog 64 10 [.celln 3 4,.tmp 4] c_diddoc_membersOf_1:=⟨⟨_,_,Tryz.func64,rfl,rfl,by kernel_rfl,by kernel_rfl⟩⟩
def c_diddoc_textMember:SCode :=.seq (.reg [⟨Sa 2,.box 25 (.t 0),Sb⟩,⟨Sa 4,.mv (.c (.s [])),Sb⟩,⟨Sa 5,.mv (.c (.b false)),Sb⟩]) (.seq (.reg [⟨Sa 9,.loadn 4 (.t 2),Sb⟩,⟨Sa 10,.call 23 [.t 9],Sb⟩,⟨Sa 11,.mv (.t 1),Sb⟩,⟨Sa 12,.callv (.t 10) [.t 11],Sb⟩,⟨Sa 8,.mv (.t 12),Sb⟩,⟨Sa 13,.ext (.t 8) 0,Sb⟩,⟨Sa 14,.ext (.t 8) 1,Sb⟩,⟨Sa 6,.alloc 25 [.i .i64 0,.s [],.nil,.nil],Sb⟩,⟨Sb,.store 4 (.t 6) (.t 13),Sb⟩,⟨Sa 7,.mv (.t 14),Sb⟩]) (.seq (.seq (.reg [⟨Sa 15,.mv (.t 7),Sb⟩,⟨Sa 16,.not (.t 15),Sb⟩,⟨Sa 17,.mv (.t 16),Sb⟩,⟨Sa 18,.fad 0 (.t 6),some (17,false)⟩,⟨Sa 19,.load1 (.t 18),some (17,false)⟩,⟨Sa 20,.bin .neq (.t 19) (.c (.i .i64 5)),some (17,false)⟩,⟨Sa 21,.pick (.t 17) (.c (.b true)) (.t 20),Sb⟩]) (.cond (.t 21) (.seq (.reg [⟨Sa 4,.mv (.c (.s [])),Sb⟩,⟨Sa 5,.mv (.c (.b false)),Sb⟩]) (.ret)) (.skip))) (.seq (.reg [⟨Sa 22,.fad 1 (.t 6),Sb⟩,⟨Sa 23,.load1 (.t 22),Sb⟩,⟨Sa 4,.mv (.t 23),Sb⟩,⟨Sa 5,.mv (.c (.b true)),Sb⟩]) (.ret))))
theorem is_diddoc_textMember:FnIs Tryz.prog 65 24 [.tmp 4,.tmp 5] c_diddoc_textMember:=⟨⟨_,_,Tryz.func65,rfl,rfl,by kernel_rfl,by kernel_rfl⟩⟩
def c_did_ParseDID:SCode :=.seq (.reg [⟨Sa 2,.alloc 62 [.s [],.s []],Sb⟩,⟨Sa 3,.mv (.c (.i .i64 0)),Sb⟩]) (.seq (.seq (.reg [⟨Sa 9,.mv (.t 0),Sb⟩,⟨Sa 10,.lens (.t 9),Sb⟩,⟨Sa 11,.bin .gtr (.t 10) (.c (.i .i64 4096)),Sb⟩]) (.cond (.t 11) (.seq (.reg [⟨Sa 12,.build [.s [],.s []] [],Sb⟩,⟨Sb,.store 2 (.t 2) (.t 12),Sb⟩,⟨Sa 3,.mv (.c (.i .i64 5)),Sb⟩]) (.ret)) (.skip))) (.seq (.reg [⟨Sa 14,.mv (.t 0),Sb⟩,⟨Sa 15,.call 92 [.t 14,.c (.s [100,105,100,58])],Sb⟩,⟨Sa 13,.mv (.t 15),Sb⟩,⟨Sa 16,.ext (.t 13) 0,Sb⟩,⟨Sa 17,.ext (.t 13) 1,Sb⟩,⟨Sa 4,.mv (.t 16),Sb⟩,⟨Sa 5,.mv (.t 17),Sb⟩]) (.seq (.seq (.reg [⟨Sa 18,.mv (.t 5),Sb⟩,⟨Sa 19,.not (.t 18),Sb⟩]) (.cond (.t 19) (.seq (.reg [⟨Sa 20,.build [.s [],.s []] [],Sb⟩,⟨Sb,.store 2 (.t 2) (.t 20),Sb⟩,⟨Sa 3,.mv (.c (.i .i64 60)),Sb⟩]) (.ret)) (.skip))) (.seq (.reg [⟨Sa 22,.mv (.t 4),Sb⟩,⟨Sa 23,.call 93 [.t 22,.c (.s [58])],Sb⟩,⟨Sa 21,.mv (.t 23),Sb⟩,⟨Sa 24,.ext (.t 21) 0,Sb⟩,⟨Sa 25,.ext (.t 21) 1,Sb⟩,⟨Sa 26,.ext (.t 21) 2,Sb⟩,⟨Sa 6,.mv (.t 24),Sb⟩,⟨Sa 7,.mv (.t 25),Sb⟩,⟨Sa 5,.mv (.t 26),Sb⟩]) (.seq (.seq (.reg [⟨Sa 27,.mv (.t 5),Sb⟩,⟨Sa 28,.not (.t 27),Sb⟩]) (.cond (.t 28) (.seq (.reg [⟨Sa 29,.build [.s [],.s []] [],Sb⟩,⟨Sb,.store 2 (.t 2) (.t 29),Sb⟩,⟨Sa 3,.mv (.c (.i .i64 6)),Sb⟩]) (.ret)) (.skip))) (.seq (.seq (.reg [⟨Sa 30,.mv (.t 6),Sb⟩,⟨Sa 31,.call 94 [.t 30],Sb⟩,⟨Sa 32,.not (.t 31),Sb⟩]) (.cond (.t 32) (.seq (.reg [⟨Sa 33,.build [.s [],.s []] [],Sb⟩,⟨Sb,.store 2 (.t 2) (.t 33),Sb⟩,⟨Sa 3,.mv (.c (.i .i64 100)),Sb⟩]) (.ret)) (.skip))) (.seq (.reg [⟨Sa 35,.mv (.t 7),Sb⟩,⟨Sa 36,.call 95 [.t 35],Sb⟩,⟨Sa 34,.mv (.t 36),Sb⟩,⟨Sa 37,.ext (.t 34) 0,Sb⟩,⟨Sa 38,.ext (.t 34) 1,Sb⟩,⟨Sa 7,.mv (.t 37),Sb⟩,⟨Sa 8,.mv (.t 38),Sb⟩]) (.seq (.seq (.reg [⟨Sa 39,.mv (.t 8),Sb⟩,⟨Sa 40,.bin .neq (.t 39) (.c (.i .i64 0)),Sb⟩]) (.cond (.t 40) (.seq (.reg [⟨Sa 41,.build [.s [],.s []] [],Sb⟩,⟨Sa 42,.mv (.t 8),Sb⟩,⟨Sb,.store 2 (.t 2) (.t 41),Sb⟩,⟨Sa 3,.mv (.t 42),Sb⟩]) (.ret)) (.skip))) (.seq (.reg [⟨Sa 43,.mv (.t 6),Sb⟩,⟨Sa 44,.mv (.t 7),Sb⟩,⟨Sa 45,.build [.s [],.s []] [(0,(1,.t 43)),(1,(1,.t 44))],Sb⟩,⟨Sb,.store 2 (.t 2) (.t 45),Sb⟩,⟨Sa 3,.mv (.c (.i .i64 0)),Sb⟩]) (.ret))))))))))
theorem is_did_ParseDID:FnIs Tryz.prog 66 46 [.celln 2 2,.tmp 3] c_did_ParseDID:=⟨⟨_,_,Tryz.func66,rfl,rfl,by kernel_rfl,by kernel_rfl⟩⟩
def c_diddoc_texts:SCode :=.seq (.reg [⟨Sa 2,.mv (.c .nil),Sb⟩,⟨Sa 3,.mv (.c (.i .i64 0)),Sb⟩]) (.seq (.seq (.reg [⟨Sa 7,.mv (.t 0),Sb⟩,⟨Sa 8,.lenr (.t 7),Sb⟩,⟨Sa 9,.bin .gtr (.t 8) (.c (.i .i64 64)),Sb⟩]) (.cond (.t 9) (.seq (.reg [⟨Sa 2,.mv (.c .nil),Sb⟩,⟨Sa 3,.mv (.c (.i .i64 161)),Sb⟩]) (.ret)) (.skip))) (.seq (.reg [⟨Sa 4,.mv (.c .nil),Sb⟩]) (.seq (.seq (.reg [⟨Sa 10,.mv (.t 0),Sb⟩,⟨Sa 11,.lenr (.t 10),Sb⟩,⟨Sa 12,.mv (.c (.i .i64 0)),Sb⟩]) (.blk 0 (.loop (.seq (.reg [⟨Sa 13,.bin .lss (.t 12) (.t 11),Sb⟩]) (.seq (.cond (.t 13) (.skip) (.exit 0)) (.seq (.blk 1 (.seq (.reg [⟨Sa 14,.iad 4 (.t 10) (.t 12),Sb⟩,⟨Sa 15,.loadn 4 (.t 14),Sb⟩,⟨Sa 6,.alloc 25 [.i .i64 0,.s [],.nil,.nil],Sb⟩,⟨Sb,.store 4 (.t 6) (.t 15),Sb⟩]) (.seq (.seq (.reg [⟨Sa 16,.fad 0 (.t 6),Sb⟩,⟨Sa 17,.load1 (.t 16),Sb⟩,⟨Sa 18,.bin .neq (.t 17) (.c (.i .i64 5)),Sb⟩]) (.cond (.t 18) (.seq (.reg [⟨Sa 2,.mv (.c .nil),Sb⟩,⟨Sa 3,.mv (.c (.i .i64 160)),Sb⟩]) (.ret)) (.skip))) (.reg [⟨Sa 19,.mv (.t 4),Sb⟩,⟨Sa 20,.fad 1 (.t 6),Sb⟩,⟨Sa 21,.load1 (.t 20),Sb⟩,⟨Sa 22,.bslice 1 [.s []] [(0,(1,.t 21))],Sb⟩,⟨Sa 23,.app 9 1 16 (.t 19) (.t 22),Sb⟩,⟨Sa 4,.mv (.t 23),Sb⟩])))) (.reg [⟨Sa 24,.bin .add (.t 12) (.c (.i .i64 1)),Sb⟩,⟨Sa 12,.mv (.t 24),Sb⟩]))))))) (.seq (.reg [⟨Sa 25,.mv (.t 4),Sb⟩,⟨Sa 2,.mv (.t 25),Sb⟩,⟨Sa 3,.mv (.c (.i .i64 0)),Sb⟩]) (.ret)))))
theorem is_diddoc_texts:FnIs Tryz.prog 67 26 [.tmp 2,.tmp 3] c_diddoc_texts:=⟨⟨_,_,Tryz.func67,rfl,rfl,by kernel_rfl,by kernel_rfl⟩⟩
def c_ref10_method:SCode :=.seq (.reg [⟨Sa 2,.mv (.c (.b false)),Sb⟩]) (.seq (.seq (.reg [⟨Sa 3,.mv (.c (.i .i64 0)),Sb⟩]) (.blk 0 (.loop (.seq (.seq (.reg [⟨Sa 4,.mv (.t 3),Sb⟩,⟨Sa 5,.mv (.t 0),Sb⟩,⟨Sa 6,.lens (.t 5),Sb⟩,⟨Sa 7,.bin .lss (.t 4) (.t 6),Sb⟩]) (.cond (.t 7) (.skip) (.exit 0))) (.seq (.blk 1 (.seq (.reg [⟨Sa 10,.mv (.t 0),Sb⟩,⟨Sa 11,.mv (.t 3),Sb⟩,⟨Sa 12,.idx (.t 10) (.t 11),Sb⟩,⟨Sa 13,.call 90 [.t 12],Sb⟩,⟨Sa 14,.not (.t 13),Sb⟩,⟨Sa 15,.mv (.t 14),Sb⟩,⟨Sa 16,.mv (.t 0),some (15,true)⟩,⟨Sa 17,.mv (.t 3),some (15,true)⟩,⟨Sa 18,.idx (.t 16) (.t 17),some (15,true)⟩,⟨Sa 19,.bin .lss (.t 18) (.c (.i .u8 97)),some (15,true)⟩,⟨Sa 20,.mv (.t 19),some (15,true)⟩,⟨Sa 21,.mv (.t 0),some (20,false)⟩,⟨Sa 22,.mv (.t 3),some (20,false)⟩,⟨Sa 23,.idx (.t 21) (.t 22),some (20,false)⟩,⟨Sa 24,.bin .gtr (.t 23) (.c (.i .u8 122)),some (20,false)⟩,⟨Sa 25,.pick (.t 20) (.c (.b true)) (.t 24),some (15,true)⟩,⟨Sa 26,.pick (.t 15) (.t 25) (.c (.b false)),Sb⟩]) (.cond (.t 26) (.seq (.reg [⟨Sa 2,.mv (.c (.b false)),Sb⟩]) (.ret)) (.skip)))) (.reg [⟨Sa 8,.mv (.t 3),Sb⟩,⟨Sa 9,.bin .add (.t 8) (.c (.i .i64 1)),Sb⟩,⟨Sa 3,.mv (.t 9),Sb⟩])))))) (.seq (.reg [⟨Sa 27,.mv (.t 0),Sb⟩,⟨Sa 28,.bin .neq (.t 27) (.c (.s [])),Sb⟩,⟨Sa 2,.mv (.t 28),Sb⟩]) (.ret)))
theorem is_ref10_method:FnIs Tryz.prog 70 29 [.tmp 2] c_ref10_method:=⟨⟨_,_,Tryz.func70,rfl,rfl,by kernel_rfl,by kernel_rfl⟩⟩
def c_ref10_plain:SCode :=.seq (.reg [⟨Sa 2,.mv (.c (.b false)),Sb⟩]) (.seq (.reg [⟨Sa 3,.mv (.t 0),Sb⟩,⟨Sa 4,.call 91 [.t 3],Sb⟩,⟨Sa 5,.mv (.t 4),Sb⟩,⟨Sa 6,.mv (.t 0),some (5,false)⟩,⟨Sa 7,.call 90 [.t 6],some (5,false)⟩,⟨Sa 8,.pick (.t 5) (.c (.b true)) (.t 7),Sb⟩,⟨Sa 9,.mv (.t 8),Sb⟩,⟨Sa 10,.mv (.t 0),some (9,false)⟩,⟨Sa 11,.call 82 [.t 10,.c (.s [46,45,95])],some (9,false)⟩,⟨Sa 12,.pick (.t 9) (.c (.b true)) (.t 11),Sb⟩,⟨Sa 2,.mv (.t 12),Sb⟩]) (.ret))
theorem is_ref10_plain:FnIs Tryz.prog 73 13 [.tmp 2] c_ref10_plain:=⟨⟨_,_,Tryz.func73,rfl,rfl,by kernel_rfl,by kernel_rfl⟩⟩
def c_ref10_Escaped:SCode :=.seq (.reg [⟨Sa 2,.mv (.c (.s [])),Sb⟩]) (.seq (.reg [⟨Sa 3,.mv (.c (.s [])),Sb⟩]) (.seq (.seq (.reg [⟨Sa 4,.mv (.c (.i .i64 0)),Sb⟩]) (.blk 0 (.loop (.seq (.seq (.reg [⟨Sa 5,.mv (.t 4),Sb⟩,⟨Sa 6,.mv (.t 0),Sb⟩,⟨Sa 7,.lens (.t 6),Sb⟩,⟨Sa 8,.bin .lss (.t 5) (.t 7),Sb⟩]) (.cond (.t 8) (.skip) (.exit 0))) (.seq (.blk 1 (.seq (.reg [⟨Sa 11,.mv (.t 0),Sb⟩,⟨Sa 12,.mv (.t 4),Sb⟩,⟨Sa 13,.idx (.t 11) (.t 12),Sb⟩,⟨Sa 14,.call 73 [.t 13],Sb⟩]) (.cond (.t 14) (.reg [⟨Sa 15,.mv (.t 3),Sb⟩,⟨Sa 16,.mv (.t 0),Sb⟩,⟨Sa 17,.mv (.t 4),Sb⟩,⟨Sa 18,.mv (.t 4),Sb⟩,⟨Sa 19,.bin .add (.t 18) (.c (.i .i64 1)),Sb⟩,⟨Sa 20,.slcs (.t 16) (some (.t 17)) (some (.t 19)),Sb⟩,⟨Sa 21,.bin .add (.t 15) (.t 20),Sb⟩,⟨Sa 3,.mv (.t 21),Sb⟩]) (.reg [⟨Sa 22,.mv (.t 3),Sb⟩,⟨Sa 23,.mv (.t 0),Sb⟩,⟨Sa 24,.mv (.t 4),Sb⟩,⟨Sa 25,.idx (.t 23) (.t 24),Sb⟩,⟨Sa 26,.call 97 [.t 25],Sb⟩,⟨Sa 27,.bin .add (.t 22) (.t 26),Sb⟩,⟨Sa 3,.mv (.t 27),Sb⟩])))) (.reg [⟨Sa 9,.mv (.t 4),Sb⟩,⟨Sa 10,.bin .add (.t 9) (.c (.i .i64 1)),Sb⟩,⟨Sa 4,.mv (.t 10),Sb⟩])))))) (.seq (.reg [⟨Sa 28,.mv (.t 3),Sb⟩,⟨Sa 2,.mv (.t 28),Sb⟩]) (.ret))))
theorem is_ref10_Escaped:FnIs Tryz.prog 74 29 [.tmp 2] c_ref10_Escaped:=⟨⟨_,_,Tryz.func74,rfl,rfl,by kernel_rfl,by kernel_rfl⟩⟩
def c_ref17_reader_stop:SCode :=.seq (.reg [⟨Sa 4,.mv (.t 0),Sb⟩,⟨Sa 5,.nck (.t 4),Sb⟩,⟨Sa 6,.fad 2 (.t 5),Sb⟩,⟨Sa 7,.load1 (.t 6),Sb⟩,⟨Sa 8,.bin .eql (.t 7) (.c (.i .i64 0)),Sb⟩]) (.cond (.t 8) (.reg [⟨Sa 9,.mv (.t 0),Sb⟩,⟨Sa 10,.mv (.t 1),Sb⟩,⟨Sa 11,.nck (.t 9),Sb⟩,⟨Sa 12,.fad 2 (.t 11),Sb⟩,⟨Sb,.store 1 (.t 12) (.t 10),Sb⟩]) (.skip))
theorem is_ref17_reader_stop:FnIs Tryz.prog 75 13 [] c_ref17_reader_stop:=⟨⟨_,_,Tryz.func75,rfl,rfl,by kernel_rfl,by kernel_rfl⟩⟩
def c_ref17_reader_id:SCode :=.seq (.reg [⟨Sa 3,.box 25 (.t 1),Sb⟩,⟨Sa 4,.mv (.c (.s [])),Sb⟩]) (.seq (.reg [⟨Sa 8,.mv (.t 0),Sb⟩,⟨Sa 9,.loadn 4 (.t 3),Sb⟩,⟨Sa 10,.call 33 [.t 8,.t 9,.c (.s [105,100])],Sb⟩,⟨Sa 5,.mv (.t 10),Sb⟩]) (.seq (.reg [⟨Sa 12,.mv (.t 0),Sb⟩,⟨Sa 13,.nck (.t 12),Sb⟩,⟨Sa 14,.fad 0 (.t 13),Sb⟩,⟨Sa 15,.loadn 2 (.t 14),Sb⟩,⟨Sa 16,.mv (.t 5),Sb⟩,⟨Sa 17,.call 43 [.t 15,.t 16],Sb⟩,⟨Sa 11,.mv (.t 17),Sb⟩,⟨Sa 18,.ext (.t 11) 0,Sb⟩,⟨Sa 19,.ext (.t 11) 1,Sb⟩,⟨Sa 6,.alloc 87 [.s [],.s [],.s [],.s [],.s [],.b false,.b false],Sb⟩,⟨Sb,.store 7 (.t 6) (.t 18),Sb⟩,⟨Sa 7,.mv (.t 19),Sb⟩]) (.seq (.seq (.reg [⟨Sa 20,.mv (.t 7),Sb⟩,⟨Sa 21,.bin .neq (.t 20) (.c (.i .i64 0)),Sb⟩]) (.cond (.t 21) (.seq (.reg [⟨Sa 22,.mv (.t 0),Sb⟩,⟨Sa 23,.call 75 [.t 22,.c (.i .i64 160)],Sb⟩]) (.seq (.reg [⟨Sa 4,.mv (.c (.s [])),Sb⟩]) (.ret))) (.skip))) (.seq (.reg [⟨Sa 24,.loadn 7 (.t 6),Sb⟩,⟨Sa 25,.call 44 [.t 24],Sb⟩,⟨Sa 4,.mv (.t 25),Sb⟩]) (.ret)))))
theorem is_ref17_reader_id:FnIs Tryz.prog 76 26 [.tmp 4] c_ref17_reader_id:=⟨⟨_,_,Tryz.func76,rfl,rfl,by kernel_rfl,by kernel_rfl⟩⟩
def c_slices_Index__string_string:SCode :=.seq (.reg [⟨Sa 4,.mv (.c (.i .i64 0)),Sb⟩]) (.seq (.seq (.reg [⟨Sa 6,.mv (.t 0),Sb⟩,⟨Sa 7,.lenr (.t 6),Sb⟩,⟨Sa 8,.mv (.c (.i .i64 0)),Sb⟩]) (.blk 0 (.loop (.seq (.reg [⟨Sa 9,.bin .lss (.t 8) (.t 7),Sb⟩]) (.seq (.cond (.t 9) (.skip) (.exit 0)) (.seq (.blk 1 (.seq (.reg [⟨Sa 10,.mv (.t 8),Sb⟩,⟨Sa 5,.mv (.t 10),Sb⟩]) (.seq (.reg [⟨Sa 11,.mv (.t 1),Sb⟩,⟨Sa 12,.mv (.t 0),Sb⟩,⟨Sa 13,.mv (.t 5),Sb⟩,⟨Sa 14,.iad 1 (.t 12) (.t 13),Sb⟩,⟨Sa 15,.load1 (.t 14),Sb⟩,⟨Sa 16,.bin .eql (.t 11) (.t 15),Sb⟩]) (.cond (.t 16) (.seq (.reg [⟨Sa 17,.mv (.t 5),Sb⟩,⟨Sa 4,.mv (.t 17),Sb⟩]) (.ret)) (.skip))))) (.reg [⟨Sa 18,.bin .add (.t 8) (.c (.i .i64 1)),Sb⟩,⟨Sa 8,.mv (.t 18),Sb⟩]))))))) (.seq (.reg [⟨Sa 4,.mv (.c (.i .i64 (-1))),Sb⟩]) (.ret)))
theorem is_slices_Index__string_string:FnIs Tryz.prog 77 19 [.tmp 4] c_slices_Index__string_string:=⟨⟨_,_,Tryz.func77,rfl,rfl,by kernel_rfl,by kernel_rfl⟩⟩
def c_jsondoc_clone:SCode :=.seq (.reg [⟨Sa 1,.box 25 (.t 0),Sb⟩,⟨Sa 2,.alloc 25 [.i .i64 0,.s [],.nil,.nil],Sb⟩]) (.seq (.reg [⟨Sa 4,.fad 2 (.t 1),Sb⟩,⟨Sa 5,.load1 (.t 4),Sb⟩,⟨Sa 6,.call 98 [.t 5],Sb⟩,⟨Sa 7,.fad 2 (.t 1),Sb⟩,⟨Sb,.store 1 (.t 7) (.t 6),Sb⟩]) (.seq (.reg [⟨Sa 8,.fad 3 (.t 1),Sb⟩,⟨Sa 9,.load1 (.t 8),Sb⟩,⟨Sa 10,.call 99 [.t 9],Sb⟩,⟨Sa 11,.fad 3 (.t 1),Sb⟩,⟨Sb,.store 1 (.t 11) (.t 10),Sb⟩]) (.seq (.seq (.reg [⟨Sa 12,.fad 3 (.t 1),Sb⟩,⟨Sa 13,.load1 (.t 12),Sb⟩,⟨Sa 14,.lenr (.t 13),Sb⟩,⟨Sa 15,.mv (.c (.i .i64 0)),Sb⟩]) (.blk 0 (.loop (.seq (.reg [⟨Sa 16,.bin .lss (.t 15) (.t 14),Sb⟩]) (.seq (.cond (.t 16) (.skip) (.exit 0)) (.seq (.blk 1 (.seq (.reg [⟨Sa 17,.mv (.t 15),Sb⟩,⟨Sa 3,.mv (.t 17),Sb⟩]) (.drw [⟨Sa 18,.fad 3 (.t 1),Sb⟩,⟨Sa 19,.load1 (.t 18),Sb⟩,⟨Sa 20,.mv (.t 3),Sb⟩,⟨Sa 21,.fad 3 (.t 1),Sb⟩,⟨Sa 22,.load1 (.t 21),Sb⟩,⟨Sa 23,.mv (.t 3),Sb⟩,⟨Sa 24,.iad 4 (.t 22) (.t 23),Sb⟩,⟨Sa 25,.loadn 4 (.t 24),Sb⟩,⟨Sa 26,.call 78 [.t 25],Sb⟩,⟨Sa 27,.iad 4 (.t 19) (.t 20),Sb⟩,⟨Sb,.store 4 (.t 27) (.t 26),Sb⟩] 10 []))) (.reg [⟨Sa 28,.bin .add (.t 15) (.c (.i .i64 1)),Sb⟩,⟨Sa 15,.mv (.t 28),Sb⟩]))))))) (.seq (.reg [⟨Sa 29,.loadn 4 (.t 1),Sb⟩,⟨Sb,.store 4 (.t 2) (.t 29),Sb⟩]) (.ret)))))
theorem is_jsondoc_clone:FnIs Tryz.prog 78 30 [.celln 2 4] c_jsondoc_clone:=⟨⟨_,_,Tryz.func78,rfl,rfl,by kernel_rfl,by kernel_rfl⟩⟩
def c_did_Resolve:SCode :=.seq (.reg [⟨Sa 2,.box 62 (.t 0),Sb⟩,⟨Sa 4,.alloc 87 [.s [],.s [],.s [],.s [],.s [],.b false,.b false],Sb⟩,⟨Sa 5,.mv (.c (.i .i64 0)),Sb⟩]) (.seq (.blk 0 (.seq (.reg [⟨Sa 7,.mv (.t 1),Sb⟩,⟨Sa 8,.call 100 [.t 7,.c (.s [100,105,100,58])],Sb⟩,⟨Sa 6,.mv (.t 8),Sb⟩]) (.cond (.t 6) (.seq (.reg [⟨Sa 9,.mv (.t 1),Sb⟩,⟨Sa 10,.call 101 [.t 9],Sb⟩,⟨Sa 11,.ext (.t 10) 0,Sb⟩,⟨Sa 12,.ext (.t 10) 1,Sb⟩,⟨Sb,.store 7 (.t 4) (.t 11),Sb⟩,⟨Sa 5,.mv (.t 12),Sb⟩]) (.ret)) (.seq (.reg [⟨Sa 14,.mv (.t 1),Sb⟩,⟨Sa 15,.bin .eql (.t 14) (.c (.s [])),Sb⟩,⟨Sa 16,.mv (.t 15),Sb⟩,⟨Sa 17,.mv (.t 1),some (16,false)⟩,⟨Sa 18,.idx (.t 17) (.c (.i .i64 0)),some (16,false)⟩,⟨Sa 19,.call 102 [.c (.s [47,63,35]),.t 18],some (16,false)⟩,⟨Sa 20,.bin .geq (.t 19) (.c (.i .i64 0)),some (16,false)⟩,⟨Sa 21,.pick (.t 16) (.c (.b true)) (.t 20),Sb⟩,⟨Sa 13,.mv (.t 21),Sb⟩]) (.cond (.t 13) (.seq (.reg [⟨Sa 22,.loadn 2 (.t 2),Sb⟩,⟨Sa 23,.call 25 [.t 22],Sb⟩,⟨Sa 24,.mv (.t 1),Sb⟩,⟨Sa 25,.bin .add (.t 23) (.t 24),Sb⟩,⟨Sa 26,.call 101 [.t 25],Sb⟩,⟨Sa 27,.ext (.t 26) 0,Sb⟩,⟨Sa 28,.ext (.t 26) 1,Sb⟩,⟨Sb,.store 7 (.t 4) (.t 27),Sb⟩,⟨Sa 5,.mv (.t 28),Sb⟩]) (.ret)) (.skip)))))) (.seq (.reg [⟨Sa 29,.build [.s [],.s [],.s [],.s [],.s [],.b false,.b false] [],Sb⟩,⟨Sb,.store 7 (.t 4) (.t 29),Sb⟩,⟨Sa 5,.mv (.c (.i .i64 6)),Sb⟩]) (.ret)))
theorem is_did_Resolve:FnIs Tryz.prog 79 30 [.celln 4 7,.tmp 5] c_did_Resolve:=⟨⟨_,_,Tryz.func79,rfl,rfl,by kernel_rfl,by kernel_rfl⟩⟩
def c_did_Format:SCode :=.seq (.reg [⟨Sa 1,.box 87 (.t 0),Sb⟩,⟨Sa 2,.mv (.c (.s [])),Sb⟩]) (.seq (.drw [⟨Sa 4,.fad 0 (.t 1),Sb⟩,⟨Sa 5,.loadn 2 (.t 4),Sb⟩,⟨Sa 6,.call 25 [.t 5],Sb⟩,⟨Sa 7,.fad 2 (.t 1),Sb⟩,⟨Sa 8,.load1 (.t 7),Sb⟩,⟨Sa 9,.bin .add (.t 6) (.t 8),Sb⟩,⟨Sa 3,.mv (.t 9),Sb⟩] 7 []) (.seq (.seq (.reg [⟨Sa 10,.fad 5 (.t 1),Sb⟩,⟨Sa 11,.load1 (.t 10),Sb⟩]) (.cond (.t 11) (.reg [⟨Sa 12,.mv (.t 3),Sb⟩,⟨Sa 13,.fad 3 (.t 1),Sb⟩,⟨Sa 14,.load1 (.t 13),Sb⟩,⟨Sa 15,.bin .add (.c (.s [63])) (.t 14),Sb⟩,⟨Sa 16,.bin .add (.t 12) (.t 15),Sb⟩,⟨Sa 3,.mv (.t 16),Sb⟩]) (.skip))) (.seq (.seq (.reg [⟨Sa 17,.fad 6 (.t 1),Sb⟩,⟨Sa 18,.load1 (.t 17),Sb⟩]) (.cond (.t 18) (.reg [⟨Sa 19,.mv (.t 3),Sb⟩,⟨Sa 20,.fad 4 (.t 1),Sb⟩,⟨Sa 21,.load1 (.t 20),Sb⟩,⟨Sa 22,.bin .add (.c (.s [35])) (.t 21),Sb⟩,⟨Sa 23,.bin .add (.t 19) (.t 22),Sb⟩,⟨Sa 3,.mv (.t 23),Sb⟩]) (.skip))) (.seq (.reg [⟨Sa 24,.mv (.t 3),Sb⟩,⟨Sa 2,.mv (.t 24),Sb⟩]) (.ret)))))
theorem is_did_Format:FnIs Tryz.prog 80 25 [.tmp 2] c_did_Format:=⟨⟨_,_,Tryz.func80,rfl,rfl,by kernel_rfl,by kernel_rfl⟩⟩
def c_ref10_Parse:SCode :=.seq (.reg [⟨Sa 2,.alloc 87 [.s [],.s [],.s [],.s [],.s [],.b false,.b false],Sb⟩,⟨Sa 3,.mv (.c (.i .i64 0)),Sb⟩]) (.seq (.seq (.reg [⟨Sa 11,.mv (.t 0),Sb⟩,⟨Sa 12,.lens (.t 11),Sb⟩,⟨Sa 13,.bin .gtr (.t 12) (.c (.i .i64 4096)),Sb⟩]) (.cond (.t 13) (.seq (.reg [⟨Sa 14,.build [.s [],.s [],.s [],.s [],.s [],.b false,.b false] [],Sb⟩,⟨Sb,.store 7 (.t 2) (.t 14),Sb⟩,⟨Sa 3,.mv (.c (.i .i64 5)),Sb⟩]) (.ret)) (.skip))) (.seq (.reg [⟨Sa 15,.mv (.t 0),Sb⟩,⟨Sa 16,.call 69 [.t 15,.c (.s [47,63,35])],Sb⟩,⟨Sa 4,.mv (.t 16),Sb⟩]) (.seq (.reg [⟨Sa 18,.mv (.t 0),Sb⟩,⟨Sa 19,.mv (.t 4),Sb⟩,⟨Sa 20,.slcs (.t 18) none (some (.t 19)),Sb⟩,⟨Sa 21,.call 32 [.t 20],Sb⟩,⟨Sa 17,.mv (.t 21),Sb⟩,⟨Sa 22,.ext (.t 17) 0,Sb⟩,⟨Sa 23,.ext (.t 17) 1,Sb⟩,⟨Sa 5,.alloc 62 [.s [],.s []],Sb⟩,⟨Sb,.store 2 (.t 5) (.t 22),Sb⟩,⟨Sa 6,.mv (.t 23),Sb⟩]) (.seq (.seq (.reg [⟨Sa 24,.mv (.t 6),Sb⟩,⟨Sa 25,.bin .neq (.t 24) (.c (.i .i64 0)),Sb⟩]) (.cond (.t 25) (.seq (.reg [⟨Sa 26,.build [.s [],.s [],.s [],.s [],.s [],.b false,.b false] [],Sb⟩,⟨Sa 27,.mv (.t 6),Sb⟩,⟨Sb,.store 7 (.t 2) (.t 26),Sb⟩,⟨Sa 3,.mv (.t 27),Sb⟩]) (.ret)) (.skip))) (.seq (.drw [⟨Sa 28,.loadn 2 (.t 5),Sb⟩,⟨Sa 29,.build [.s [],.s [],.s [],.s [],.s [],.b false,.b false] [(0,(2,.t 28))],Sb⟩,⟨Sa 30,.mv (.t 0),Sb⟩,⟨Sa 31,.mv (.t 4),Sb⟩,⟨Sa 32,.slcs (.t 30) (some (.t 31)) none,Sb⟩,⟨Sa 7,.alloc 87 [.s [],.s [],.s [],.s [],.s [],.b false,.b false],Sb⟩,⟨Sb,.store 7 (.t 7) (.t 29),Sb⟩,⟨Sa 8,.mv (.t 32),Sb⟩] 8 [(5,(7,none))]) (.seq (.seq (.reg [⟨Sa 33,.mv (.t 8),Sb⟩,⟨Sa 34,.call 69 [.t 33,.c (.s [35])],Sb⟩,⟨Sa 9,.mv (.t 34),Sb⟩]) (.seq (.reg [⟨Sa 35,.mv (.t 9),Sb⟩,⟨Sa 36,.mv (.t 8),Sb⟩,⟨Sa 37,.lens (.t 36),Sb⟩,⟨Sa 38,.bin .lss (.t 35) (.t 37),Sb⟩]) (.cond (.t 38) (.drw [⟨Sa 39,.mv (.t 8),Sb⟩,⟨Sa 40,.mv (.t 9),Sb⟩,⟨Sa 41,.bin .add (.t 40) (.c (.i .i64 1)),Sb⟩,⟨Sa 42,.slcs (.t 39) (some (.t 41)) none,Sb⟩,⟨Sa 43,.mv (.t 8),Sb⟩,⟨Sa 44,.mv (.t 9),Sb⟩,⟨Sa 45,.slcs (.t 43) none (some (.t 44)),Sb⟩,⟨Sa 46,.fad 4 (.t 7),Sb⟩,⟨Sb,.store 1 (.t 46) (.t 42),Sb⟩,⟨Sa 47,.fad 6 (.t 7),Sb⟩,⟨Sb,.store 1 (.t 47) (.c (.b true)),Sb⟩,⟨Sa 8,.mv (.t 45),Sb⟩] 12 []) (.skip)))) (.seq (.seq (.reg [⟨Sa 48,.mv (.t 8),Sb⟩,⟨Sa 49,.call 69 [.t 48,.c (.s [63])],Sb⟩,⟨Sa 10,.mv (.t 49),Sb⟩]) (.seq (.reg [⟨Sa 50,.mv (.t 10),Sb⟩,⟨Sa 51,.mv (.t 8),Sb⟩,⟨Sa 52,.lens (.t 51),Sb⟩,⟨Sa 53,.bin .lss (.t 50) (.t 52),Sb⟩]) (.cond (.t 53) (.drw [⟨Sa 54,.mv (.t 8),Sb⟩,⟨Sa 55,.mv (.t 10),Sb⟩,⟨Sa 56,.bin .add (.t 55) (.c (.i .i64 1)),Sb⟩,⟨Sa 57,.slcs (.t 54) (some (.t 56)) none,Sb⟩,⟨Sa 58,.mv (.t 8),Sb⟩,⟨Sa 59,.mv (.t 10),Sb⟩,⟨Sa 60,.slcs (.t 58) none (some (.t 59)),Sb⟩,⟨Sa 61,.fad 3 (.t 7),Sb⟩,⟨Sb,.store 1 (.t 61) (.t 57),Sb⟩,⟨Sa 62,.fad 5 (.t 7),Sb⟩,⟨Sb,.store 1 (.t 62) (.c (.b true)),Sb⟩,⟨Sa 8,.mv (.t 60),Sb⟩] 12 []) (.skip)))) (.seq (.seq (.reg [⟨Sa 64,.mv (.t 8),Sb⟩,⟨Sa 65,.call 103 [.t 64,.c (.s [33,36,38,39,40,41,42,43,44,59,61,58,64,47])],Sb⟩,⟨Sa 63,.mv (.t 65),Sb⟩,⟨Sa 66,.ext (.t 63) 0,Sb⟩,⟨Sa 67,.ext (.t 63) 1,Sb⟩,⟨Sa 68,.fad 2 (.t 7),Sb⟩,⟨Sb,.store 1 (.t 68) (.t 66),Sb⟩,⟨Sa 6,.mv (.t 67),Sb⟩]) (.seq (.reg [⟨Sa 69,.mv (.t 6),Sb⟩,⟨Sa 70,.bin .neq (.t 69) (.c (.i .i64 0)),Sb⟩]) (.cond (.t 70) (.seq (.reg [⟨Sa 71,.build [.s [],.s [],.s [],.s [],.s [],.b false,.b false] [],Sb⟩,⟨Sa 72,.mv (.t 6),Sb⟩,⟨Sb,.store 7 (.t 2) (.t 71),Sb⟩,⟨Sa 3,.mv (.t 72),Sb⟩]) (.ret)) (.skip)))) (.seq (.seq (.reg [⟨Sa 74,.fad 3 (.t 7),Sb⟩,⟨Sa 75,.load1 (.t 74),Sb⟩,⟨Sa 76,.call 103 [.t 75,.c (.s [33,36,38,39,40,41,42,43,44,59,61,58,64,47,63])],Sb⟩,⟨Sa 73,.mv (.t 76),Sb⟩,⟨Sa 77,.ext (.t 73) 0,Sb⟩,⟨Sa 78,.ext (.t 73) 1,Sb⟩,⟨Sa 79,.fad 3 (.t 7),Sb⟩,⟨Sb,.store 1 (.t 79) (.t 77),Sb⟩,⟨Sa 6,.mv (.t 78),Sb⟩]) (.seq (.reg [⟨Sa 80,.mv (.t 6),Sb⟩,⟨Sa 81,.bin .neq (.t 80) (.c (.i .i64 0)),Sb⟩]) (.cond (.t 81) (.seq (.reg [⟨Sa 82,.build [.s [],.s [],.s [],.s [],.s [],.b false,.b false] [],Sb⟩,⟨Sa 83,.mv (.t 6),Sb⟩,⟨Sb,.store 7 (.t 2) (.t 82),Sb⟩,⟨Sa 3,.mv (.t 83),Sb⟩]) (.ret)) (.skip)))) (.seq (.seq (.reg [⟨Sa 85,.fad 4 (.t 7),Sb⟩,⟨Sa 86,.load1 (.t 85),Sb⟩,⟨Sa 87,.call 103 [.t 86,.c (.s [33,36,38,39,40,41,42,43,44,59,61,58,64,47,63])],Sb⟩,⟨Sa 84,.mv (.t 87),Sb⟩,⟨Sa 88,.ext (.t 84) 0,Sb⟩,⟨Sa 89,.ext (.t 84) 1,Sb⟩,⟨Sa 90,.fad 4 (.t 7),Sb⟩,⟨Sb,.store 1 (.t 90) (.t 88),Sb⟩,⟨Sa 6,.mv (.t 89),Sb⟩]) (.seq (.reg [⟨Sa 91,.mv (.t 6),Sb⟩,⟨Sa 92,.bin .neq (.t 91) (.c (.i .i64 0)),Sb⟩]) (.cond (.t 92) (.seq (.reg [⟨Sa 93,.build [.s [],.s [],.s [],.s [],.s [],.b false,.b false] [],Sb⟩,⟨Sa 94,.mv (.t 6),Sb⟩,⟨Sb,.store 7 (.t 2) (.t 93),Sb⟩,⟨Sa 3,.mv (.t 94),Sb⟩]) (.ret)) (.skip)))) (.seq (.reg [⟨Sa 95,.loadn 7 (.t 7),Sb⟩,⟨Sb,.store 7 (.t 2) (.t 95),Sb⟩,⟨Sa 3,.mv (.c (.i .i64 0)),Sb⟩]) (.ret))))))))))))
theorem is_ref10_Parse:FnIs Tryz.prog 81 96 [.celln 2 7,.tmp 3] c_ref10_Parse:=⟨⟨_,_,Tryz.func81,rfl,rfl,by kernel_rfl,by kernel_rfl⟩⟩
def c_ref13_numeral:SCode :=.seq (.reg [⟨Sa 2,.mv (.c (.i .i64 0)),Sb⟩]) (.seq (.reg [⟨Sa 3,.mv (.c (.i .i64 0)),Sb⟩]) (.seq (.seq (.reg [⟨Sa 7,.mv (.t 3),Sb⟩,⟨Sa 8,.mv (.t 0),Sb⟩,⟨Sa 9,.lens (.t 8),Sb⟩,⟨Sa 10,.bin .lss (.t 7) (.t 9),Sb⟩,⟨Sa 11,.mv (.t 10),Sb⟩,⟨Sa 12,.mv (.t 0),some (11,true)⟩,⟨Sa 13,.mv (.t 3),some (11,true)⟩,⟨Sa 14,.idx (.t 12) (.t 13),some (11,true)⟩,⟨Sa 15,.bin .eql (.t 14) (.c (.i .u8 45)),some (11,true)⟩,⟨Sa 16,.pick (.t 11) (.t 15) (.c (.b false)),Sb⟩]) (.cond (.t 16) (.reg [⟨Sa 17,.mv (.t 3),Sb⟩,⟨Sa 18,.bin .add (.t 17) (.c (.i .i64 1)),Sb⟩,⟨Sa 3,.mv (.t 18),Sb⟩]) (.skip))) (.seq (.seq (.reg [⟨Sa 19,.mv (.t 3),Sb⟩,⟨Sa 20,.mv (.t 0),Sb⟩,⟨Sa 21,.lens (.t 20),Sb⟩,⟨Sa 22,.bin .eql (.t 19) (.t 21),Sb⟩,⟨Sa 23,.mv (.t 22),Sb⟩,⟨Sa 24,.mv (.t 0),some (23,false)⟩,⟨Sa 25,.mv (.t 3),some (23,false)⟩,⟨Sa 26,.idx (.t 24) (.t 25),some (23,false)⟩,⟨Sa 27,.call 90 [.t 26],some (23,false)⟩,⟨Sa 28,.not (.t 27),some (23,false)⟩,⟨Sa 29,.pick (.t 23) (.c (.b true)) (.t 28),Sb⟩]) (.cond (.t 29) (.seq (.reg [⟨Sa 2,.mv (.c (.i .i64 0)),Sb⟩]) (.ret)) (.skip))) (.seq (.seq (.reg [⟨Sa 30,.mv (.t 0),Sb⟩,⟨Sa 31,.mv (.t 3),Sb⟩,⟨Sa 32,.idx (.t 30) (.t 31),Sb⟩,⟨Sa 33,.bin .eql (.t 32) (.c (.i .u8 48)),Sb⟩]) (.cond (.t 33) (.reg [⟨Sa 34,.mv (.t 3),Sb⟩,⟨Sa 35,.bin .add (.t 34) (.c (.i .i64 1)),Sb⟩,⟨Sa 3,.mv (.t 35),Sb⟩]) (.reg [⟨Sa 36,.mv (.t 3),Sb⟩,⟨Sa 37,.mv (.t 0),Sb⟩,⟨Sa 38,.mv (.t 3),Sb⟩,⟨Sa 39,.slcs (.t 37) (some (.t 38)) none,Sb⟩,⟨Sa 40,.call 104 [.t 39],Sb⟩,⟨Sa 41,.bin .add (.t 36) (.t 40),Sb⟩,⟨Sa 3,.mv (.t 41),Sb⟩]))) (.seq (.seq (.reg [⟨Sa 42,.mv (.t 0),Sb⟩,⟨Sa 43,.mv (.t 3),Sb⟩,⟨Sa 44,.bin .add (.t 43) (.c (.i .i64 1)),Sb⟩,⟨Sa 45,.call 86 [.t 42,.t 44],Sb⟩,⟨Sa 46,.call 104 [.t 45],Sb⟩,⟨Sa 4,.mv (.t 46),Sb⟩]) (.seq (.reg [⟨Sa 47,.mv (.t 3),Sb⟩,⟨Sa 48,.mv (.t 0),Sb⟩,⟨Sa 49,.lens (.t 48),Sb⟩,⟨Sa 50,.bin .lss (.t 47) (.t 49),Sb⟩,⟨Sa 51,.mv (.t 50),Sb⟩,⟨Sa 52,.mv (.t 0),some (51,true)⟩,⟨Sa 53,.mv (.t 3),some (51,true)⟩,⟨Sa 54,.idx (.t 52) (.t 53),some (51,true)⟩,⟨Sa 55,.bin .eql (.t 54) (.c (.i .u8 46)),some (51,true)⟩,⟨Sa 56,.pick (.t 51) (.t 55) (.c (.b false)),Sb⟩,⟨Sa 57,.mv (.t 56),Sb⟩,⟨Sa 58,.mv (.t 4),some (57,true)⟩,⟨Sa 59,.bin .gtr (.t 58) (.c (.i .i64 0)),some (57,true)⟩,⟨Sa 60,.pick (.t 57) (.t 59) (.c (.b false)),Sb⟩]) (.cond (.t 60) (.reg [⟨Sa 61,.mv (.t 3),Sb⟩,⟨Sa 62,.mv (.t 4),Sb⟩,⟨Sa 63,.bin .add (.c (.i .i64 1)) (.t 62),Sb⟩,⟨Sa 64,.bin .add (.t 61) (.t 63),Sb⟩,⟨Sa 3,.mv (.t 64),Sb⟩]) (.skip)))) (.seq (.seq (.reg [⟨Sa 65,.mv (.t 3),Sb⟩,⟨Sa 66,.mv (.t 0),Sb⟩,⟨Sa 67,.lens (.t 66),Sb⟩,⟨Sa 68,.bin .lss (.t 65) (.t 67),Sb⟩,⟨Sa 69,.mv (.t 68),Sb⟩,⟨Sa 70,.mv (.t 0),some (69,true)⟩,⟨Sa 71,.mv (.t 3),some (69,true)⟩,⟨Sa 72,.idx (.t 70) (.t 71),some (69,true)⟩,⟨Sa 73,.call 82 [.t 72,.c (.s [101,69])],some (69,true)⟩,⟨Sa 74,.pick (.t 69) (.t 73) (.c (.b false)),Sb⟩]) (.cond (.t 74) (.seq (.reg [⟨Sa 75,.mv (.t 3),Sb⟩,⟨Sa 76,.bin .add (.t 75) (.c (.i .i64 1)),Sb⟩,⟨Sa 5,.mv (.t 76),Sb⟩]) (.seq (.seq (.reg [⟨Sa 77,.mv (.t 5),Sb⟩,⟨Sa 78,.mv (.t 0),Sb⟩,⟨Sa 79,.lens (.t 78),Sb⟩,⟨Sa 80,.bin .lss (.t 77) (.t 79),Sb⟩,⟨Sa 81,.mv (.t 80),Sb⟩,⟨Sa 82,.mv (.t 0),some (81,true)⟩,⟨Sa 83,.mv (.t 5),some (81,true)⟩,⟨Sa 84,.idx (.t 82) (.t 83),some (81,true)⟩,⟨Sa 85,.call 82 [.t 84,.c (.s [43,45])],some (81,true)⟩,⟨Sa 86,.pick (.t 81) (.t 85) (.c (.b false)),Sb⟩]) (.cond (.t 86) (.reg [⟨Sa 87,.mv (.t 5),Sb⟩,⟨Sa 88,.bin .add (.t 87) (.c (.i .i64 1)),Sb⟩,⟨Sa 5,.mv (.t 88),Sb⟩]) (.skip))) (.seq (.reg [⟨Sa 89,.mv (.t 0),Sb⟩,⟨Sa 90,.mv (.t 5),Sb⟩,⟨Sa 91,.call 86 [.t 89,.t 90],Sb⟩,⟨Sa 92,.call 104 [.t 91],Sb⟩,⟨Sa 6,.mv (.t 92),Sb⟩]) (.seq (.reg [⟨Sa 93,.mv (.t 6),Sb⟩,⟨Sa 94,.bin .gtr (.t 93) (.c (.i .i64 0)),Sb⟩]) (.cond (.t 94) (.reg [⟨Sa 95,.mv (.t 5),Sb⟩,⟨Sa 96,.mv (.t 6),Sb⟩,⟨Sa 97,.bin .add (.t 95) (.t 96),Sb⟩,⟨Sa 3,.mv (.t 97),Sb⟩]) (.skip)))))) (.skip))) (.seq (.reg [⟨Sa 98,.mv (.t 3),Sb⟩,⟨Sa 2,.mv (.t 98),Sb⟩]) (.ret))))))))
theorem is_ref13_numeral:FnIs Tryz.prog 84 99 [.tmp 2] c_ref13_numeral:=⟨⟨_,_,Tryz.func84,rfl,rfl,by kernel_rfl,by kernel_rfl⟩⟩
def c_ref13_exponent:SCode :=.seq (.reg [⟨Sa 2,.mv (.c (.i .i64 0)),Sb⟩]) (.seq (.reg [⟨Sa 6,.mv (.t 0),Sb⟩,⟨Sa 7,.bin .neq (.t 6) (.c (.s [])),Sb⟩,⟨Sa 8,.mv (.t 7),Sb⟩,⟨Sa 9,.mv (.t 0),some (8,true)⟩,⟨Sa 10,.idx (.t 9) (.c (.i .i64 0)),some (8,true)⟩,⟨Sa 11,.bin .eql (.t 10) (.c (.i .u8 45)),some (8,true)⟩,⟨Sa 12,.pick (.t 8) (.t 11) (.c (.b false)),Sb⟩,⟨Sa 3,.mv (.t 12),Sb⟩]) (.seq (.seq (.reg [⟨Sa 13,.mv (.t 0),Sb⟩,⟨Sa 14,.bin .neq (.t 13) (.c (.s [])),Sb⟩,⟨Sa 15,.mv (.t 14),Sb⟩,⟨Sa 16,.mv (.t 0),some (15,true)⟩,⟨Sa 17,.idx (.t 16) (.c (.i .i64 0)),some (15,true)⟩,⟨Sa 18,.call 82 [.t 17,.c (.s [43,45])],some (15,true)⟩,⟨Sa 19,.pick (.t 15) (.t 18) (.c (.b false)),Sb⟩]) (.cond (.t 19) (.reg [⟨Sa 20,.mv (.t 0),Sb⟩,⟨Sa 21,.slcs (.t 20) (some (.c (.i .i64 1))) none,Sb⟩,⟨Sa 0,.mv (.t 21),Sb⟩]) (.skip))) (.seq (.reg [⟨Sa 4,.mv (.c (.i .i64 0)),Sb⟩]) (.seq (.seq (.reg [⟨Sa 5,.mv (.c (.i .i64 0)),Sb⟩]) (.blk 0 (.loop (.seq (.seq (.reg [⟨Sa 22,.mv (.t 5),Sb⟩,⟨Sa 23,.mv (.t 0),Sb⟩,⟨Sa 24,.lens (.t 23),Sb⟩,⟨Sa 25,.bin .lss (.t 22) (.t 24),Sb⟩]) (.cond (.t 25) (.skip) (.exit 0))) (.seq (.blk 1 (.reg [⟨Sa 28,.mv (.t 4),Sb⟩,⟨Sa 29,.bin .mul (.t 28) (.c (.i .i64 10)),Sb⟩,⟨Sa 30,.mv (.t 0),Sb⟩,⟨Sa 31,.mv (.t 5),Sb⟩,⟨Sa 32,.idx (.t 30) (.t 31),Sb⟩,⟨Sa 33,.bin .sub (.t 32) (.c (.i .u8 48)),Sb⟩,⟨Sa 34,.cvi .i64 (.t 33),Sb⟩,⟨Sa 35,.bin .add (.t 29) (.t 34),Sb⟩,⟨Sa 36,.pu .mn [.t 35,.c (.i .i64 1073741824)],Sb⟩,⟨Sa 4,.mv (.t 36),Sb⟩])) (.reg [⟨Sa 26,.mv (.t 5),Sb⟩,⟨Sa 27,.bin .add (.t 26) (.c (.i .i64 1)),Sb⟩,⟨Sa 5,.mv (.t 27),Sb⟩])))))) (.seq (.seq (.reg [⟨Sa 37,.mv (.t 3),Sb⟩]) (.cond (.t 37) (.seq (.reg [⟨Sa 38,.mv (.t 4),Sb⟩,⟨Sa 39,.neg (.t 38),Sb⟩,⟨Sa 2,.mv (.t 39),Sb⟩]) (.ret)) (.skip))) (.seq (.reg [⟨Sa 40,.mv (.t 4),Sb⟩,⟨Sa 2,.mv (.t 40),Sb⟩]) (.ret)))))))
theorem is_ref13_exponent:FnIs Tryz.prog 85 41 [.tmp 2] c_ref13_exponent:=⟨⟨_,_,Tryz.func85,rfl,rfl,by kernel_rfl,by kernel_rfl⟩⟩
def c_ref13_tail:SCode :=.seq (.reg [⟨Sa 4,.mv (.c (.s [])),Sb⟩]) (.seq (.seq (.reg [⟨Sa 5,.mv (.t 1),Sb⟩,⟨Sa 6,.mv (.t 0),Sb⟩,⟨Sa 7,.lens (.t 6),Sb⟩,⟨Sa 8,.bin .geq (.t 5) (.t 7),Sb⟩]) (.cond (.t 8) (.seq (.reg [⟨Sa 4,.mv (.c (.s [])),Sb⟩]) (.ret)) (.skip))) (.seq (.reg [⟨Sa 9,.mv (.t 0),Sb⟩,⟨Sa 10,.mv (.t 1),Sb⟩,⟨Sa 11,.slcs (.t 9) (some (.t 10)) none,Sb⟩,⟨Sa 4,.mv (.t 11),Sb⟩]) (.ret)))
theorem is_ref13_tail:FnIs Tryz.prog 86 12 [.tmp 4] c_ref13_tail:=⟨⟨_,_,Tryz.func86,rfl,rfl,by kernel_rfl,by kernel_rfl⟩⟩
def c_ref13_white:SCode :=.seq (.reg [⟨Sa 2,.mv (.c (.b false)),Sb⟩]) (.seq (.reg [⟨Sa 3,.mv (.t 0),Sb⟩,⟨Sa 4,.call 82 [.t 3,.c (.s [32,9,10,13])],Sb⟩,⟨Sa 2,.mv (.t 4),Sb⟩]) (.ret))
theorem is_ref13_white:FnIs Tryz.prog 88 5 [.tmp 2] c_ref13_white:=⟨⟨_,_,Tryz.func88,rfl,rfl,by kernel_rfl,by kernel_rfl⟩⟩
def c_ref13_text:SCode :=.seq (.reg [⟨Sa 4,.mv (.c (.s [])),Sb⟩,⟨Sa 5,.mv (.c (.i .i64 0)),Sb⟩,⟨Sa 6,.mv (.c (.i .i64 0)),Sb⟩]) (.seq (.reg [⟨Sa 7,.mv (.c (.s [])),Sb⟩]) (.seq (.seq (.reg [⟨Sa 15,.mv (.t 1),Sb⟩,⟨Sa 16,.bin .add (.t 15) (.c (.i .i64 1)),Sb⟩,⟨Sa 8,.mv (.t 16),Sb⟩]) (.blk 0 (.loop (.seq (.seq (.reg [⟨Sa 17,.mv (.t 8),Sb⟩,⟨Sa 18,.mv (.t 0),Sb⟩,⟨Sa 19,.lens (.t 18),Sb⟩,⟨Sa 20,.bin .lss (.t 17) (.t 19),Sb⟩]) (.cond (.t 20) (.skip) (.exit 0))) (.blk 1 (.blk 2 (.seq (.reg [⟨Sa 39,.mv (.t 0),Sb⟩,⟨Sa 40,.mv (.t 8),Sb⟩,⟨Sa 41,.idx (.t 39) (.t 40),Sb⟩,⟨Sa 42,.bin .eql (.t 41) (.c (.i .u8 34)),Sb⟩,⟨Sa 38,.mv (.t 42),Sb⟩]) (.cond (.t 38) (.seq (.reg [⟨Sa 43,.mv (.t 7),Sb⟩,⟨Sa 44,.mv (.t 8),Sb⟩,⟨Sa 45,.bin .add (.t 44) (.c (.i .i64 1)),Sb⟩,⟨Sa 4,.mv (.t 43),Sb⟩,⟨Sa 5,.mv (.t 45),Sb⟩,⟨Sa 6,.mv (.c (.i .i64 0)),Sb⟩]) (.ret)) (.seq (.reg [⟨Sa 47,.mv (.t 0),Sb⟩,⟨Sa 48,.mv (.t 8),Sb⟩,⟨Sa 49,.idx (.t 47) (.t 48),Sb⟩,⟨Sa 50,.bin .eql (.t 49) (.c (.i .u8 92)),Sb⟩,⟨Sa 46,.mv (.t 50),Sb⟩]) (.cond (.t 46) (.seq (.reg [⟨Sa 52,.mv (.t 0),Sb⟩,⟨Sa 53,.mv (.t 8),Sb⟩,⟨Sa 54,.call 105 [.t 52,.t 53],Sb⟩,⟨Sa 51,.mv (.t 54),Sb⟩,⟨Sa 55,.ext (.t 51) 0,Sb⟩,⟨Sa 56,.ext (.t 51) 1,Sb⟩,⟨Sa 57,.ext (.t 51) 2,Sb⟩,⟨Sa 9,.mv (.t 55),Sb⟩,⟨Sa 10,.mv (.t 56),Sb⟩,⟨Sa 11,.mv (.t 57),Sb⟩]) (.seq (.seq (.reg [⟨Sa 58,.mv (.t 11),Sb⟩,⟨Sa 59,.bin .neq (.t 58) (.c (.i .i64 0)),Sb⟩]) (.cond (.t 59) (.seq (.reg [⟨Sa 60,.mv (.t 11),Sb⟩,⟨Sa 4,.mv (.c (.s [])),Sb⟩,⟨Sa 5,.mv (.c (.i .i64 0)),Sb⟩,⟨Sa 6,.mv (.t 60),Sb⟩]) (.ret)) (.skip))) (.reg [⟨Sa 61,.mv (.t 7),Sb⟩,⟨Sa 62,.mv (.t 9),Sb⟩,⟨Sa 63,.bin .add (.t 61) (.t 62),Sb⟩,⟨Sa 64,.mv (.t 10),Sb⟩,⟨Sa 7,.mv (.t 63),Sb⟩,⟨Sa 8,.mv (.t 64),Sb⟩]))) (.seq (.reg [⟨Sa 66,.mv (.t 0),Sb⟩,⟨Sa 67,.mv (.t 8),Sb⟩,⟨Sa 68,.idx (.t 66) (.t 67),Sb⟩,⟨Sa 69,.bin .lss (.t 68) (.c (.i .u8 32)),Sb⟩,⟨Sa 65,.mv (.t 69),Sb⟩]) (.cond (.t 65) (.seq (.reg [⟨Sa 4,.mv (.c (.s [])),Sb⟩,⟨Sa 5,.mv (.c (.i .i64 0)),Sb⟩,⟨Sa 6,.mv (.c (.i .i64 130)),Sb⟩]) (.ret)) (.seq (.reg [⟨Sa 22,.mv (.t 0),Sb⟩,⟨Sa 23,.mv (.t 8),Sb⟩,⟨Sa 24,.call 106 [.t 22,.t 23],Sb⟩,⟨Sa 21,.mv (.t 24),Sb⟩,⟨Sa 25,.ext (.t 21) 0,Sb⟩,⟨Sa 26,.ext (.t 21) 1,Sb⟩,⟨Sa 27,.ext (.t 21) 2,Sb⟩,⟨Sa 12,.mv (.t 25),Sb⟩,⟨Sa 13,.mv (.t 26),Sb⟩,⟨Sa 14,.mv (.t 27),Sb⟩]) (.seq (.seq (.reg [⟨Sa 28,.mv (.t 14),Sb⟩,⟨Sa 29,.bin .neq (.t 28) (.c (.i .i64 0)),Sb⟩]) (.cond (.t 29) (.seq (.reg [⟨Sa 30,.mv (.t 14),Sb⟩,⟨Sa 4,.mv (.c (.s [])),Sb⟩,⟨Sa 5,.mv (.c (.i .i64 0)),Sb⟩,⟨Sa 6,.mv (.t 30),Sb⟩]) (.ret)) (.skip))) (.reg [⟨Sa 31,.mv (.t 7),Sb⟩,⟨Sa 32,.mv (.t 0),Sb⟩,⟨Sa 33,.mv (.t 8),Sb⟩,⟨Sa 34,.mv (.t 13),Sb⟩,⟨Sa 35,.slcs (.t 32) (some (.t 33)) (some (.t 34)),Sb⟩,⟨Sa 36,.bin .add (.t 31) (.t 35),Sb⟩,⟨Sa 37,.mv (.t 13),Sb⟩,⟨Sa 7,.mv (.t 36),Sb⟩,⟨Sa 8,.mv (.t 37),Sb⟩]))))))))))))))) (.seq (.reg [⟨Sa 4,.mv (.c (.s [])),Sb⟩,⟨Sa 5,.mv (.c (.i .i64 0)),Sb⟩,⟨Sa 6,.mv (.c (.i .i64 130)),Sb⟩]) (.ret))))
theorem is_ref13_text:FnIs Tryz.prog 89 70 [.tmp 4,.tmp 5,.tmp 6] c_ref13_text:=⟨⟨_,_,Tryz.func89,rfl,rfl,by kernel_rfl,by kernel_rfl⟩⟩
def c_did_isMethod:SCode :=.seq (.reg [⟨Sa 2,.mv (.c (.b false)),Sb⟩]) (.seq (.seq (.reg [⟨Sa 4,.mv (.t 0),Sb⟩,⟨Sa 5,.lens (.t 4),Sb⟩,⟨Sa 6,.mv (.c (.i .i64 0)),Sb⟩]) (.blk 0 (.loop (.seq (.reg [⟨Sa 7,.bin .lss (.t 6) (.t 5),Sb⟩]) (.seq (.cond (.t 7) (.skip) (.exit 0)) (.seq (.blk 1 (.seq (.reg [⟨Sa 8,.mv (.t 6),Sb⟩,⟨Sa 3,.mv (.t 8),Sb⟩]) (.seq (.reg [⟨Sa 9,.mv (.t 0),Sb⟩,⟨Sa 10,.mv (.t 3),Sb⟩,⟨Sa 11,.idx (.t 9) (.t 10),Sb⟩,⟨Sa 12,.call 109 [.t 11],Sb⟩,⟨Sa 13,.not (.t 12),Sb⟩,⟨Sa 14,.mv (.t 13),Sb⟩,⟨Sa 15,.mv (.t 0),some (14,true)⟩,⟨Sa 16,.mv (.t 3),some (14,true)⟩,⟨Sa 17,.idx (.t 15) (.t 16),some (14,true)⟩,⟨Sa 18,.bin .lss (.t 17) (.c (.i .u8 97)),some (14,true)⟩,⟨Sa 19,.mv (.t 18),some (14,true)⟩,⟨Sa 20,.mv (.t 0),some (19,false)⟩,⟨Sa 21,.mv (.t 3),some (19,false)⟩,⟨Sa 22,.idx (.t 20) (.t 21),some (19,false)⟩,⟨Sa 23,.bin .gtr (.t 22) (.c (.i .u8 122)),some (19,false)⟩,⟨Sa 24,.pick (.t 19) (.c (.b true)) (.t 23),some (14,true)⟩,⟨Sa 25,.pick (.t 14) (.t 24) (.c (.b false)),Sb⟩]) (.cond (.t 25) (.seq (.reg [⟨Sa 2,.mv (.c (.b false)),Sb⟩]) (.ret)) (.skip))))) (.reg [⟨Sa 26,.bin .add (.t 6) (.c (.i .i64 1)),Sb⟩,⟨Sa 6,.mv (.t 26),Sb⟩]))))))) (.seq (.reg [⟨Sa 27,.mv (.t 0),Sb⟩,⟨Sa 28,.bin .neq (.t 27) (.c (.s [])),Sb⟩,⟨Sa 2,.mv (.t 28),Sb⟩]) (.ret)))
theorem is_did_isMethod:FnIs Tryz.prog 94 29 [.tmp 2] c_did_isMethod:=⟨⟨_,_,Tryz.func94,rfl,rfl,by kernel_rfl,by kernel_rfl⟩⟩
def c_did_parseID:SCode :=.seq (.reg [⟨Sa 2,.mv (.c (.s [])),Sb⟩,⟨Sa 3,.mv (.c (.i .i64 0)),Sb⟩]) (.seq (.seq (.reg [⟨Sa 10,.mv (.t 0),Sb⟩,⟨Sa 11,.call 110 [.t 10],Sb⟩,⟨Sa 9,.mv (.t 11),Sb⟩,⟨Sa 12,.ext (.t 9) 0,Sb⟩,⟨Sa 13,.ext (.t 9) 1,Sb⟩,⟨Sa 4,.mv (.t 12),Sb⟩,⟨Sa 5,.mv (.t 13),Sb⟩]) (.seq (.reg [⟨Sa 14,.mv (.t 5),Sb⟩,⟨Sa 15,.bin .neq (.t 14) (.c (.i .i64 0)),Sb⟩]) (.cond (.t 15) (.seq (.reg [⟨Sa 16,.mv (.t 5),Sb⟩,⟨Sa 2,.mv (.c (.s [])),Sb⟩,⟨Sa 3,.mv (.t 16),Sb⟩]) (.ret)) (.skip)))) (.seq (.seq (.reg [⟨Sa 17,.mv (.t 0),Sb⟩,⟨Sa 18,.lens (.t 17),Sb⟩,⟨Sa 19,.mv (.c (.i .i64 0)),Sb⟩]) (.blk 0 (.loop (.seq (.reg [⟨Sa 20,.bin .lss (.t 19) (.t 18),Sb⟩]) (.seq (.cond (.t 20) (.skip) (.exit 0)) (.seq (.blk 1 (.seq (.reg [⟨Sa 21,.mv (.t 19),Sb⟩,⟨Sa 6,.mv (.t 21),Sb⟩]) (.seq (.reg [⟨Sa 22,.mv (.t 0),Sb⟩,⟨Sa 23,.mv (.t 6),Sb⟩,⟨Sa 24,.idx (.t 22) (.t 23),Sb⟩,⟨Sa 25,.bin .neq (.t 24) (.c (.i .u8 37)),Sb⟩,⟨Sa 26,.mv (.t 25),Sb⟩,⟨Sa 27,.mv (.t 0),some (26,true)⟩,⟨Sa 28,.mv (.t 6),some (26,true)⟩,⟨Sa 29,.idx (.t 27) (.t 28),some (26,true)⟩,⟨Sa 30,.call 111 [.t 29],some (26,true)⟩,⟨Sa 31,.not (.t 30),some (26,true)⟩,⟨Sa 32,.pick (.t 26) (.t 31) (.c (.b false)),Sb⟩]) (.cond (.t 32) (.seq (.reg [⟨Sa 2,.mv (.c (.s [])),Sb⟩,⟨Sa 3,.mv (.c (.i .i64 1)),Sb⟩]) (.ret)) (.skip))))) (.reg [⟨Sa 33,.bin .add (.t 19) (.c (.i .i64 1)),Sb⟩,⟨Sa 19,.mv (.t 33),Sb⟩]))))))) (.seq (.seq (.reg [⟨Sa 34,.mv (.t 0),Sb⟩,⟨Sa 35,.bin .eql (.t 34) (.c (.s [])),Sb⟩,⟨Sa 36,.mv (.t 35),Sb⟩,⟨Sa 37,.mv (.t 0),some (36,false)⟩,⟨Sa 38,.mv (.t 0),some (36,false)⟩,⟨Sa 39,.lens (.t 38),some (36,false)⟩,⟨Sa 40,.bin .sub (.t 39) (.c (.i .i64 1)),some (36,false)⟩,⟨Sa 41,.idx (.t 37) (.t 40),some (36,false)⟩,⟨Sa 42,.bin .eql (.t 41) (.c (.i .u8 58)),some (36,false)⟩,⟨Sa 43,.pick (.t 36) (.c (.b true)) (.t 42),Sb⟩]) (.cond (.t 43) (.seq (.reg [⟨Sa 2,.mv (.c (.s [])),Sb⟩,⟨Sa 3,.mv (.c (.i .i64 3)),Sb⟩]) (.ret)) (.skip))) (.seq (.reg [⟨Sa 45,.mv (.t 0),Sb⟩,⟨Sa 46,.call 112 [.t 45,.c (.s [46,45,95,58])],Sb⟩,⟨Sa 44,.mv (.t 46),Sb⟩,⟨Sa 47,.ext (.t 44) 0,Sb⟩,⟨Sa 48,.ext (.t 44) 1,Sb⟩,⟨Sa 7,.mv (.t 47),Sb⟩,⟨Sa 8,.mv (.t 48),Sb⟩]) (.seq (.seq (.reg [⟨Sa 49,.mv (.t 8),Sb⟩,⟨Sa 50,.bin .neq (.t 49) (.c (.i .i64 0)),Sb⟩]) (.cond (.t 50) (.seq (.reg [⟨Sa 51,.mv (.t 8),Sb⟩,⟨Sa 2,.mv (.c (.s [])),Sb⟩,⟨Sa 3,.mv (.t 51),Sb⟩]) (.ret)) (.skip))) (.seq (.reg [⟨Sa 52,.mv (.t 7),Sb⟩,⟨Sa 53,.call 113 [.t 52,.c (.s [126]),.c (.s [37,55,69])],Sb⟩,⟨Sa 2,.mv (.t 53),Sb⟩,⟨Sa 3,.mv (.c (.i .i64 0)),Sb⟩]) (.ret)))))))
theorem is_did_parseID:FnIs Tryz.prog 95 54 [.tmp 2,.tmp 3] c_did_parseID:=⟨⟨_,_,Tryz.func95,rfl,rfl,by kernel_rfl,by kernel_rfl⟩⟩
def c_slices_Clone__string_string:SCode :=.seq (.reg [⟨Sa 2,.mv (.c .nil),Sb⟩]) (.seq (.seq (.reg [⟨Sa 3,.mv (.t 0),Sb⟩,⟨Sa 4,.pu (.snil false) [.t 3,.c .nil],Sb⟩]) (.cond (.t 4) (.seq (.reg [⟨Sa 2,.mv (.c .nil),Sb⟩]) (.ret)) (.skip))) (.seq (.reg [⟨Sa 5,.mks 9 1 1 (.c (.i .i64 0)) (.c (.i .i64 0)),Sb⟩,⟨Sa 6,.mv (.t 0),Sb⟩,⟨Sa 7,.app 9 1 16 (.t 5) (.t 6),Sb⟩,⟨Sa 2,.mv (.t 7),Sb⟩]) (.ret)))
theorem is_slices_Clone__string_string:FnIs Tryz.prog 98 8 [.tmp 2] c_slices_Clone__string_string:=⟨⟨_,_,Tryz.func98,rfl,rfl,by kernel_rfl,by kernel_rfl⟩⟩
def c_slices_Clone__api_Value_api_Value:SCode :=.seq (.reg [⟨Sa 2,.mv (.c .nil),Sb⟩]) (.seq (.seq (.reg [⟨Sa 3,.mv (.t 0),Sb⟩,⟨Sa 4,.pu (.snil false) [.t 3,.c .nil],Sb⟩]) (.cond (.t 4) (.seq (.reg [⟨Sa 2,.mv (.c .nil),Sb⟩]) (.ret)) (.skip))) (.seq (.reg [⟨Sa 5,.mks 25 4 1 (.c (.i .i64 0)) (.c (.i .i64 0)),Sb⟩,⟨Sa 6,.mv (.t 0),Sb⟩,⟨Sa 7,.app 25 4 72 (.t 5) (.t 6),Sb⟩,⟨Sa 2,.mv (.t 7),Sb⟩]) (.ret)))
theorem is_slices_Clone__api_Value_api_Value:FnIs Tryz.prog 99 8 [.tmp 2] c_slices_Clone__api_Value_api_Value:=⟨⟨_,_,Tryz.func99,rfl,rfl,by kernel_rfl,by kernel_rfl⟩⟩
def c_did_Parse:SCode :=.seq (.reg [⟨Sa 2,.alloc 87 [.s [],.s [],.s [],.s [],.s [],.b false,.b false],Sb⟩,⟨Sa 3,.mv (.c (.i .i64 0)),Sb⟩]) (.seq (.seq (.reg [⟨Sa 15,.mv (.t 0),Sb⟩,⟨Sa 16,.lens (.t 15),Sb⟩,⟨Sa 17,.bin .gtr (.t 16) (.c (.i .i64 4096)),Sb⟩]) (.cond (.t 17) (.seq (.reg [⟨Sa 18,.build [.s [],.s [],.s [],.s [],.s [],.b false,.b false] [],Sb⟩,⟨Sb,.store 7 (.t 2) (.t 18),Sb⟩,⟨Sa 3,.mv (.c (.i .i64 5)),Sb⟩]) (.ret)) (.skip))) (.seq (.reg [⟨Sa 20,.mv (.t 0),Sb⟩,⟨Sa 21,.call 93 [.t 20,.c (.s [35])],Sb⟩,⟨Sa 19,.mv (.t 21),Sb⟩,⟨Sa 22,.ext (.t 19) 0,Sb⟩,⟨Sa 23,.ext (.t 19) 1,Sb⟩,⟨Sa 24,.ext (.t 19) 2,Sb⟩,⟨Sa 4,.mv (.t 22),Sb⟩,⟨Sa 5,.mv (.t 23),Sb⟩,⟨Sa 6,.mv (.t 24),Sb⟩]) (.seq (.reg [⟨Sa 26,.mv (.t 4),Sb⟩,⟨Sa 27,.call 93 [.t 26,.c (.s [63])],Sb⟩,⟨Sa 25,.mv (.t 27),Sb⟩,⟨Sa 28,.ext (.t 25) 0,Sb⟩,⟨Sa 29,.ext (.t 25) 1,Sb⟩,⟨Sa 30,.ext (.t 25) 2,Sb⟩,⟨Sa 4,.mv (.t 28),Sb⟩,⟨Sa 7,.mv (.t 29),Sb⟩,⟨Sa 8,.mv (.t 30),Sb⟩]) (.seq (.reg [⟨Sa 32,.mv (.t 4),Sb⟩,⟨Sa 33,.call 93 [.t 32,.c (.s [47])],Sb⟩,⟨Sa 31,.mv (.t 33),Sb⟩,⟨Sa 34,.ext (.t 31) 0,Sb⟩,⟨Sa 35,.ext (.t 31) 1,Sb⟩,⟨Sa 36,.ext (.t 31) 2,Sb⟩,⟨Sa 9,.mv (.t 34),Sb⟩,⟨Sa 10,.mv (.t 35),Sb⟩,⟨Sa 11,.mv (.t 36),Sb⟩]) (.seq (.reg [⟨Sa 38,.mv (.t 9),Sb⟩,⟨Sa 39,.call 66 [.t 38],Sb⟩,⟨Sa 37,.mv (.t 39),Sb⟩,⟨Sa 40,.ext (.t 37) 0,Sb⟩,⟨Sa 41,.ext (.t 37) 1,Sb⟩,⟨Sa 12,.alloc 62 [.s [],.s []],Sb⟩,⟨Sb,.store 2 (.t 12) (.t 40),Sb⟩,⟨Sa 13,.mv (.t 41),Sb⟩]) (.seq (.seq (.reg [⟨Sa 42,.mv (.t 13),Sb⟩,⟨Sa 43,.bin .neq (.t 42) (.c (.i .i64 0)),Sb⟩]) (.cond (.t 43) (.seq (.reg [⟨Sa 44,.build [.s [],.s [],.s [],.s [],.s [],.b false,.b false] [],Sb⟩,⟨Sa 45,.mv (.t 13),Sb⟩,⟨Sb,.store 7 (.t 2) (.t 44),Sb⟩,⟨Sa 3,.mv (.t 45),Sb⟩]) (.ret)) (.skip))) (.seq (.reg [⟨Sa 47,.mv (.t 4),Sb⟩,⟨Sa 48,.mv (.t 9),Sb⟩,⟨Sa 49,.lens (.t 48),Sb⟩,⟨Sa 50,.slcs (.t 47) (some (.t 49)) none,Sb⟩,⟨Sa 51,.call 112 [.t 50,.c (.s [33,36,38,39,40,41,42,43,44,59,61,58,64,47])],Sb⟩,⟨Sa 46,.mv (.t 51),Sb⟩,⟨Sa 52,.ext (.t 46) 0,Sb⟩,⟨Sa 53,.ext (.t 46) 1,Sb⟩,⟨Sa 14,.mv (.t 52),Sb⟩,⟨Sa 13,.mv (.t 53),Sb⟩]) (.seq (.seq (.reg [⟨Sa 54,.mv (.t 13),Sb⟩,⟨Sa 55,.bin .neq (.t 54) (.c (.i .i64 0)),Sb⟩]) (.cond (.t 55) (.seq (.reg [⟨Sa 56,.build [.s [],.s [],.s [],.s [],.s [],.b false,.b false] [],Sb⟩,⟨Sa 57,.mv (.t 13),Sb⟩,⟨Sb,.store 7 (.t 2) (.t 56),Sb⟩,⟨Sa 3,.mv (.t 57),Sb⟩]) (.ret)) (.skip))) (.seq (.reg [⟨Sa 59,.mv (.t 7),Sb⟩,⟨Sa 60,.call 112 [.t 59,.c (.s [33,36,38,39,40,41,42,43,44,59,61,58,64,47,63])],Sb⟩,⟨Sa 58,.mv (.t 60),Sb⟩,⟨Sa 61,.ext (.t 58) 0,Sb⟩,⟨Sa 62,.ext (.t 58) 1,Sb⟩,⟨Sa 7,.mv (.t 61),Sb⟩,⟨Sa 13,.mv (.t 62),Sb⟩]) (.seq (.seq (.reg [⟨Sa 63,.mv (.t 13),Sb⟩,⟨Sa 64,.bin .neq (.t 63) (.c (.i .i64 0)),Sb⟩]) (.cond (.t 64) (.seq (.reg [⟨Sa 65,.build [.s [],.s [],.s [],.s [],.s [],.b false,.b false] [],Sb⟩,⟨Sa 66,.mv (.t 13),Sb⟩,⟨Sb,.store 7 (.t 2) (.t 65),Sb⟩,⟨Sa 3,.mv (.t 66),Sb⟩]) (.ret)) (.skip))) (.seq (.reg [⟨Sa 68,.mv (.t 5),Sb⟩,⟨Sa 69,.call 112 [.t 68,.c (.s [33,36,38,39,40,41,42,43,44,59,61,58,64,47,63])],Sb⟩,⟨Sa 67,.mv (.t 69),Sb⟩,⟨Sa 70,.ext (.t 67) 0,Sb⟩,⟨Sa 71,.ext (.t 67) 1,Sb⟩,⟨Sa 5,.mv (.t 70),Sb⟩,⟨Sa 13,.mv (.t 71),Sb⟩]) (.seq (.seq (.reg [⟨Sa 72,.mv (.t 13),Sb⟩,⟨Sa 73,.bin .neq (.t 72) (.c (.i .i64 0)),Sb⟩]) (.cond (.t 73) (.seq (.reg [⟨Sa 74,.build [.s [],.s [],.s [],.s [],.s [],.b false,.b false] [],Sb⟩,⟨Sa 75,.mv (.t 13),Sb⟩,⟨Sb,.store 7 (.t 2) (.t 74),Sb⟩,⟨Sa 3,.mv (.t 75),Sb⟩]) (.ret)) (.skip))) (.seq (.reg [⟨Sa 76,.loadn 2 (.t 12),Sb⟩,⟨Sa 77,.mv (.t 14),Sb⟩,⟨Sa 78,.mv (.t 7),Sb⟩,⟨Sa 79,.mv (.t 8),Sb⟩,⟨Sa 80,.mv (.t 5),Sb⟩,⟨Sa 81,.mv (.t 6),Sb⟩,⟨Sa 82,.build [.s [],.s [],.s [],.s [],.s [],.b false,.b false] [(0,(2,.t 76)),(2,(1,.t 77)),(3,(1,.t 78)),(5,(1,.t 79)),(4,(1,.t 80)),(6,(1,.t 81))],Sb⟩,⟨Sb,.store 7 (.t 2) (.t 82),Sb⟩,⟨Sa 3,.mv (.c (.i .i64 0)),Sb⟩]) (.ret))))))))))))))
theorem is_did_Parse:FnIs Tryz.prog 101 83 [.celln 2 7,.tmp 3] c_did_Parse:=⟨⟨_,_,Tryz.func101,rfl,rfl,by kernel_rfl,by kernel_rfl⟩⟩
def c_ref13_run:SCode :=.seq (.reg [⟨Sa 2,.mv (.c (.i .i64 0)),Sb⟩]) (.seq (.reg [⟨Sa 3,.mv (.c (.i .i64 0)),Sb⟩]) (.seq (.blk 0 (.loop (.seq (.seq (.reg [⟨Sa 4,.mv (.t 3),Sb⟩,⟨Sa 5,.mv (.t 0),Sb⟩,⟨Sa 6,.lens (.t 5),Sb⟩,⟨Sa 7,.bin .lss (.t 4) (.t 6),Sb⟩,⟨Sa 8,.mv (.t 7),Sb⟩,⟨Sa 9,.mv (.t 0),some (8,true)⟩,⟨Sa 10,.mv (.t 3),some (8,true)⟩,⟨Sa 11,.idx (.t 9) (.t 10),some (8,true)⟩,⟨Sa 12,.call 90 [.t 11],some (8,true)⟩,⟨Sa 13,.pick (.t 8) (.t 12) (.c (.b false)),Sb⟩]) (.cond (.t 13) (.skip) (.exit 0))) (.blk 1 (.reg [⟨Sa 14,.mv (.t 3),Sb⟩,⟨Sa 15,.bin .add (.t 14) (.c (.i .i64 1)),Sb⟩,⟨Sa 3,.mv (.t 15),Sb⟩]))))) (.seq (.reg [⟨Sa 16,.mv (.t 3),Sb⟩,⟨Sa 2,.mv (.t 16),Sb⟩]) (.ret))))
theorem is_ref13_run:FnIs Tryz.prog 104 17 [.tmp 2] c_ref13_run:=⟨⟨_,_,Tryz.func104,rfl,rfl,by kernel_rfl,by kernel_rfl⟩⟩
def c_did_isIDByte:SCode :=.seq (.reg [⟨Sa 2,.mv (.c (.b false)),Sb⟩]) (.seq (.reg [⟨Sa 3,.mv (.t 0),Sb⟩,⟨Sa 4,.call 125 [.t 3],Sb⟩,⟨Sa 5,.mv (.t 4),Sb⟩,⟨Sa 6,.mv (.t 0),some (5,false)⟩,⟨Sa 7,.call 109 [.t 6],some (5,false)⟩,⟨Sa 8,.pick (.t 5) (.c (.b true)) (.t 7),Sb⟩,⟨Sa 9,.mv (.t 8),Sb⟩,⟨Sa 10,.mv (.t 0),some (9,false)⟩,⟨Sa 11,.call 102 [.c (.s [46,45,95,58]),.t 10],some (9,false)⟩,⟨Sa 12,.bin .geq (.t 11) (.c (.i .i64 0)),some (9,false)⟩,⟨Sa 13,.pick (.t 9) (.c (.b true)) (.t 12),Sb⟩,⟨Sa 2,.mv (.t 13),Sb⟩]) (.ret))
theorem is_did_isIDByte:FnIs Tryz.prog 111 14 [.tmp 2] c_did_isIDByte:=⟨⟨_,_,Tryz.func111,rfl,rfl,by kernel_rfl,by kernel_rfl⟩⟩
def c_ref13_unit:SCode :=.seq (.reg [⟨Sa 4,.mv (.c (.i .i64 0)),Sb⟩,⟨Sa 5,.mv (.c (.b false)),Sb⟩]) (.seq (.seq (.reg [⟨Sa 8,.mv (.t 1),Sb⟩,⟨Sa 9,.bin .add (.t 8) (.c (.i .i64 6)),Sb⟩,⟨Sa 10,.mv (.t 0),Sb⟩,⟨Sa 11,.lens (.t 10),Sb⟩,⟨Sa 12,.bin .gtr (.t 9) (.t 11),Sb⟩,⟨Sa 13,.mv (.t 12),Sb⟩,⟨Sa 14,.mv (.t 0),some (13,false)⟩,⟨Sa 15,.mv (.t 1),some (13,false)⟩,⟨Sa 16,.idx (.t 14) (.t 15),some (13,false)⟩,⟨Sa 17,.bin .neq (.t 16) (.c (.i .u8 92)),some (13,false)⟩,⟨Sa 18,.pick (.t 13) (.c (.b true)) (.t 17),Sb⟩,⟨Sa 19,.mv (.t 18),Sb⟩,⟨Sa 20,.mv (.t 0),some (19,false)⟩,⟨Sa 21,.mv (.t 1),some (19,false)⟩,⟨Sa 22,.bin .add (.t 21) (.c (.i .i64 1)),some (19,false)⟩,⟨Sa 23,.idx (.t 20) (.t 22),some (19,false)⟩,⟨Sa 24,.bin .neq (.t 23) (.c (.i .u8 117)),some (19,false)⟩,⟨Sa 25,.pick (.t 19) (.c (.b true)) (.t 24),Sb⟩]) (.cond (.t 25) (.seq (.reg [⟨Sa 4,.mv (.c (.i .i64 0)),Sb⟩,⟨Sa 5,.mv (.c (.b false)),Sb⟩]) (.ret)) (.skip))) (.seq (.reg [⟨Sa 27,.mv (.t 0),Sb⟩,⟨Sa 28,.mv (.t 1),Sb⟩,⟨Sa 29,.bin .add (.t 28) (.c (.i .i64 2)),Sb⟩,⟨Sa 30,.mv (.t 1),Sb⟩,⟨Sa 31,.bin .add (.t 30) (.c (.i .i64 6)),Sb⟩,⟨Sa 32,.slcs (.t 27) (some (.t 29)) (some (.t 31)),Sb⟩,⟨Sa 33,.call 132 [.t 32,.c (.i .u64 65535)],Sb⟩,⟨Sa 26,.mv (.t 33),Sb⟩,⟨Sa 34,.ext (.t 26) 0,Sb⟩,⟨Sa 35,.ext (.t 26) 1,Sb⟩,⟨Sa 6,.mv (.t 34),Sb⟩,⟨Sa 7,.mv (.t 35),Sb⟩]) (.seq (.reg [⟨Sa 36,.mv (.t 6),Sb⟩,⟨Sa 37,.cvi .i64 (.t 36),Sb⟩,⟨Sa 38,.mv (.t 7),Sb⟩,⟨Sa 39,.bin .eql (.t 38) (.c (.i .i64 0)),Sb⟩,⟨Sa 4,.mv (.t 37),Sb⟩,⟨Sa 5,.mv (.t 39),Sb⟩]) (.ret))))
theorem is_ref13_unit:FnIs Tryz.prog 119 40 [.tmp 4,.tmp 5] c_ref13_unit:=⟨⟨_,_,Tryz.func119,rfl,rfl,by kernel_rfl,by kernel_rfl⟩⟩
end Go.Proofs.YtceenajkieomoaaGreatDoor.Sx
namespace Go.Proofs.YtceenajkieomoaaGreatDoor
open Go.RowKit Sx
open Lib renaming hasPrefix->qx, indexByte->xi
open List renaming all_eq_true->zt
theorem zmh {s:List UInt8} {p:UInt8->Bool} (h:∀j (hj:j<s.length),p s[j]=true):s.all p=true:=by
 rw[zt];intro x hx;obtain⟨j,hj,rfl⟩:=List.mem_iff_getElem.1 hx;exact h j hj
theorem ziB {s:List UInt8} {p:UInt8->Bool} {j:Nat} (hj:j<s.length) (h:p s[j]=false):s.all p=false:=by
 rw[Bool.eq_false_iff];intro e;have:=zt.1 e s[j] (List.getElem_mem _);rw[h] at this;cases this
theorem zaP {s:List UInt8} {j:Nat} (hj:j<s.length):s.getD j 0=s[j]:=by
 rw[List.getD_eq_getElem?_getD,List.getElem?_eq_getElem hj];rfl
theorem zpb (l:List UInt8) (c:UInt8):decide (0<=xi l c)=zbu c l:=by
 have:=idx_neg (l:=l) (c:=c);rcases h:zbu c l with _|_
 ·exact decide_eq_false (fun h2=>by have:=this.2 h;omega)
 ·exact decide_eq_true (by
   apply Classical.byContradiction
   intro h2;have:=this.1 (by omega);rw[h] at this;cases this)
theorem wrap_u64 (n:Int) (h0:0<=n) (h1:n<18446744073709551616):IntKind.u64.wrap n=n:=by
 simp[IntKind.wrap,IntKind.bits,IntKind.signed];omega
theorem zfd:maxLen=2 ^ 63 - 1:=rfl
theorem Qb.rev {w w':World} (h:w'=w):Qb w w':=by subst h;exact Qb.refl _
section
variable [Tabs Tryz.prog] {objs:List OB} {K:List OB->AV->Prop}
theorem zmk (c:UInt8) (hk:K objs (.b (zaq c))):zaf Tryz.prog 109 [.i .u8 c.toNat] objs K :=
 conv (vs:=[.int .u8 c.toNat]) rfl rfl (fun w=>(zeu c w).mono (by rintro e w' ⟨rfl,rfl⟩;exact⟨rfl,Qb.refl _⟩)) hk
theorem aAlpha_k (c:UInt8) (hk:K objs (.b (zbB c))):zaf Tryz.prog 125 [.i .u8 c.toNat] objs K :=
 conv (vs:=[.int .u8 c.toNat]) rfl rfl (fun w=>(zgU c w).mono (by rintro e w' ⟨rfl,rfl⟩;exact⟨rfl,Qb.refl _⟩)) hk
theorem zfs (s:List UInt8) (c:UInt8) (hk:K objs (.i .i64 (xi s c))):zaf Tryz.prog 102 [.s s,.i .u8 c.toNat] objs K:=by
 have e:((c.toNat:Nat):Int).toNat.toUInt8=c:=by simp
 exact conv (vs:=[.string (S s),.int .u8 c.toNat]) rfl rfl (fun w=>(Tryz.strings_IndexByte (S s) c.toNat w).mono fun e' w' ⟨h1,h2⟩=>⟨by rw[h1,e],Qb.rev h2⟩) hk
theorem ziR (s p:List UInt8) (hk:K objs (.b (qx s p))):zaf Tryz.prog 100 [.s s,.s p] objs K :=
 conv (vs:=[.string (S s),.string (S p)]) rfl rfl (fun w=>(Tryz.strings_HasPrefix (S s) (S p) w).mono fun e w' ⟨h1,h2⟩=>⟨h1,Qb.rev h2⟩) hk
theorem ziS (s p:List UInt8) (hk:K objs (.tup [.s (Lib.trimPrefix s p),.b (qx s p)])):zaf Tryz.prog 92 [.s s,.s p] objs K :=
 conv (vs:=[.string (S s),.string (S p)]) rfl rfl (fun w=>(Tryz.strings_CutPrefix (S s) (S p) w).mono fun e w' ⟨h1,h2⟩=>⟨h1,Qb.rev h2⟩) hk
theorem zkC (s:List UInt8) (c:UInt8) (hs:s.length<=maxLen) (hk:K objs (.tup [.s (zaw c s).1,.s (zaw c s).2.1,.b (zaw c s).2.2])):zaf Tryz.prog 93 [.s s,.s [c]] objs K :=
 conv (vs:=[.string (S s),.string (S [c])]) rfl rfl (fun w=>Cut_any (S s) c w (by rw[zcb];exact hs)) hk
theorem zhg (u:Nat) (hu:u<18446744073709551616) (hk:K objs (.s (Lib.decDigits u))):zaf Tryz.prog 87 [.i .u64 u] objs K :=
 conv (vs:=[.int .u64 u]) rfl rfl (fun w=>ziW u hu w) hk
theorem zdq (s set:List UInt8) (hs:s.length<=maxLen) (ha:set.length<=maxLen) (hk:K objs (.i .i64 (zb8 s set))):zaf Tryz.prog 69 [.s s,.s set] objs K :=
 zmR (vs:=[.string (S s),.string (S set)]) rfl rfl (fun w=>zmD (S s) (S set) w (by rw[zcb];exact hs) (by rw[zcb];exact ha)) hk
theorem zi3 (s p:List UInt8) (hs:s.length<=maxLen) (hk:K objs (.b (qx s p))):zaf Tryz.prog 68 [.s s,.s p] objs K :=
 zmR (vs:=[.string (S s),.string (S p)]) rfl rfl (fun w=>zjX (S s) (S p) w (by rw[zcb];exact hs)) hk
theorem zgs (c:UInt8) (hk:K objs (.b (zaq c))):zaf Tryz.prog 90 [.i .u8 c.toNat] objs K :=
 zmR (vs:=[.int .u8 c.toNat]) rfl rfl (fun w=>zdH c w) hk
theorem znX (c:UInt8) (hk:K objs (.b (zbB c))):zaf Tryz.prog 91 [.i .u8 c.toNat] objs K :=
 zmR (vs:=[.int .u8 c.toNat]) rfl rfl (fun w=>zdI c w) hk
theorem zi2 (c:UInt8) (s:List UInt8) (hs:s.length<=maxLen) (hk:K objs (.b (zbu c s))):zaf Tryz.prog 82 [.i .u8 c.toNat,.s s] objs K :=
 zmR (vs:=[.int .u8 c.toNat,.string (S s)]) rfl rfl (fun w=>zdJ c (S s) w (by rw[zcb];exact hs)) hk
theorem rnHex_k (s:List UInt8) (most:Nat) (hs:s.length<=maxLen) (hm:most<=18446744073709551615) (hk:K objs (.tup [.i .u64 (zfF zaT 16 most s).2,.i .i64 (zfF zaT 16 most s).1])):zaf Tryz.prog 132 [.s s,.i .u64 most] objs K :=
 zmR (vs:=[.string (S s),.int .u64 most]) rfl rfl (fun w=>rHex_any (S s) most w (by rw[zcb];exact hs) (by omega) (by omega)) hk
end
end Go.Proofs.YtceenajkieomoaaGreatDoor
namespace Go.Proofs.YtceenajkieomoaaGreatDoor
open Go.RowKit
open Int renaming eq_ofNat_of_zero_le->yi, toNat_natCast->jo
open Lib renaming hid->zb
open List renaming drop_of_length_le->xz, length_drop->zw, map_cons->zo, map_nil->qb
open Nat renaming and_two_pow_sub_one_eq_mod->yj, le_refl->ze
theorem zeH (a:Nat) (ha:a<9223372036854775808):(BitVec.ofInt 64 (a:Int)).toNat=a:=by
 rw[BitVec.ofInt_natCast,BitVec.toNat_ofNat];exact Nat.mod_eq_of_lt (by omega)
theorem zdu (a b:Nat) (ha:a<9223372036854775808) (hb:b<9223372036854775808):bits .and .i64 (a:Int) (b:Int)=((a &&& b:Nat):Int):=by
 have hx:a &&& b<2 ^ 63:=Nat.and_lt_two_pow _ (by omega);show IntKind.i64.wrap ((BitVec.ofInt 64 (a:Int) &&& BitVec.ofInt 64 (b:Int)).toNat:Int)=_;rw[BitVec.toNat_and,zeH a ha,zeH b hb,IntKind.wrap_i64];omega
theorem zdc (a b:Nat) (ha:a<9223372036854775808) (hb:b<9223372036854775808):bits .or .i64 (a:Int) (b:Int)=((a ||| b:Nat):Int):=by
 have hx:a ||| b<2 ^ 63:=Nat.or_lt_two_pow (by omega) (by omega);show IntKind.i64.wrap ((BitVec.ofInt 64 (a:Int) ||| BitVec.ofInt 64 (b:Int)).toNat:Int)=_;rw[BitVec.toNat_or,zeH a ha,zeH b hb,IntKind.wrap_i64];omega
theorem and63 (a:Nat):a &&& 63=a % 64:=yj a 6
theorem zi9 (a b i:Nat) (h:b<2 ^ i):2 ^ i*a ||| b=2 ^ i*a+b:=(Nat.two_pow_add_eq_or_of_lt h a).symm
theorem zda (r:Int) (w:World) :
  Calls Tryz.prog 133 #[.int .i64 r] w fun e w'=>e=.returned (.bool (cpB r))/\w=w':=by
 go_enter Tryz.func133,Tryz.ntmps133
 go_wp2
 all_goals go_ret
 all_goals exact⟨zaX (by unfold cpB;first|exact dt (by omega)|exact df (by omega)|(rw[Bool.eq_iff_iff];simp only[Bool.or_eq_true,Bool.and_eq_true,decide_eq_true_eq];omega)),rfl⟩
theorem zme (r:Nat) (h:r<=4503599627370496):bits .and .i64 (r:Int) 63=((r % 64:Nat):Int):=by
 have h1:=zdu r 63 (by omega) (by omega);rw[and63] at h1;exact h1
theorem or128 (x:Nat) (h:x<64):bits .or .i64 128 (x:Int)=((128+x:Nat):Int):=by
 have h2:=zdc 128 x (by omega) (by omega);have h3:=zi9 1 x 7 (by omega);rw[show (128:Nat) ||| x=128+x from h3] at h2;exact h2
theorem or192 (x:Nat) (h:x<64):bits .or .i64 192 (x:Int)=((192+x:Nat):Int):=by
 have h2:=zdc 192 x (by omega) (by omega);have h3:=zi9 3 x 6 (by omega);rw[show (192:Nat) ||| x=192+x from h3] at h2;exact h2
theorem or224 (x:Nat) (h:x<32):bits .or .i64 224 (x:Int)=((224+x:Nat):Int):=by
 have h2:=zdc 224 x (by omega) (by omega);have h3:=zi9 7 x 5 (by omega);rw[show (224:Nat) ||| x=224+x from h3] at h2;exact h2
theorem or240 (x:Nat) (h:x<16):bits .or .i64 240 (x:Int)=((240+x:Nat):Int):=by
 have h2:=zdc 240 x (by omega) (by omega);have h3:=zi9 15 x 4 (by omega);rw[show (240:Nat) ||| x=240+x from h3] at h2;exact h2
theorem or64 (r x:Nat) (hr:r<=4503599627370496) (h:x<64):bits .or .i64 ((r:Int)*64) (x:Int)=((r*64+x:Nat):Int):=by
 have h2:=zdc (r*64) x (by omega) (by omega);have h3:=zi9 r x 6 (by omega);rw[show r*64 ||| x=r*64+x from by rw[Nat.mul_comm];exact h3] at h2;rw[<-h2,Int.natCast_mul];rfl
structure UTabs (w:World):Prop where
 triv:True
theorem UTabs.keep {w w':World} (h:UTabs w) (hq:Qb w w'):UTabs w':=⟨trivial⟩
def zir (r:Int):Int×List UInt8:=if cpB r=true then (0,zeM r.toNat) else (4,[])
theorem encV_1 {n:Nat} (hp:cpB (n:Int)=true) (h:n<128):zir n=(0,(strOfNums [(n:Int)]).data.toList):=by
 unfold zir zeM;rw[if_pos hp,jo,if_pos h];rfl
theorem encV_2 {n:Nat} (hp:cpB (n:Int)=true) (h1:¬n<128) (h:n<2048):zir n=(0,(strOfNums [192+(n:Int) / 64,128+(n:Int) % 64]).data.toList):=by
 unfold zir zeM;rw[if_pos hp,jo,if_neg h1,if_pos h];simp only[strOfNums_data,zo,qb,u8b];rw[show (192+(n:Int) / 64).toNat=192+n / 64 from by omega,show (128+(n:Int) % 64).toNat=128+n % 64 from by omega]
theorem encV_3 {n:Nat} (hp:cpB (n:Int)=true) (h1:¬n<2048) (h:n<65536):zir n=(0,(strOfNums [224+(n:Int) / 4096,128+(n:Int) / 64 % 64,128+(n:Int) % 64]).data.toList):=by
 unfold zir zeM;rw[if_pos hp,jo,if_neg (by omega),if_neg h1,if_pos h];simp only[strOfNums_data,zo,qb,u8b];rw[show (224+(n:Int) / 4096).toNat=224+n / 4096 from by omega,show (128+(n:Int) / 64 % 64).toNat=128+n / 64 % 64 from by omega,show (128+(n:Int) % 64).toNat=128+n % 64 from by omega]
theorem encV_4 {n:Nat} (hp:cpB (n:Int)=true) (h1:¬n<65536):zir n=(0,(strOfNums [240+(n:Int) / 262144,128+(n:Int) / 4096 % 64,128+(n:Int) / 64 % 64,128+(n:Int) % 64]).data.toList):=by
 unfold zir zeM;rw[if_pos hp,jo,if_neg (by omega),if_neg (by omega),if_neg h1];simp only[strOfNums_data,zo,qb,u8b];rw[show (240+(n:Int) / 262144).toNat=240+n / 262144 from by omega,show (128+(n:Int) / 4096 % 64).toNat=128+n / 4096 % 64 from by omega,show (128+(n:Int) / 64 % 64).toNat=128+n / 64 % 64 from by omega,show (128+(n:Int) % 64).toNat=128+n % 64 from by omega]
theorem cpB_nat {r:Int} (h:cpB r=true):∃n:Nat,r=n/\n<=1114111:=by
 have:=of_decide_eq_true h;exact⟨r.toNat,by omega,by omega⟩
def firstN (c:UInt8) (n:Nat):Nat:=if n=1 then c.toNat else if n=2 then c.toNat % 32 else if n=3 then c.toNat % 16 else c.toNat % 8
theorem and31 (a:Nat):a &&& 31=a % 32:=yj a 5
theorem and15 (a:Nat):a &&& 15=a % 16:=yj a 4
theorem and7 (a:Nat):a &&& 7=a % 8:=yj a 3
def zdP (l:List UInt8) (at_:Int):Int×Int×Int :=
 if at_<0\/(l.length:Int)<=at_ then (0,0,4) else match zfz (l.drop at_.toNat) with
  | none=>(0,0,7)
  | some (r,n)=>((r:Int),at_+n,0)
def triV (x:Int×Int×Int):Value:=.tuple #[.int .i64 x.1,.int .i64 x.2.1,.int .i64 x.2.2]
theorem zmN {l:List UInt8} {a:Int} (h:a<0\/(l.length:Int)<=a):zdP l a=(0,0,4):=if_pos h
theorem zgM {l:List UInt8} {k:Nat} (h:k<l.length) (hd:zfz (l.drop k)=none):zdP l k=(0,0,7):=by
 unfold zdP;rw[if_neg (by omega),jo,hd]
theorem zko {l:List UInt8} {k r n:Nat} (h:k<l.length) (hd:zfz (l.drop k)=some (r,n)):zdP l k=((r:Int),(k:Int)+n,0):=by
 unfold zdP;rw[if_neg (by omega),jo,hd]
theorem zqd (q:Int) (h0:0<=q) (h:q<=4503599627370496):bits .and .i64 q 63=q % 64:=by
 obtain⟨n,rfl⟩:=yi h0;exact zme n (by omega)
theorem zog (q:Int) (h0:0<=q) (h:q<64):bits .or .i64 128 q=128+q:=by
 obtain⟨n,rfl⟩:=yi h0;exact or128 n (by omega)
theorem zdK (r:Int) (w:World) :
  Calls Tryz.prog 120 #[.int .i64 r] w fun e w'=>e=.returned (zjW (zir r))/\Qb w w':=by
 rcases hp:cpB r with _|_
 ·have he:zir r=(4,[]):=by unfold zir;rw[hp];rfl
  rw[he]
  go_enter Tryz.func120,Tryz.ntmps120
  go_wp2_with (go_at_call 133;refine(zda _ _).mono ?_;rintro e w1 ⟨rfl,rfl⟩)
  go_ret2
  exact⟨rfl,Qb.refl _⟩
 ·obtain⟨n,rfl,hn⟩:=cpB_nat hp;have a0:=zqd (n:Int) (by omega) (by omega);have a1:=zqd ((n:Int) / 64) (by omega) (by omega);have a2:=zqd ((n:Int) / 4096) (by omega) (by omega);have o0:=zog ((n:Int) % 64) (by omega) (by omega);have o1:=zog ((n:Int) / 64 % 64) (by omega) (by omega);have o2:=zog ((n:Int) / 4096 % 64) (by omega) (by omega)
  by_cases h1:n<128
  ·rw[encV_1 hp h1];have hst:=zeR w [(n:Int)] 1 rfl;simp only[zo,qb] at hst
   go_enter Tryz.func120,Tryz.ntmps120
   go_wp2_with (go_at_call 133;refine(zda _ _).mono ?_;rintro e w1 ⟨rfl,rfl⟩)
   go_ret2
   exact⟨rfl,(Qb.refl _).alloc _⟩
  ·by_cases h2:n<2048
   ·rw[encV_2 hp h1 h2];have hst:=zeR w [192+(n:Int) / 64,128+(n:Int) % 64] 2 rfl;simp only[zo,qb] at hst;have ho:bits .or .i64 192 ((n:Int) / 64)=192+(n:Int) / 64:=or192 (n / 64) (by omega)
    go_enter Tryz.func120,Tryz.ntmps120
    go_wp2_with (go_at_call 133;refine(zda _ _).mono ?_;rintro e w1 ⟨rfl,rfl⟩)
    go_ret2
    exact⟨rfl,(Qb.refl _).alloc _⟩
   ·by_cases h3:n<65536
    ·rw[encV_3 hp h2 h3];have hst:=zeR w [224+(n:Int) / 4096,128+(n:Int) / 64 % 64,128+(n:Int) % 64] 3 rfl;simp only[zo,qb] at hst;have ho:bits .or .i64 224 ((n:Int) / 4096)=224+(n:Int) / 4096:=or224 (n / 4096) (by omega);have hb3:decide ((n:Int)<65536)=true:=decide_eq_true (by omega);have hb1:decide ((n:Int)<128)=false:=decide_eq_false (by omega);have hb2:decide ((n:Int)<2048)=false:=decide_eq_false (by omega);have H3:=zb h3;have nb:(n:Int) / 4096<16:=by omega
     clear h1 h2 h3
     go_enter Tryz.func120,Tryz.ntmps120
     go_wp2_with (go_at_call 133;refine(zda _ _).mono ?_;rintro e w1 ⟨rfl,rfl⟩)
     go_ret2
     exact⟨rfl,(Qb.refl _).alloc _⟩
    ·rw[encV_4 hp h3];have hst:=zeR w [240+(n:Int) / 262144,128+(n:Int) / 4096 % 64,128+(n:Int) / 64 % 64,128+(n:Int) % 64] 4 rfl;simp only[zo,qb] at hst;have ho:bits .or .i64 240 ((n:Int) / 262144)=240+(n:Int) / 262144:=or240 (n / 262144) (by omega);have hb3:decide ((n:Int)<65536)=false:=decide_eq_false (by omega);have nb:(n:Int) / 262144<8:=by omega
     have hb1:decide ((n:Int)<128)=false:=decide_eq_false (by omega);have hb2:decide ((n:Int)<2048)=false:=decide_eq_false (by omega);have H3:=zb h3;clear h1 h2 h3
     go_enter Tryz.func120,Tryz.ntmps120
     go_wp2_with (go_at_call 133;refine(zda _ _).mono ?_;rintro e w1 ⟨rfl,rfl⟩)
     go_ret2
     exact⟨rfl,(Qb.refl _).alloc _⟩
def zfH:List UInt8->Nat->Nat
 | [],r=>r
 | c::t,r=>zfH t (r*64+c.toNat % 64)
def zfr:List UInt8->Nat
 | []=>0
 | c::t=>zfH t (firstN c (t.length+1))
theorem pow4 (i:Nat):4*64 ^ (i+1)=64*(4*64 ^ i):=by rw[Nat.pow_succ];omega
theorem zj1 {i:Nat} (h:i<=4):4*64 ^ i<=67108864:=by
 have:i=0\/i=1\/i=2\/i=3\/i=4:=by omega
 rcases this with rfl|rfl|rfl|rfl|rfl<;>decide
theorem zmt (s:ByteArray) (h1:1<=s.size) (h4:s.size<=4) (w:World) :
  Calls Tryz.prog 121 #[.string s] w fun e w'=>e=.returned (.int .i64 (zfr s.data.toList))/\Qb w w':=by
 have hd:=za9 s 0 (by omega);rw[List.drop_zero] at hd;have hv:zfr s.data.toList=zfH (s.data.toList.drop 1) (firstN s[0] s.size):=by
  conv=>lhs;rw[hd]
  rw[zfr,zw,zal,show s.size - 1+1=s.size from by omega]
 have HV:=zb hv;clear hd hv;have hc:=s[0].toNat_lt;have a1:bits .and .i64 (s[0].toNat:Int) 31=((s[0].toNat % 32:Nat):Int):=by rw[<-and31];exact zdu s[0].toNat 31 (by omega) (by omega)
 have a2:bits .and .i64 (s[0].toNat:Int) 15=((s[0].toNat % 16:Nat):Int):=by rw[<-and15];exact zdu s[0].toNat 15 (by omega) (by omega)
 have a3:bits .and .i64 (s[0].toNat:Int) 7=((s[0].toNat % 8:Nat):Int):=by rw[<-and7];exact zdu s[0].toNat 7 (by omega) (by omega)
 have H:=zb (And.intro a1 (And.intro a2 a3));clear a1 a2 a3;have hn:s.size=1\/s.size=2\/s.size=3\/s.size=4:=by omega
 rcases hn with hz|hz|hz|hz
 ·have HE:Hid (zfr s.data.toList=s[0].toNat):=zb (by rw[HV.out,xz (by rw[zal];omega),hz];rfl)
  go_enter Tryz.func121,Tryz.ntmps121
  go_wp2_with fail
  go_ret
  exact⟨zdo (by rw[HE.out]),Qb.refl _⟩
 ·have HE:Hid (zfr s.data.toList=zfH (s.data.toList.drop 1) (s[0].toNat % 32)):=zb (by rw[HV.out,hz];rfl);have HA:Hid (bits .and .i64 (s[0].toNat:Int) 31=((s[0].toNat % 32:Nat):Int)):=zb H.out.1
  go_enter Tryz.func121,Tryz.ntmps121
  go_wp2_with fail
  go_quiet (fail)
  go_wp2_with fail
  rw[HA.out]
  go_loop [3,4] (fun r x=>∃i q:Nat,1<=i/\i<=s.size/\x=.int .i64 i/\r=.int .i64 q/\q<4*64 ^ i/\Hid (zfr s.data.toList=zfH (s.data.toList.drop i) q)) (fun _ x=>s.size - (intOf x).toNat)
  case atStart=>exact⟨1,s[0].toNat % 32,ze _,h1,rfl,rfl,by omega,HE⟩
  case round=>
   obtain⟨i,q,hi1,hi,rfl,rfl,hq,HR⟩:=hrel;have hp:=zj1 (show i<=4 by omega);have hq2:q<67108864:=by omega
   have HP:=zb (pow4 i);have Hq:=zb hq;clear hp hq
   by_cases hlt:i<s.size
   ·have hcc:=s[i].toNat_lt;have HO:Hid (bits .or .i64 ((q:Int)*64) (bits .and .i64 (s[i].toNat:Int) 63)=((q*64+s[i].toNat % 64:Nat):Int)):=zb (by rw[zme s[i].toNat (by omega)];exact or64 q (s[i].toNat % 64) (by omega) (by omega));have HN:Hid (zfr s.data.toList=zfH (s.data.toList.drop (i+1)) (q*64+s[i].toNat % 64)):=zb (by rw[HR.out,za9 s i hlt];rfl)
    go_wp2_with fail
    go_round
    case rel=>
     refine⟨i+1,q*64+s[i].toNat % 64,by omega,by omega,by go_num,by rw[HO.out],?_,HN⟩;rw[HP.out];have:=Hq.out;generalize 4*64 ^ i=P at *;omega
    case measure=>simp[intOf];omega
   ·have HN:Hid (zfr s.data.toList=q):=zb (by rw[HR.out,xz (by rw[zal];omega)];rfl)
    go_wp2_with fail
    go_ret
    exact⟨zdo (by rw[HN.out]),(Qb.refl _).drewN _⟩
 ·have HE:Hid (zfr s.data.toList=zfH (s.data.toList.drop 1) (s[0].toNat % 16)):=zb (by rw[HV.out,hz];rfl);have HA:Hid (bits .and .i64 (s[0].toNat:Int) 15=((s[0].toNat % 16:Nat):Int)):=zb H.out.2.1
  go_enter Tryz.func121,Tryz.ntmps121
  go_wp2_with fail
  go_quiet (fail)
  go_wp2_with fail
  rw[HA.out]
  go_loop [3,4] (fun r x=>∃i q:Nat,1<=i/\i<=s.size/\x=.int .i64 i/\r=.int .i64 q/\q<4*64 ^ i/\Hid (zfr s.data.toList=zfH (s.data.toList.drop i) q)) (fun _ x=>s.size - (intOf x).toNat)
  case atStart=>exact⟨1,s[0].toNat % 16,ze _,h1,rfl,rfl,by omega,HE⟩
  case round=>
   obtain⟨i,q,hi1,hi,rfl,rfl,hq,HR⟩:=hrel;have hp:=zj1 (show i<=4 by omega);have hq2:q<67108864:=by omega
   have HP:=zb (pow4 i);have Hq:=zb hq;clear hp hq
   by_cases hlt:i<s.size
   ·have hcc:=s[i].toNat_lt;have HO:Hid (bits .or .i64 ((q:Int)*64) (bits .and .i64 (s[i].toNat:Int) 63)=((q*64+s[i].toNat % 64:Nat):Int)):=zb (by rw[zme s[i].toNat (by omega)];exact or64 q (s[i].toNat % 64) (by omega) (by omega));have HN:Hid (zfr s.data.toList=zfH (s.data.toList.drop (i+1)) (q*64+s[i].toNat % 64)):=zb (by rw[HR.out,za9 s i hlt];rfl)
    go_wp2_with fail
    go_round
    case rel=>
     refine⟨i+1,q*64+s[i].toNat % 64,by omega,by omega,by go_num,by rw[HO.out],?_,HN⟩;rw[HP.out];have:=Hq.out;generalize 4*64 ^ i=P at *;omega
    case measure=>simp[intOf];omega
   ·have HN:Hid (zfr s.data.toList=q):=zb (by rw[HR.out,xz (by rw[zal];omega)];rfl)
    go_wp2_with fail
    go_ret
    exact⟨zdo (by rw[HN.out]),(Qb.refl _).drewN _⟩
 ·have HE:Hid (zfr s.data.toList=zfH (s.data.toList.drop 1) (s[0].toNat % 8)):=zb (by rw[HV.out,hz];rfl);have HA:Hid (bits .and .i64 (s[0].toNat:Int) 7=((s[0].toNat % 8:Nat):Int)):=zb H.out.2.2
  go_enter Tryz.func121,Tryz.ntmps121
  go_wp2_with fail
  go_quiet (fail)
  go_wp2_with fail
  rw[HA.out]
  go_loop [3,4] (fun r x=>∃i q:Nat,1<=i/\i<=s.size/\x=.int .i64 i/\r=.int .i64 q/\q<4*64 ^ i/\Hid (zfr s.data.toList=zfH (s.data.toList.drop i) q)) (fun _ x=>s.size - (intOf x).toNat)
  case atStart=>exact⟨1,s[0].toNat % 8,ze _,h1,rfl,rfl,by omega,HE⟩
  case round=>
   obtain⟨i,q,hi1,hi,rfl,rfl,hq,HR⟩:=hrel;have hp:=zj1 (show i<=4 by omega);have hq2:q<67108864:=by omega
   have HP:=zb (pow4 i);have Hq:=zb hq;clear hp hq
   by_cases hlt:i<s.size
   ·have hcc:=s[i].toNat_lt;have HO:Hid (bits .or .i64 ((q:Int)*64) (bits .and .i64 (s[i].toNat:Int) 63)=((q*64+s[i].toNat % 64:Nat):Int)):=zb (by rw[zme s[i].toNat (by omega)];exact or64 q (s[i].toNat % 64) (by omega) (by omega));have HN:Hid (zfr s.data.toList=zfH (s.data.toList.drop (i+1)) (q*64+s[i].toNat % 64)):=zb (by rw[HR.out,za9 s i hlt];rfl)
    go_wp2_with fail
    go_round
    case rel=>
     refine⟨i+1,q*64+s[i].toNat % 64,by omega,by omega,by go_num,by rw[HO.out],?_,HN⟩;rw[HP.out];have:=Hq.out;generalize 4*64 ^ i=P at *;omega
    case measure=>simp[intOf];omega
   ·have HN:Hid (zfr s.data.toList=q):=zb (by rw[HR.out,xz (by rw[zal];omega)];rfl)
    go_wp2_with fail
    go_ret
    exact⟨zdo (by rw[HN.out]),(Qb.refl _).drewN _⟩
theorem valN_enc {r:Nat} (h:cpB (r:Int)=true):zfr (zeM r)=r:=by
 have hr:=(of_decide_eq_true h).2.1;unfold zeM
 by_cases h1:r<128
 ·rw[if_pos h1];show (u8b r).toNat=r;exact za2 (by omega)
 rw[if_neg h1]
 by_cases h2:r<2048
 ·rw[if_pos h2];show (u8b (192+r / 64)).toNat % 32*64+(u8b (128+r % 64)).toNat % 64=r;rw[za2 (by omega),za2 (by omega)];omega
 rw[if_neg h2]
 by_cases h3:r<65536
 ·rw[if_pos h3];show ((u8b (224+r / 4096)).toNat % 16*64+(u8b (128+r / 64 % 64)).toNat % 64)*64+(u8b (128+r % 64)).toNat % 64=r;rw[za2 (by omega),za2 (by omega),za2 (by omega)];omega
 ·rw[if_neg h3];show (((u8b (240+r / 262144)).toNat % 8*64+(u8b (128+r / 4096 % 64)).toNat % 64)*64+(u8b (128+r / 64 % 64)).toNat % 64)*64+(u8b (128+r % 64)).toNat % 64=r;rw[za2 (by omega),za2 (by omega),za2 (by omega),za2 (by omega)];omega
def zkb (l:List UInt8):Bool:=decide ((zir (zfr l)).1=0)&&((zir (zfr l)).2==l)
theorem zpa {l:List UInt8} {n:Nat} (hn:n<=l.length) (h:zkb (l.take n)=true):zfz l=some (zfr (l.take n),n):=by
 unfold zkb at h;rw[Bool.and_eq_true,decide_eq_true_eq,beq_iff_eq] at h;rcases hc:cpB (zfr (l.take n):Int) with _|_
 ·have:=h.1;unfold zir at this;rw[hc,if_neg Bool.false_ne_true] at this;exact absurd this (by decide)
 ·have h2:=h.2;unfold zir at h2;rw[hc,if_pos rfl,jo] at h2;exact zkm hc h2 hn
theorem isEnc_no {l:List UInt8} {n r:Nat} (h:zfz l=some (r,n)):zkb (l.take n)=true:=by
 have hb:=zd1 h;have hv:zfr (l.take n)=r:=by rw[<-hb.2.1];exact valN_enc hb.1
 unfold zkb zir;rw[hv,hb.1,if_pos rfl,jo,hb.2.1];simp
theorem zi4 (s:ByteArray) (a:Int) (w:World) (hs:s.size<=140737488351232) :
  Calls Tryz.prog 106 #[.string s,.int .i64 a] w fun e w'=>e=.returned (triV (zdP s.data.toList a))/\Qb w w':=by
 by_cases h:a<0\/(s.size:Int)<=a
 ·rw[zmN (by rw[zal];exact h)]
  by_cases h0:a<0
  ·clear h
   go_enter Tryz.func106,Tryz.ntmps106
   go_wp2_with fail
   go_ret3
   exact⟨rfl,Qb.refl _⟩
  ·have h1:(s.size:Int)<=a:=by omega
   clear h
   go_enter Tryz.func106,Tryz.ntmps106
   go_wp2_with fail
   go_ret3
   exact⟨rfl,Qb.refl _⟩
 ·obtain⟨k,rfl⟩:=yi (show 0<=a by omega);have hk:k<s.size:=by omega
  clear h;have hb0:decide ((k:Int)<0)=false:=decide_eq_false (by omega);have hbs:decide (s.size<=k)=false:=decide_eq_false (by omega)
  go_enter Tryz.func106,Tryz.ntmps106
  go_wp2_with fail
  go_loopw [7,8,9,10] (fun x _ _ _ wr=>∃n:Nat,1<=n/\n<=5/\x=.int .i64 n/\Hid (∀r m,zfz (s.data.toList.drop k)=some (r,m)->n<=m)/\Qb w wr) (fun x _ _ _ _=>5 - (intOf x).toNat)
  case atStart=>exact⟨1,ze _,by omega,rfl,zb fun r m hd=>(zd1 hd).2.2.2.1,Qb.refl w⟩
  case round=>
   obtain⟨n,h1,h5,rfl,HM,hq⟩:=hrel
   by_cases hlt:n<=4/\k+n<=s.size
   ·obtain⟨h4,hle⟩:=hlt;have hx:Hid ((s.extract k (k+n)).data.toList=(s.data.toList.drop k).take n):=zb (by rw[Lib.extract_data,Nat.add_sub_cancel_left]);have hsz:=size_extract s k (k+n) hle;have hz1:1<=(s.extract k (k+n)).size:=by omega
    have hz4:(s.extract k (k+n)).size<=4:=by omega
    clear hsz
    go_wp2_with fail
    refine(zmt _ hz1 hz4 _).mono ?_;rintro e w1 ⟨rfl,hq1⟩;rw[hx.out];rcases hi:zkb ((s.data.toList.drop k).take n) with _|_
    ·have HN:Hid (∀r m,zfz (s.data.toList.drop k)=some (r,m)->n+1<=m):=zb fun r m hd=>by
      have h6:=HM.out r m hd;have h7:n≠m:=by
       rintro rfl;rw[isEnc_no hd] at hi;cases hi
      omega
     obtain⟨er,eb,hres,hor⟩:∃er eb,zjW (zir (zfr ((s.data.toList.drop k).take n)))=.tuple #[.string eb,.int .i64 er]/\((er==0)=false\/(eb.toList==(s.extract k (k+n)).toList)=false):=by
      refine⟨_,_,rfl,?_⟩;unfold zkb at hi;rw[Bool.and_eq_false_iff,decide_eq_false_iff_not,beq_eq_false_iff_ne] at hi;rcases hi with hi|hi
      ·exact .inl (beq_eq_false_iff_ne.2 hi)
      ·refine .inr (beq_eq_false_iff_ne.2 fun e=>hi ?_);rw[ByteArray.toList_eq,ByteArray.toList_eq,hx.out] at e;exact e
     have HR:=zb hres;clear hres hi;generalize zfr ((s.data.toList.drop k).take n)=q at *
     go_wp2_with fail
     refine(zdK _ _).mono ?_;rintro e w2 ⟨rfl,hq2⟩;rw[HR.out];rcases hor with ho|ho
     ·go_wp2_with fail
      go_roundw
      case rel=>exact⟨n+1,by omega,by omega,by go_num,HN,(hq.trans hq1).trans hq2⟩
      case measure=>simp[intOf];omega
     ·by_cases he:er=0
      ·subst he
       go_wp2_with fail
       go_roundw
       case rel=>exact⟨n+1,by omega,by omega,by go_num,HN,(hq.trans hq1).trans hq2⟩
       case measure=>simp[intOf];omega
      ·have he1:(er==0)=false:=beq_eq_false_iff_ne.2 he;clear he
       go_wp2_with fail
       go_roundw
       case rel=>exact⟨n+1,by omega,by omega,by go_num,HN,(hq.trans hq1).trans hq2⟩
       case measure=>simp[intOf];omega
    ·have HD:=zb (zpa (by rw[zw,zal];omega) hi);have hres:zjW (zir (zfr ((s.data.toList.drop k).take n)))=.tuple #[.string (s.extract k (k+n)),.int .i64 0]:=by
      unfold zkb at hi;rw[Bool.and_eq_true,decide_eq_true_eq,beq_iff_eq] at hi;unfold zjW;rw[hi.1,hi.2,<-hx.out]
     have HR:=zb hres;clear hres hi;generalize zfr ((s.data.toList.drop k).take n)=q at *
     go_wp2_with fail
     refine(zdK _ _).mono ?_;rintro e w2 ⟨rfl,hq2⟩;rw[HR.out]
     go_wp2_with fail
     go_ret3
     exact⟨by rw[zko (by rw[zal];exact hk) HD.out];rfl,(hq.trans hq1).trans hq2⟩
   ·have HN:Hid (zfz (s.data.toList.drop k)=none):=zb (by
     rcases hd:zfz (s.data.toList.drop k) with _|⟨r,m⟩
     ·rfl
     ·have h6:=HM.out r m hd;have hb:=zd1 hd;have hb1:=hb.2.2.1;rw[zw,zal] at hb1;omega)
    by_cases h4:n<=4
    ·have hgt:s.size<k+n:=by omega
     clear hlt
     go_wp2_with fail
     go_ret3
     exact⟨by rw[zgM (by rw[zal];exact hk) HN.out];rfl,hq⟩
    ·clear hlt
     go_wp2_with fail
     go_ret3
     exact⟨by rw[zgM (by rw[zal];exact hk) HN.out];rfl,hq⟩
open Sx
class Utf (P:Program) [Tabs P]:Prop where
 ut:∀w:World,Tabs.T (P:=P) w->UTabs w
section
variable [Tabs Tryz.prog] {objs:List OB} {K:List OB->AV->Prop}
theorem zmu (s:List UInt8) (a:Int) (hs:s.length<=140737488351232) (hk:K objs (.tup [.i .i64 (zdP s a).1,.i .i64 (zdP s a).2.1,.i .i64 (zdP s a).2.2])):zaf Tryz.prog 106 [.s s,.i .i64 a] objs K :=
 conv (vs:=[.string (S s),.int .i64 a]) rfl rfl (fun w=>zi4 (S s) a w (by rw[zcb];exact hs)) hk
end
end Go.Proofs.YtceenajkieomoaaGreatDoor
namespace Go.Proofs.YtceenajkieomoaaGreatDoor.Sx
open Go.RowKit
theorem ziz {k:IntKind} {r:Int} {K K':Int->Prop} (hk:∀v,K v->K' v) (h:arK k r K):arK k r K':=by
 cases k
 all_goals first|exact hk _ h|exact⟨h.1,hk _ h.2⟩
theorem zp7 {op:BinOp} {x y:AV} {K K':AV->Prop} (hk:∀v,K v->K' v) (h:binK op x y K):binK op x y K':=by
 unfold binK at h ⊢
 split at h
 ·refine⟨h.1,?_⟩
  replace h:=h.2
  cases op
  all_goals first
   | exact h.elim
   | exact ziz (fun _ g=>hk _ g) h
   | exact⟨h.1,ziz (fun _ g=>hk _ g) h.2⟩
   | exact⟨h.1,hk _ h.2⟩
   | exact hk _ h
 all_goals
  revert h
  cases op
  all_goals first
   | exact fun h=>h.elim
   | exact fun h=>⟨h.1,hk _ h.2⟩
   | exact fun h=>hk _ h
section
variable {P:Program} [Tabs P] {C:Cx}
theorem zfM {so:SOp} {objs:List OB} {tm:List AV} {K K':List OB->AV->Prop} (hk:∀o v,K o v->K' o v) (h:wpS P so objs tm K):wpS P so objs tm K':=by
 cases so
 all_goals simp only[wpS] at h ⊢
 all_goals try exact hk _ _ h
 all_goals try exact⟨h.1,hk _ _ h.2⟩
 all_goals try exact zp7 (fun _ g=>hk _ _ g) h
 all_goals try exact h.mono hk
 all_goals try exact⟨h.1,h.2.mono fun _ _ g=>⟨g.1,hk _ _ g.2⟩⟩
 all_goals
  revert h
  repeat' split
  all_goals first
   | exact fun h=>h.elim
   | exact fun h=>hk _ _ h
   | exact fun h=>⟨h.1,hk _ _ h.2⟩
   | exact fun h=>ziz (fun _ g=>hk _ _ g) h
   | exact fun h=>⟨fun e=>hk _ _ (h.1 e),fun e=>hk _ _ (h.2 e)⟩
   | exact fun ⟨v,h1,h2⟩=>⟨v,h1,hk _ _ h2⟩
   | exact fun ⟨h0,l,h1,h2⟩=>⟨h0,l,h1,hk _ _ h2⟩
   | exact fun h=>⟨h.1,h.2.mono hk⟩
theorem zbf:∀{l:List SO} {objs:List OB} {tm:List AV} {K K':List OB->List AV->Prop},(∀o t,K o t->K' o t)->wpR P l objs tm K->wpR P l objs tm K'
 | [],_,_,_,_,hk,h=>hk _ _ h
 | ⟨dst,op,none⟩::r,_,_,_,_,hk,h=>zfM (fun _ _ g=>zbf hk g) h
 | ⟨dst,op,some (t,want)⟩::r,objs,tm,K,K',hk,h=>by
  simp only[wpR] at h ⊢
  revert h
  split
  ·exact fun h=>⟨fun e=>zfM (fun _ _ g=>zbf hk g) (h.1 e),fun e=>zbf hk (h.2 e)⟩
  ·exact fun h=>zbf hk h
  ·exact fun h=>h.elim
theorem zdi:∀{l:List SO} {objs:List OB} {tm:List AV} {K K':List OB->List AV->Prop},(∀o t,K o t->K' o t)->wpD P l objs tm K->wpD P l objs tm K'
 | [],_,_,_,_,hk,h=>hk _ _ h
 | ⟨dst,op,none⟩::r,_,_,_,_,hk,h=>by
  simp only[wpD] at h ⊢
  revert h
  split
  ·exact fun ⟨v,h1,h2⟩=>⟨v,h1,zdi hk h2⟩
  ·exact fun h=>zfM (fun _ _ g=>zdi hk g) h
 | ⟨dst,op,some (t,want)⟩::r,objs,tm,K,K',hk,h=>by
  simp only[wpD] at h ⊢
  revert h
  split
  ·refine fun h=>⟨fun e=>?_,fun e=>zdi hk (h.2 e)⟩;have h1:=h.1 e
   revert h1
   split
   ·exact fun ⟨v,h1,h2⟩=>⟨v,h1,zdi hk h2⟩
   ·exact fun h=>zfM (fun _ _ g=>zdi hk g) h
  ·exact fun h=>zdi hk h
  ·exact fun h=>h.elim
theorem zmq {N N':List OB->List AV->Prop} {K K':za0} (hn:∀o t,N o t->N' o t) (hk:∀e o t,K e o t->K' e o t):∀e o t,zfB N K e o t->zfB N' K' e o t:=by
 intro e o t h
 cases e<;>first|exact hn _ _ h|exact hk _ _ _ h
theorem zp6 {id:Nat} {K K':za0} (hk:∀e o t,K e o t->K' e o t):∀e o t,blkK id K e o t->blkK id K' e o t:=by
 intro e o t h
 cases e
 all_goals try exact hk _ _ _ h
 rename_i i;unfold blkK at h ⊢;simp only at h ⊢
 split at h
 ·rename_i g;rw[if_pos g];exact hk _ _ _ h
 ·rename_i g;rw[if_neg g];exact hk _ _ _ h
theorem zhJ:∀(st:List (List SO×SO)) (h:List (List SO×List AV×List AV)) (last:List SO) (o:List OB) (t:List AV) {K K':List OB->List AV->Prop},(∀o t,K o t->K' o t)->wpT P st h last o t K->wpT P st h last o t K'
 | [],h,last,o,t,K,K',hk,g=>zbf hk g
 | (L,c)::st,h,last,o,t,K,K',hk,g=>zbf (fun _ _ g=>zbf (fun _ _ g=>⟨g.1,zhJ st _ last _ _ hk g.2⟩) g) g
theorem zkw (d:Nat) (T:TypeId) (z:List AV):∀(st:List (List SO×SO)) (h:List (List SO×List AV×List AV)) (last:List SO) (o:List OB) (t:List AV) {K K':List OB->List AV->Prop},(∀o t,K o t->K' o t)->wpB P d T z st h last o t K->wpB P d T z st h last o t K'
 | [],h,last,o,t,K,K',hk,g=>zbf (fun _ _ g=>⟨g.1,hk _ _ g.2⟩) g
 | (L,c)::st,h,last,o,t,K,K',hk,g=>zbf (fun _ _ g=>⟨⟨g.1.1,zbf (fun _ _ g=>⟨g.1,zhJ st _ last _ _ hk g.2⟩) g.1.2⟩,zbf (fun _ _ g=>⟨g.1,zkw d T z st _ last _ _ hk g.2⟩) g.2⟩) g
theorem zdW:∀(c:SCode) {K K':za0} {objs:List OB} {tm:List AV},(∀e o t,K e o t->K' e o t)->wpC P C c K objs tm->wpC P C c K' objs tm
 | .skip,_,_,_,_,hk,h=>hk _ _ _ h
 | .reg l,_,_,_,_,hk,h=>zbf (fun _ _ g=>hk _ _ _ g) h
 | .drw l k ap,_,_,_,_,hk,h=>zdi (fun _ _ g=>⟨g.1,zbf (fun _ _ g=>hk _ _ _ g) g.2⟩) h
 | .crg pre cl post,_,_,_,_,hk,h=>zbf (fun _ _ g=>zbf (fun _ _ g=>⟨g.1,zbf (fun _ _ g=>hk _ _ _ g) g.2⟩) g) h
 | .crs st last,_,_,_,_,hk,h=>zhJ st [] last _ _ (fun _ _ g=>hk _ _ _ g) h
 | .cra d T z st last sr,_,_,_,_,hk,h=>⟨h.1,zkw d T z st [] last _ _ (fun _ _ g=>zbf (fun _ _ g=>hk _ _ _ g) g) h.2⟩
 | .seq x y,_,_,_,_,hk,h=>zdW x (zmq (fun _ _ g=>zdW y hk g) hk) h
 | .cond c x y,_,_,_,_,hk,h=>by
  simp only[wpC] at h ⊢
  revert h
  split
  ·exact fun h=>⟨fun e=>zdW x hk (h.1 e),fun e=>zdW y hk (h.2 e)⟩
  ·exact fun h=>h.elim
 | .blk id c,_,_,_,_,hk,h=>zdW c (zp6 hk) h
 | .loop c,_,_,_,_,hk,h=>fun c hc=>WP.mono (fun e o t g=>by cases e<;>first|exact hk _ _ _ g|exact g) (h c hc)
 | .exit id,_,_,_,_,hk,h=>hk _ _ _ h
 | .ret,_,_,_,_,hk,h=>hk _ _ _ h
 | .dead,_,_,_,_,hk,h=>h.elim
def cutF (P:Program) [Tabs P] (C:Cx) (J:List OB->List AV->Prop) (k:List IT) (F:za0):za0:=zfB J (zgQ P C F k)
variable {F:za0} {k:List IT} {objs:List OB} {tm:List AV}
theorem zac (J:List OB->List AV->Prop):cutF P C J k F .normal objs tm=J objs tm:=Eq.trans rfl rfl
theorem zb3 (J:List OB->List AV->Prop) (id:Nat):cutF P C J k F (.exit id) objs tm=xit P C id k objs tm F:=Eq.trans rfl rfl
theorem zc0 (J:List OB->List AV->Prop):cutF P C J k F .ret objs tm=F .ret objs tm:=zc1 k
theorem zaL {x:SCode} (J:List OB->List AV->Prop) (h:run P C [.code x] objs tm (cutF P C J k F)) (hJ:∀o t,J o t->run P C k o t F):run P C (.code x::k) objs tm F :=
 zdW x (fun e o t g=>by
  cases e
  ·exact hJ _ _ g
  all_goals exact g) h
end
section
variable {P:Program} [Tabs P] {C:Cx} {F:za0} {k:List IT} {objs:List OB} {tm:List AV}
theorem zaa {x y:SCode} (h:∀Y,Y=y->run P C (.code x::.code Y::k) objs tm F):run P C (.code (.seq x y)::k) objs tm F:=h y rfl
theorem zbK (J:List AV->Prop) (h:J tm) (hk:∀t,J t->run P C k objs t F):run P C k objs tm F:=hk tm h
end
end Go.Proofs.YtceenajkieomoaaGreatDoor.Sx
namespace Go.Proofs.YtceenajkieomoaaGreatDoor
open Go.RowKit Sx
open List renaming all_eq_true->zt, append_assoc->zy, drop_drop->ji, drop_eq_getElem_cons->jn, drop_length->xw, drop_of_length_le->xz, getElem?_eq_getElem->zm, getElem?_eq_some_iff->zf, getElem?_set->za, length_append->zk, length_cons->zu, length_drop->zw, length_pos_iff->xo, length_take->qc, replicate->qj, replicate_succ->yg
open Nat renaming le_refl->ze
theorem iv {k:IntKind} {x y:Int} (h:x=y):some (AV.i k x)=some (AV.i k y):=by rw[h]
theorem run_at (s:List UInt8) (i:Nat) (h:i<s.length):zbx (s.drop i)=if zaq s[i]=true then zbx (s.drop (i+1))+1 else 0:=by
 rw[jn h,zbx]
theorem run_end (s:List UInt8):zbx (s.drop s.length)=0:=by rw[xw];rfl
theorem get_some {s:List UInt8} {i:Nat} (h:i<s.length) {c:UInt8}:(s[i]? = some c)↔s[i]=c:=by
 rw[zm h,Option.some.injEq]
theorem zd0 {s:List UInt8} {i:Nat} (h:¬i<s.length) {c:UInt8}:¬s[i]? = some c:=by
 rw[List.getElem?_eq_none (by omega)];simp
theorem zeX {c:UInt8} {k:Nat} (hk:k<256):(((c.toNat:Nat):Int)=((k:Nat):Int))↔c=UInt8.ofNat k:=by
 constructor
 ·intro h;have h2:c.toNat=k:=by omega
  rw[<-h2];simp
 ·rintro rfl;rw[UInt8.toNat_ofNat'];omega
theorem zmW {s:List UInt8} {i:Nat} (h:i<s.length) (k:Nat) (hk:k<256):s[i]? = some (UInt8.ofNat k)↔((s[i].toNat:Nat):Int)=((k:Nat):Int):=by
 rw[get_some h];exact(zeX hk).symm
theorem zgL (s:List UInt8) (a i:Nat):(s.drop a)[i]? = s[a+i]?:=List.getElem?_drop
section
variable [Tabs Tryz.prog] {objs:List OB} {K:List OB->AV->Prop}
end
section
variable [Tabs Tryz.prog] {objs:List OB} {K:List OB->AV->Prop}
end
theorem zeq {c:UInt8} (h:zaq c=true):c.toNat<128/\([101,69]:List UInt8).contains c=false/\c≠46:=by
 have:=zis h;refine⟨by omega,?_,?_⟩
 ·have h1:c≠101:=fun e=>by subst e;exact absurd this (by decide)
  have h2:c≠69:=fun e=>by subst e;exact absurd this (by decide)
  simp[h1,h2]
 ·rintro rfl;exact absurd this (by decide)
def NumS.body (p:NumS):List UInt8:=p.int++(frT p.fr++exT p.ex)
theorem frT_mem {f:List UInt8} (hf:f.all zaq=true):∀c∈frT f,c.toNat<128/\([101,69]:List UInt8).contains c=false:=by
 intro c hc
 cases f with
 | nil=>cases hc
 | cons a t=>
  have hc:c=46\/c∈a::t:=by simpa[frT] using hc
  rcases hc with rfl|hc
  ·exact⟨by decide,by decide⟩
  ·have:=zeq (zt.1 hf c hc);exact⟨this.1,this.2.1⟩
theorem zpY {p:NumS} (hp:p.Good):zaw 46 (p.int++frT p.fr)=(p.int,p.fr,!p.fr.isEmpty):=by
 have key:∀(u v:List UInt8),(∀c∈u,c≠46)->zaw 46 (u++v)=(u++(zaw 46 v).1,(zaw 46 v).2.1,(zaw 46 v).2.2):=by
  intro u v
  induction u with
  | nil=>intro _;rfl
  | cons c u ih=>
   intro h;rw[List.cons_append,zaF,if_neg (h c (by simp)),ih (fun x hx=>h x (by simp[hx]))]
   rfl
 rw[key _ _ (fun c hc=>(zeq (zt.1 hp.i1 c hc)).2.2)]
 cases hf:p.fr with
 | nil=>simp[frT,zaw]
 | cons a t=>simp[frT,zaF]
section
variable [Tabs Tryz.prog] {objs:List OB} {K:List OB->AV->Prop}
end
theorem zc6 {l:List UInt8} {n:Nat} (h:zdj l=some n):6<=l.length/\n<=65535:=by
 unfold zdj at h
 split at h
 ·cases h
 ·rename_i g
  split at h
  ·injection h with h
   have:=zlb zaT 16 65535 ((l.drop 2).take 4)
   constructor
   ·apply Classical.byContradiction
    intro h1;exact g (.inl (by omega))
   ·omega
  ·cases h
section
variable [Tabs Tryz.prog] {objs:List OB} {K:List OB->AV->Prop}
end
theorem zpT {s:List UInt8} {i:Nat} (h:i<s.length):zdP s i=match zfz (s.drop i) with|none=>(0,0,7)|some (r,n)=>((r:Int),((i+n:Nat):Int),0):=by
 unfold zdP;rw[if_neg (by omega),Int.toNat_natCast]
 cases zfz (s.drop i)<;>simp
theorem zf7 (s:List UInt8) (i m:Nat):(s.take (i+m)).drop i=(s.drop i).take m:=by
 rw[List.drop_take,show i+m - i=m by omega]
def zec (n:Nat) (r:List UInt8):Nat×Nat :=
 if 55296<=n/\n<56320 then (match zdj r with
  | some m=>if 56320<=m/\m<=57343 then (65536+(n - 55296)*1024+(m - 56320),12) else (n,6)
  | none=>(n,6)) else (n,6)
theorem zpn {l:List UInt8} {n:Nat} (h0:(l[1]?).bind zgb=none) (h:zdj l=some n):zfy l=if cpB ((zec n (l.drop 6)).1:Int)=true then (0,zeM (zec n (l.drop 6)).1,(zec n (l.drop 6)).2) else (7,[],0):=by
 have hn:=(zc6 h).2;have hcp:∀k:Nat,cpB (k:Int)=decide (k<=1114111/\(k<55296\/57343<k)):=by
  intro k;unfold cpB
  by_cases h1:k<=1114111/\(k<55296\/57343<k)
  ·rw[decide_eq_true (by omega),decide_eq_true h1]
  ·rw[decide_eq_false (by omega),decide_eq_false h1]
 have hE:zfy l=(if n<55296\/57343<n then ((0:Int),zeM n,6)
   else if 56319<n then (7,[],0)
   else match zdj (l.drop 6) with
    | none=>(7,[],0)
    | some m=>if m<56320\/57343<m then (7,[],0) else (0,zeM (65536+(n - 55296)*1024+(m - 56320)),12)):=by
  unfold zfy;rw[h0,h]
  rfl
 rw[hE]
 by_cases c1:n<55296\/57343<n
 ·have hU:zec n (l.drop 6)=(n,6):=by unfold zec;rw[if_neg (show ¬(55296<=n/\n<56320) by omega)]
  rw[if_pos c1,hU,hcp,if_pos (decide_eq_true (by omega))]
 ·by_cases c2:56319<n
  ·have hU:zec n (l.drop 6)=(n,6):=by unfold zec;rw[if_neg (show ¬(55296<=n/\n<56320) by omega)]
   rw[if_neg c1,if_pos c2,hU,hcp,if_neg (by rw[decide_eq_true_eq];omega)]
  ·rw[if_neg c1,if_neg c2]
   cases hu:zdj (l.drop 6) with
   | none=>
    have hU:zec n (l.drop 6)=(n,6):=by unfold zec;rw[if_pos (show 55296<=n/\n<56320 by omega),hu]
    rw[hU,hcp,if_neg (by rw[decide_eq_true_eq];omega)]
   | some m=>
    by_cases c3:m<56320\/57343<m
    ·have hU:zec n (l.drop 6)=(n,6):=by
      unfold zec;rw[if_pos (show 55296<=n/\n<56320 by omega),hu];simp only;rw[if_neg (show ¬(56320<=m/\m<=57343) by omega)]
     simp only;rw[if_pos c3,hU,hcp,if_neg (by rw[decide_eq_true_eq];omega)]
    ·have hU:zec n (l.drop 6)=(65536+(n - 55296)*1024+(m - 56320),12):=by
      unfold zec;rw[if_pos (show 55296<=n/\n<56320 by omega),hu];simp only;rw[if_pos (show 56320<=m/\m<=57343 by omega)]
     simp only;rw[if_neg c3,hU,hcp,if_pos (decide_eq_true (by omega))]
theorem escU_ge (n:Nat) (r:List UInt8):6<=(zec n r).2:=by
 unfold zec
 repeat' split
 all_goals first|exact ze _|(show 6<=12;omega)
theorem escU_len {l:List UInt8} {n:Nat} (h:zdj l=some n):(zec n (l.drop 6)).2<=l.length/\(zec n (l.drop 6)).1<=1114111:=by
 have h1:=zc6 h;unfold zec
 split
 ·cases hu:zdj (l.drop 6) with
  | none=>simp only;omega
  | some m=>
   have h2:=zc6 hu;rw[zw] at h2;simp only
   split
   ·simp only;omega
   ·simp only;omega
 ·simp only;omega
theorem zlL {l x:List UInt8} {n:Nat} (h:zfy l=(0,x,n)):x.length<=n/\1<=n/\n<=l.length:=by
 cases hse:(l[1]?).bind zgb with
 | some d=>
  have he:zfy l=(0,[d],2):=by unfold zfy;rw[hse]
  rw[he] at h;injection h with _ h;injection h with h1 h2
  subst h1 h2;obtain⟨c,h2,_⟩:=Option.bind_eq_some_iff.1 hse;have:=(zf.1 h2).1;exact⟨by simp,by omega,by omega⟩
 | none=>
  cases hu:zdj l with
  | none=>
   have he:zfy l=(130,[],0):=by unfold zfy;rw[hse,hu]
   rw[he] at h;injection h with h _;cases h
  | some k=>
   have he:=zpn hse hu;have h3:=escU_len hu;have h4:=escU_ge k (l.drop 6);have h5:=encU_len (r:=(zec k (l.drop 6)).1);rw[h] at he
   split at he
   ·injection he with _ he;injection he with h1 h2
    subst h1 h2;omega
   ·injection he with he _;cases he
section
variable [Tabs Tryz.prog] [Utf Tryz.prog] {objs:List OB} {K:List OB->AV->Prop}
end
def zbz (s:List UInt8) (a:Int):(Int×List UInt8×Int)×Int×Int :=
 if a<0\/(s.length:Int)<a then ((0,[],0),0,4)
 else if (zb7 (s.drop (a.toNat+zbQ (s.drop a.toNat)))).1≠0 then ((0,[],0),0,(zb7 (s.drop (a.toNat+zbQ (s.drop a.toNat)))).1)
 else (((zb7 (s.drop (a.toNat+zbQ (s.drop a.toNat)))).2.1,(zb7 (s.drop (a.toNat+zbQ (s.drop a.toNat)))).2.2.1,((a.toNat+zbQ (s.drop a.toNat):Nat):Int)),((a.toNat+zbQ (s.drop a.toNat)+(zb7 (s.drop (a.toNat+zbQ (s.drop a.toNat)))).2.2.2:Nat):Int),0)
def zot (r:(Int×List UInt8×Int)×Int×Int):AV:=.tup [.agg [.i .i64 r.1.1,.s r.1.2.1,.i .i64 r.1.2.2],.i .i64 r.2.1,.i .i64 r.2.2]
theorem word_at (s:List UInt8) (i:Nat) (h:i<s.length):zcD (s.drop i)=if zbB s[i]=true then zcD (s.drop (i+1))+1 else 0:=by
 rw[jn h,zcD]
theorem white_at (s:List UInt8) (i:Nat) (h:i<s.length):zbQ (s.drop i)=if zim s[i]=true then zbQ (s.drop (i+1))+1 else 0:=by
 rw[jn h,zbQ]
theorem zhM:∀l:List UInt8,zcD l<=l.length
 | []=>ze _
 | c::t=>by
  have:=zhM t;unfold zcD
  split<;>simp only[zu]<;>omega
theorem zf3:∀l:List UInt8,zbQ l<=l.length
 | []=>ze _
 | c::t=>by
  have:=zf3 t;unfold zbQ
  split<;>simp only[zu]<;>omega
section
variable [Tabs Tryz.prog] [Utf Tryz.prog] {objs:List OB} {K:List OB->AV->Prop}
end
open Nat renaming reduceAdd -> z6, reduceSub -> z7, reduceLeDiff -> z8, reduceLT -> j4, reduceMul -> j5, reduceEqDiff -> j6
open Int renaming reduceToNat -> j7, reduceAdd -> j8, reduceSub -> j9, reduceMul -> x6, reduceNeg -> x7, reduceLT -> x8, reduceLE -> x9, reduceEq -> y4, reduceNe -> y5
theorem rn_condH {P:Program} [Tabs P] {C:Cx} {F:za0} {k:List IT} {objs:List OB} {tm:List AV} {c:SV} {x y:SCode} (h:∀X,X=x->run P C (.code (.cond c X y)::k) objs tm F):run P C (.code (.cond c x y)::k) objs tm F:=h x rfl
section
variable [Tabs Tryz.prog] {objs:List OB} {K:List OB->AV->Prop}
theorem rwhite_k (c:UInt8) (hk:K objs (.b (zim c))):zaf Tryz.prog 88 [.i .u8 c.toNat] objs K:=by
 refine za4 is_ref13_white rfl fun C _=>?_;simp only[c_ref13_white,sxZ,z6,z7,z8,j4,j5,j6,j7,j8,j9,x6,x7,x8,x9,y4,y5,reduceCtorEq,↓reduceIte];refine zae (zi2 c _ (by decide) ?_);simp only[sxZ,z6,z7,z8,j4,j5,j6,j7,j8,j9,x6,x7,x8,x9,y4,y5,reduceCtorEq,↓reduceIte];exact hk
theorem zjU (s:List UInt8) (a:Nat) (hk:K objs (.s (s.drop a))):zaf Tryz.prog 86 [.s s,.i .i64 (a:Nat)] objs K:=by
 refine za4 is_ref13_tail rfl fun C _=>?_
 by_cases c0:(s.length:Int)<=a
 ·rw[xz (by omega)] at hk;simp only[c0,c_ref13_tail,sxZ,z6,z7,z8,j4,j5,j6,j7,j8,j9,x6,x7,x8,x9,y4,y5,reduceCtorEq,↓reduceIte];exact hk
 ·simp only[c0,c_ref13_tail,sxZ,z6,z7,z8,j4,j5,j6,j7,j8,j9,x6,x7,x8,x9,y4,y5,reduceCtorEq,↓reduceIte];exact⟨by omega,hk⟩
theorem znr (s:List UInt8) (hs:s.length<=9000000000000000000) (hk:K objs (.i .i64 (zbx s:Nat))):zaf Tryz.prog 104 [.s s] objs K:=by
 refine za4 is_ref13_run rfl fun C _=>?_;simp only[c_ref13_run,sxZ,z6,z7,z8,j4,j5,j6,j7,j8,j9,x6,x7,x8,x9,y4,y5,reduceCtorEq,↓reduceIte];refine zaK (fun n objs tm=>∃i:Nat,i<=s.length/\n=s.length - i/\objs=[]/\zbx s=i+zbx (s.drop i)/\tm.length=17/\tm[0]? = some (.s s)/\tm[3]? = some (.i .i64 i)) s.length ⟨0,Nat.zero_le _,rfl,rfl,by simp,rfl,rfl,rfl⟩ ?_;rintro n _ tm ⟨i,hi,rfl,rfl,hr,hlen,t0,t3⟩
 by_cases hlt:(i:Int)<s.length
 ·have hlt':i<s.length:=by omega
  have hg:=zaP hlt';have hrn:=run_at s i hlt';simp only[sxZ,z6,z7,z8,j4,j5,j6,j7,j8,j9,x6,x7,x8,x9,y4,y5,reduceCtorEq,↓reduceIte,za,hlen,t0,t3,hlt];refine⟨by omega,?_⟩;rw[hg];refine zae (zgs s[i] ?_)
  by_cases hd:zaq s[i]=true
  ·rw[if_pos hd] at hrn;simp only[hd,sxZ,z6,z7,z8,j4,j5,j6,j7,j8,j9,x6,x7,x8,x9,y4,y5,reduceCtorEq,↓reduceIte,za,hlen,t0,t3];exact⟨⟨by omega,by omega⟩,s.length - (i+1),by omega,i+1,by omega,rfl,by omega,rfl⟩
  ·rw[if_neg hd] at hrn;simp only[Bool.not_eq_true] at hd;simp only[hd,sxZ,z6,z7,z8,j4,j5,j6,j7,j8,j9,x6,x7,x8,x9,y4,y5,reduceCtorEq,↓reduceIte,za,hlen,t0,t3];rw[hr,hrn] at hk;exact hk
 ·obtain rfl:i=s.length:=by omega
  simp only[sxZ,z6,z7,z8,j4,j5,j6,j7,j8,j9,x6,x7,x8,x9,y4,y5,reduceCtorEq,↓reduceIte,za,hlen,t0,t3,hlt];rw[hr,run_end] at hk;exact hk
set_option maxHeartbeats 4000000 in
theorem zhe (s:List UInt8) (hs:s.length<=140737488351232) (hk:K objs (.i .i64 (zfQ s:Nat))):zaf Tryz.prog 84 [.s s] objs K:=by
 refine za4 is_ref13_numeral rfl fun C _=>?_;have hmx:=zfd;rw[c_ref13_numeral];refine zaa fun Y1 hY1=>?_;simp only[sxZ,z6,z7,z8,j4,j5,j6,j7,j8,j9,x6,x7,x8,x9,y4,y5,reduceCtorEq,↓reduceIte];subst hY1;refine zaa fun Y1 hY1=>?_;simp only[sxZ,z6,z7,z8,j4,j5,j6,j7,j8,j9,x6,x7,x8,x9,y4,y5,reduceCtorEq,↓reduceIte];subst hY1;refine zaa fun Y1 hY1=>?_;refine zaL (fun o t=>o=[]/\t.length=99/\t[0]? = some (.s s)/\t[3]? = some (.i .i64 (zci s:Nat))) ?_ ?_
 ·unfold zci
  by_cases c1:(0:Int)<s.length
  ·have c1':0<s.length:=by omega
   have hg:=zaP c1';have h45:s[0]? = some 45↔((s[0].toNat:Nat):Int)=45:=zmW c1' 45 (by decide)
   by_cases c2:((s[0].toNat:Nat):Int)=45
   ·rw[if_pos (h45.2 c2)];simp only[c1,hg,c2,zac,sxZ,z6,z7,z8,j4,j5,j6,j7,j8,j9,x6,x7,x8,x9,y4,y5,reduceCtorEq,↓reduceIte]
    rfl
   ·rw[if_neg (fun h=>c2 (h45.1 h))];simp only[c1,hg,c2,zac,sxZ,z6,z7,z8,j4,j5,j6,j7,j8,j9,x6,x7,x8,x9,y4,y5,reduceCtorEq,↓reduceIte]
    rfl
  ·rw[if_neg (zd0 (by omega))];simp only[c1,zac,sxZ,z6,z7,z8,j4,j5,j6,j7,j8,j9,x6,x7,x8,x9,y4,y5,reduceCtorEq,↓reduceIte]
   rfl
 rintro _ tm ⟨rfl,hlen,t0,t3⟩;subst hY1;have hsg:zci s<=s.length:=by
  unfold zci
  split
  ·rename_i h;have:=(zf.1 h).1;omega
  ·omega
 refine zaa fun Y1 hY1=>?_;unfold zfQ at hk;have hw:zbt s=if s[zci s]? = some 48 then zci s+1 else zci s+zbx (s.drop (zci s)):=rfl
 have hrl:0<zbx (s.drop (zci s))->zci s+zbx (s.drop (zci s))<=s.length:=zbw s _;generalize zci s=g at *
 by_cases c0:(g:Int)=s.length
 ·have hr0:zbx (s.drop g)=0:=by rw[xz (by omega)];rfl
  rw[if_pos hr0] at hk;simp only[c0,sxZ,z6,z7,z8,j4,j5,j6,j7,j8,j9,x6,x7,x8,x9,y4,y5,reduceCtorEq,↓reduceIte,za,hlen,t0,t3];exact hk
 have c1':g<s.length:=by omega
 have hg:=zaP c1';have hrun:=run_at s g c1';simp only[c0,hg,sxZ,z6,z7,z8,j4,j5,j6,j7,j8,j9,x6,x7,x8,x9,y4,y5,reduceCtorEq,↓reduceIte,za,hlen,t0,t3];refine⟨by omega,?_⟩;refine zae (zgs s[g] ?_)
 by_cases c2:zaq s[g]=true
 case neg=>
  rw[if_neg c2] at hrun;rw[if_pos hrun] at hk;simp only[Bool.not_eq_true] at c2;simp only[c2,sxZ,z6,z7,z8,j4,j5,j6,j7,j8,j9,x6,x7,x8,x9,y4,y5,reduceCtorEq,↓reduceIte,za,hlen,t0,t3];exact hk
 rw[if_pos c2] at hrun;rw[if_neg (by omega)] at hk;simp only[c2,sxZ,z6,z7,z8,j4,j5,j6,j7,j8,j9,x6,x7,x8,x9,y4,y5,reduceCtorEq,↓reduceIte,za,hlen,t0,t3];subst hY1;refine zaa fun Y1 hY1=>?_;refine zaL (fun o t=>o=[]/\t.length=99/\t[0]? = some (.s s)/\t[3]? = some (.i .i64 (zbt s:Nat))) ?_ ?_
 ·have h48:s[g]? = some 48↔((s[g].toNat:Nat):Int)=48:=zmW c1' 48 (by decide);rw[hw]
  by_cases c3:((s[g].toNat:Nat):Int)=48
  ·rw[if_pos (h48.2 c3)];simp only[hg,c3,zac,sxZ,z6,z7,z8,j4,j5,j6,j7,j8,j9,x6,x7,x8,x9,y4,y5,reduceCtorEq,↓reduceIte,za,hlen,t0,t3]
   and_intros<;>first|omega|exact iv (by omega)|rfl|assumption
  ·rw[if_neg (fun h=>c3 (h48.1 h))];simp only[hg,c3,zac,sxZ,z6,z7,z8,j4,j5,j6,j7,j8,j9,x6,x7,x8,x9,y4,y5,reduceCtorEq,↓reduceIte,za,hlen,t0,t3];refine⟨by omega,by omega,?_⟩;refine zae (znr _ (by rw[zw];omega) ?_);have:=hrl (by omega);simp only[zac,sxZ,z6,z7,z8,j4,j5,j6,j7,j8,j9,x6,x7,x8,x9,y4,y5,reduceCtorEq,↓reduceIte,za,hlen,t0,t3]
   and_intros<;>first|omega|exact iv (by omega)|rfl|assumption
 rintro _ tm ⟨rfl,hlen,t0,t3⟩;subst hY1;refine zaa fun Y1 hY1=>?_;have hwl:zbt s<=s.length:=by
  rw[hw];have:=hrl (by omega)
  split<;>omega
 have hf:zdA s (zbt s)=if s[zbt s]? = some 46/\0<zbx (s.drop (zbt s+1)) then zbt s+1+zbx (s.drop (zbt s+1)) else zbt s:=rfl
 generalize zbt s=w at *;clear hw hrl hrun hg c2 c0 c1';refine zaL (fun o t=>o=[]/\t.length=99/\t[0]? = some (.s s)/\t[3]? = some (.i .i64 (zdA s w:Nat))) ?_ ?_
 ·rw[hf];simp only[sxZ,z6,z7,z8,j4,j5,j6,j7,j8,j9,x6,x7,x8,x9,y4,y5,reduceCtorEq,↓reduceIte,za,hlen,t0,t3];refine⟨by omega,?_⟩;refine zae (zjU s (w+1) ?_);simp only[sxZ,z6,z7,z8,j4,j5,j6,j7,j8,j9,x6,x7,x8,x9,y4,y5,reduceCtorEq,↓reduceIte,za,hlen,t0,t3];refine zae (znr _ (by rw[zw];omega) ?_);have hr:=zbw s (w+1);generalize zbx (s.drop (w+1))=r at *
  by_cases c1:(w:Int)<s.length
  ·have c1':w<s.length:=by omega
   have hg:=zaP c1';have h46:s[w]? = some 46↔((s[w].toNat:Nat):Int)=46:=zmW c1' 46 (by decide)
   by_cases c2:((s[w].toNat:Nat):Int)=46
   ·by_cases c3:0<r
    ·rw[if_pos ⟨h46.2 c2,c3⟩];have c3':(0:Int)<r:=by omega
     simp only[c1,hg,c2,c3',zac,sxZ,z6,z7,z8,j4,j5,j6,j7,j8,j9,x6,x7,x8,x9,y4,y5,reduceCtorEq,↓reduceIte,za,hlen,t0,t3]
     and_intros<;>first|omega|exact iv (by omega)|rfl|assumption
    ·rw[if_neg (fun h=>c3 h.2)];have c3':¬(0:Int)<r:=by omega
     simp only[c1,hg,c2,c3',zac,sxZ,z6,z7,z8,j4,j5,j6,j7,j8,j9,x6,x7,x8,x9,y4,y5,reduceCtorEq,↓reduceIte,za,hlen,t0,t3]
     and_intros<;>first|omega|exact iv (by omega)|rfl|assumption
   ·rw[if_neg (fun h=>c2 (h46.1 h.1))];simp only[c1,hg,c2,zac,sxZ,z6,z7,z8,j4,j5,j6,j7,j8,j9,x6,x7,x8,x9,y4,y5,reduceCtorEq,↓reduceIte,za,hlen,t0,t3]
    and_intros<;>first|omega|exact iv (by omega)|rfl|assumption
  ·rw[if_neg (fun h=>zd0 (by omega) h.1)];simp only[c1,zac,sxZ,z6,z7,z8,j4,j5,j6,j7,j8,j9,x6,x7,x8,x9,y4,y5,reduceCtorEq,↓reduceIte,za,hlen,t0,t3]
 rintro _ tm ⟨rfl,hlen,t0,t3⟩;subst hY1;refine zaa fun Y1 hY1=>?_;have hfl:zdA s w<=s.length:=by
  rw[hf]
  split
  ·rename_i h;have:=zbw s (w+1) h.2;omega
  ·exact hwl
 generalize zdA s w=f at *;clear hf;have hx:zbY s f=if s[f+1]? = some 43\/s[f+1]? = some 45 then f+2 else f+1:=rfl
 have he:expN s f=if (s[f]? = some 101\/s[f]? = some 69)/\0<zbx (s.drop (zbY s f)) then zbY s f+zbx (s.drop (zbY s f)) else f:=rfl
 have in2:∀(i:Nat) (hi:i<s.length) (x y:UInt8),zbu s[i] [x,y]=decide (s[i]? = some x\/s[i]? = some y):=by
  intro i hi x y;rw[zm hi];simp[zbu,eq_comm]
 refine zaL (fun o t=>o=[]/\t.length=99/\t[3]? = some (.i .i64 (expN s f:Nat))) ?_ ?_
 ·refine zaa fun Y2 hY2=>?_;refine zaL (fun o t=>o=[]/\t.length=99/\t[0]? = some (.s s)/\t[3]? = some (.i .i64 (f:Nat))/\t[74]? = some (.b (decide (s[f]? = some 101\/s[f]? = some 69)))) ?_ ?_
  ·by_cases c1:(f:Int)<s.length
   ·have c1':f<s.length:=by omega
    have hg:=zaP c1';simp only[c1,hg,sxZ,z6,z7,z8,j4,j5,j6,j7,j8,j9,x6,x7,x8,x9,y4,y5,reduceCtorEq,↓reduceIte,za,hlen,t0,t3];refine⟨by omega,?_⟩;refine zae (zi2 _ _ (by decide) ?_);rw[in2 f c1'];generalize decide (s[f]? = some 101\/s[f]? = some 69)=E;simp only[zac,sxZ,z6,z7,z8,j4,j5,j6,j7,j8,j9,x6,x7,x8,x9,y4,y5,reduceCtorEq,↓reduceIte,za,hlen,t0,t3]
   ·have hE:¬(s[f]? = some 101\/s[f]? = some 69):=fun h=>h.elim (zd0 (by omega)) (zd0 (by omega));simp only[c1,hE,zac,sxZ,z6,z7,z8,j4,j5,j6,j7,j8,j9,x6,x7,x8,x9,y4,y5,reduceCtorEq,↓reduceIte,za,hlen,t0,t3]
  rintro _ tm ⟨rfl,hlen,t0,t3,t74⟩;subst hY2;refine rn_condH fun X hX=>?_
  by_cases hE:s[f]? = some 101\/s[f]? = some 69
  case neg=>
   rw[he,if_neg (fun h=>hE h.1)];simp only[hE,zac,sxZ,z6,z7,z8,j4,j5,j6,j7,j8,j9,x6,x7,x8,x9,y4,y5,reduceCtorEq,↓reduceIte,za,hlen,t0,t3,t74]
  have c1':f<s.length:=by
   rcases hE with h|h
   all_goals exact(zf.1 h).1
  simp only[hE,sxZ,z6,z7,z8,j4,j5,j6,j7,j8,j9,x6,x7,x8,x9,y4,y5,reduceCtorEq,↓reduceIte,za,hlen,t0,t3,t74];subst hX;refine zaa fun Y2 hY2=>?_;refine zaL (fun o t=>o=[]/\t.length=99/\t[0]? = some (.s s)/\t[3]? = some (.i .i64 (f:Nat))/\t[5]? = some (.i .i64 ((f:Int)+1))) ?_ ?_
  ·simp only[zac,sxZ,z6,z7,z8,j4,j5,j6,j7,j8,j9,x6,x7,x8,x9,y4,y5,reduceCtorEq,↓reduceIte,za,hlen,t0,t3]
   and_intros<;>first|omega|exact iv (by omega)|rfl|assumption
  rintro _ tm ⟨rfl,hlen,t0,t3,t5⟩;subst hY2;refine zaa fun Y2 hY2=>?_;refine zaL (fun o t=>o=[]/\t.length=99/\t[0]? = some (.s s)/\t[3]? = some (.i .i64 (f:Nat))/\t[5]? = some (.i .i64 (zbY s f:Nat))) ?_ ?_
  ·rw[hx]
   by_cases d1:(f:Int)+1<s.length
   ·have d1':f+1<s.length:=by omega
    have hg2:=zaP d1';have e1:((f:Int)+1).toNat=f+1:=by omega
    simp only[d1,e1,hg2,sxZ,z6,z7,z8,j4,j5,j6,j7,j8,j9,x6,x7,x8,x9,y4,y5,reduceCtorEq,↓reduceIte,za,hlen,t0,t3,t5];refine⟨by omega,?_⟩;refine zae (zi2 _ _ (by decide) ?_);rw[in2 (f+1) d1']
    by_cases c4:s[f+1]? = some 43\/s[f+1]? = some 45
    ·rw[if_pos c4];simp only[c4,zac,sxZ,z6,z7,z8,j4,j5,j6,j7,j8,j9,x6,x7,x8,x9,y4,y5,reduceCtorEq,↓reduceIte,za,hlen,t0,t3,t5]
     and_intros<;>first|omega|exact iv (by omega)|rfl|assumption
    ·rw[if_neg c4];simp only[c4,zac,sxZ,z6,z7,z8,j4,j5,j6,j7,j8,j9,x6,x7,x8,x9,y4,y5,reduceCtorEq,↓reduceIte,za,hlen,t0,t3,t5]
     and_intros<;>first|omega|exact iv (by omega)|rfl|assumption
   ·rw[if_neg (fun h=>h.elim (zd0 (by omega)) (zd0 (by omega)))];simp only[d1,zac,sxZ,z6,z7,z8,j4,j5,j6,j7,j8,j9,x6,x7,x8,x9,y4,y5,reduceCtorEq,↓reduceIte,za,hlen,t0,t3,t5]
    and_intros<;>first|omega|exact iv (by omega)|rfl|assumption
  rintro _ tm ⟨rfl,hlen,t0,t3,t5⟩;subst hY2;have hxl:zbY s f<=s.length:=by
   rw[hx]
   split
   ·rename_i h;rcases h with h|h
    all_goals
     have:=(zf.1 h).1;omega
   ·omega
  have hrl:=zbw s (zbY s f);generalize zbY s f=x at *;simp only[sxZ,z6,z7,z8,j4,j5,j6,j7,j8,j9,x6,x7,x8,x9,y4,y5,reduceCtorEq,↓reduceIte,za,hlen,t0,t3,t5];refine zae (zjU s x ?_);simp only[sxZ,z6,z7,z8,j4,j5,j6,j7,j8,j9,x6,x7,x8,x9,y4,y5,reduceCtorEq,↓reduceIte,za,hlen,t0,t3,t5];refine zae (znr _ (by rw[zw];omega) ?_);generalize zbx (s.drop x)=r at *;rw[he]
  by_cases c4:0<r
  ·rw[if_pos ⟨hE,c4⟩];have c4':(0:Int)<r:=by omega
   simp only[c4',zac,sxZ,z6,z7,z8,j4,j5,j6,j7,j8,j9,x6,x7,x8,x9,y4,y5,reduceCtorEq,↓reduceIte,za,hlen,t0,t3,t5]
   and_intros<;>first|omega|exact iv (by omega)|rfl|assumption
  ·rw[if_neg (fun h=>c4 h.2)];have c4':¬(0:Int)<r:=by omega
   simp only[c4',zac,sxZ,z6,z7,z8,j4,j5,j6,j7,j8,j9,x6,x7,x8,x9,y4,y5,reduceCtorEq,↓reduceIte,za,hlen,t0,t3,t5]
 rintro _ tm ⟨rfl,hlen,t3⟩;subst hY1;simp only[sxZ,z6,z7,z8,j4,j5,j6,j7,j8,j9,x6,x7,x8,x9,y4,y5,reduceCtorEq,↓reduceIte,za,hlen,t3];exact hk
end
theorem zna {p:NumS} (hp:p.Good):p.neg=decide (p.txt[0]? = some 45):=by
 obtain⟨c,t,e1,e2⟩:=zdd hp.i0 hp.i1;unfold NumS.txt
 cases p.neg with
 | true=>rfl
 | false=>
  rw[e1];have:c≠45:=zcR e2 rfl;simp[sgT,this]
theorem num_uniq {p q:NumS} (hp:p.Good) (hq:q.Good) (h:p.txt=q.txt):p=q:=by
 have hn:p.neg=q.neg:=by rw[zna hp,zna hq,h]
 unfold NumS.txt at h;rw[hn] at h;have h:=List.append_cancel_left h;have r1:=zcV p.int _ hp.i1 (zgm hp);have r2:=zcV q.int _ hq.i1 (zgm hq);rw[h,r2] at r1;obtain⟨hi,hR⟩:=List.append_inj h r1.symm;have hx:p.fr=q.fr/\exT p.ex=exT q.ex:=by
  cases h1:p.fr with
  | nil=>
   cases h2:q.fr with
   | nil=>rw[h1,h2] at hR;exact⟨rfl,hR⟩
   | cons b u=>
    rw[h1,h2] at hR;exfalso;rcases zeL hp 46 (by rw[show exT p.ex=frT (b::u)++exT q.ex from hR];rfl) with h3|h3<;>cases h3
  | cons a t=>
   cases h2:q.fr with
   | nil=>
    rw[h1,h2] at hR;exfalso;rcases zeL hq 46 (by rw[show exT q.ex=frT (a::t)++exT p.ex from hR.symm];rfl) with h3|h3<;>cases h3
   | cons b u=>
    rw[h1,h2] at hR;have hR:(46:UInt8)::((a::t)++exT p.ex)=46::((b::u)++exT q.ex):=hR;injection hR with _ hR
    have hd:∀{r:NumS},r.Good->∀c,(exT r.ex)[0]? = some c->zaq c=false:=fun hr c h=>by
     rcases zeL hr c h with rfl|rfl<;>rfl
    have k1:=zcV (a::t) _ (by rw[<-h1];exact hp.f1) (hd hp);have k2:=zcV (b::u) _ (by rw[<-h2];exact hq.f1) (hd hq);rw[hR,k2] at k1;exact List.append_inj hR k1.symm
 have he:p.ex=q.ex:=by
  have h3:=hx.2
  cases h1:p.ex with
  | none=>
   cases h2:q.ex with
   | none=>rfl
   | some e=>obtain⟨c,s,d⟩:=e;rw[h1,h2] at h3;cases h3
  | some e=>
   obtain⟨c,s,d⟩:=e
   cases h2:q.ex with
   | none=>rw[h1,h2] at h3;cases h3
   | some e'=>
    obtain⟨c',s',d'⟩:=e';have k1:=(zki 0 hp h1).2;have k2:=(zki 0 hq h2).2;rw[h1,h2] at h3;have h3:c::(s++d)=c'::(s'++d'):=h3;injection h3 with e1 e2
    rw[e2,k2] at k1;subst k1;rw[e1,List.append_cancel_right e2]
 obtain⟨pn,pi,pf,pe⟩:=p;obtain⟨qn,qi,qf,qe⟩:=q;simp only at hn hi hx he;rw[hn,hi,hx.1,he]
theorem can_len (cut:Nat) (p:NumS):(canP cut p).2.length<=100:=by
 unfold canP
 split
 ·simp
 ·split
  ·simp
  ·rename_i h;have h1:(sgT p.neg).length<=1:=by unfold sgT;split<;>simp
   have h2:(expS (zpl cut p)).length<=30:=by
    unfold expS
    split
    ·simp
    ·have:=Lib.itoa_length_le (zpl cut p) (by omega) (by omega);rw[zu];omega
   simp only[zk];omega
section
variable [Tabs Tryz.prog] {objs:List OB} {K:List OB->AV->Prop}
end
theorem minV_at (c:Nat) (l:List UInt8) (i n:Nat) (h:i<l.length):zj6 c (l.drop i) n=zj6 c (l.drop (i+1)) (min (n*10+(l[i].toNat - 48)) c):=by
 rw[jn h,zj6]
theorem zp5 {p:NumS} (hp:p.Good):zb8 p.body [101,69]=(p.int++frT p.fr).length:=by
 have hno:(p.int++frT p.fr).findIdx (fun c=>zbu c [101,69])=(p.int++frT p.fr).length:=by
  rw[List.findIdx_eq_length];intro c hc;rcases List.mem_append.1 hc with h|h
  ·exact(zeq (zt.1 hp.i1 c h)).2.1
  ·exact(frT_mem hp.f1 c h).2
 unfold zb8 NumS.body;rw[<-zy,List.findIdx_append,hno,if_neg (by omega)]
 cases he:p.ex with
 | none=>simp[exT]
 | some e=>
  obtain⟨k,s,d⟩:=e;have:(exT (some (k,s,d))).findIdx (fun c=>zbu c [101,69])=0:=by
   unfold exT;rw[List.findIdx_cons];rcases(hp.e1 k s d he).1 with rfl|rfl<;>rfl
  rw[this,Nat.zero_add]
theorem zjC (p:NumS):p.body.take (p.int++frT p.fr).length=p.int++frT p.fr:=by
 unfold NumS.body;rw[<-zy,List.take_left]
theorem body_exp {p:NumS} (hp:p.Good) (c:Nat):expC c (p.body.drop ((p.int++frT p.fr).length+1))=zgK c p.ex/\(ze0 (p.body.drop ((p.int++frT p.fr).length+1))).all zaq=true:=by
 have hd:p.body.drop ((p.int++frT p.fr).length+1)=(exT p.ex).drop 1:=by
  unfold NumS.body;rw[<-zy,<-ji,List.drop_left]
 rw[hd]
 cases he:p.ex with
 | none=>exact⟨rfl,rfl⟩
 | some e=>
  obtain⟨k,s,d⟩:=e;have h:=zki c hp he;have h4:=(hp.e1 k s d he).2.2.2;rw[he] at h;show expC c (s++d)=_/\(ze0 (s++d)).all zaq=true;rw[h.2];exact⟨h.1,h4⟩
theorem zR_last {l:List UInt8} (h:l≠[]) (h2:l.getLast h≠48):zR l=l:=by
 unfold zR;rw[zL_id,List.reverse_reverse];intro c hc;rw[<-List.head?_eq_getElem?,List.head?_reverse,List.getLast?_eq_some_getLast h] at hc;injection hc with hc
 rw[<-hc];exact h2
section
variable [Tabs Tryz.prog] {objs:List OB} {K:List OB->AV->Prop}
set_option maxHeartbeats 2000000 in
theorem zjV (l:List UInt8) (hl:l.length<=140737488351232) (hd:(ze0 l).all zaq=true) (hk:K objs (.i .i64 (expC 1073741824 l))):zaf Tryz.prog 85 [.s l] objs K:=by
 refine za4 is_ref13_exponent rfl fun C _=>?_;rw[c_ref13_exponent];refine zaa fun Y1 hY1=>?_;simp only[sxZ,z6,z7,z8,j4,j5,j6,j7,j8,j9,x6,x7,x8,x9,y4,y5,reduceCtorEq,↓reduceIte];subst hY1;refine zaa fun Y1 hY1=>?_;refine zaL (fun o t=>o=[]/\t.length=41/\t[0]? = some (.s l)/\t[3]? = some (.b (negE l))) ?_ ?_
 ·unfold negE
  by_cases c0:l=[]
  ·subst c0;simp[zac,sxZ,z6,z7,z8,j4,j5,j6,j7,j8,j9,x6,x7,x8,x9,y4,y5,reduceCtorEq,↓reduceIte]
  ·have l0:0<l.length:=xo.2 c0;have g0:=zaP l0;have h45:l[0]? = some 45↔((l[0].toNat:Nat):Int)=45:=zmW l0 45 (by decide);simp only[c0,g0,zac,sxZ,z6,z7,z8,j4,j5,j6,j7,j8,j9,x6,x7,x8,x9,y4,y5,reduceCtorEq,↓reduceIte];refine⟨by omega,?_⟩
   by_cases c1:((l[0].toNat:Nat):Int)=45
   ·rw[decide_eq_true c1,decide_eq_true (h45.2 c1)]
   ·rw[decide_eq_false c1,decide_eq_false (fun h=>c1 (h45.1 h))]
 rintro _ tm ⟨rfl,hlen,t0,t3⟩;subst hY1;refine zaa fun Y1 hY1=>?_;refine zaL (fun o t=>o=[]/\t.length=41/\t[0]? = some (.s (ze0 l))/\t[3]? = some (.b (negE l))) ?_ ?_
 ·unfold ze0
  by_cases c0:l=[]
  ·subst c0;simp only[zac,sxZ,z6,z7,z8,j4,j5,j6,j7,j8,j9,x6,x7,x8,x9,y4,y5,reduceCtorEq,↓reduceIte,za,hlen,t0,t3]
   rfl
  ·have l0:0<l.length:=xo.2 c0;have g0:=zaP l0;simp only[c0,g0,sxZ,z6,z7,z8,j4,j5,j6,j7,j8,j9,x6,x7,x8,x9,y4,y5,reduceCtorEq,↓reduceIte,za,hlen,t0,t3];refine⟨by omega,?_⟩;refine zae (zi2 _ _ (by decide) ?_);have hin:zbu l[0] [43,45]=decide (l[0]? = some 43\/l[0]? = some 45):=by
    rw[zm l0];simp[zbu,eq_comm]
   rw[hin]
   by_cases c1:l[0]? = some 43\/l[0]? = some 45
   ·rw[if_pos c1];simp only[c1,zac,sxZ,z6,z7,z8,j4,j5,j6,j7,j8,j9,x6,x7,x8,x9,y4,y5,reduceCtorEq,↓reduceIte,za,hlen,t0,t3]
    and_intros<;>first|omega|exact iv (by omega)|rfl|assumption
   ·rw[if_neg c1];simp only[c1,zac,sxZ,z6,z7,z8,j4,j5,j6,j7,j8,j9,x6,x7,x8,x9,y4,y5,reduceCtorEq,↓reduceIte,za,hlen,t0,t3]
 rintro _ tm ⟨rfl,hlen,t0,t3⟩;subst hY1;have hsl:(ze0 l).length<=l.length:=by unfold ze0;split<;>simp
 unfold expC at hk;generalize negE l=ng at *;generalize ze0 l=d at *;refine zaa fun Y1 hY1=>?_;simp only[sxZ,z6,z7,z8,j4,j5,j6,j7,j8,j9,x6,x7,x8,x9,y4,y5,reduceCtorEq,↓reduceIte,za,hlen,t0,t3];subst hY1;refine zaa fun Y1 hY1=>?_;refine zaL (fun o t=>o=[]/\t.length=41/\t[3]? = some (.b ng)/\t[4]? = some (.i .i64 (zj6 1073741824 d 0:Nat))) ?_ ?_
 ·simp only[sxZ,z6,z7,z8,j4,j5,j6,j7,j8,j9,x6,x7,x8,x9,y4,y5,reduceCtorEq,↓reduceIte,za,hlen,t0,t3];refine zaK (fun k objs tm=>∃(i n:Nat),i<=d.length/\k=d.length - i/\objs=[]/\n<=1073741824/\zj6 1073741824 d 0=zj6 1073741824 (d.drop i) n/\tm.length=41/\tm[0]? = some (.s d)/\tm[3]? = some (.b ng)/\tm[4]? = some (.i .i64 (n:Nat))/\tm[5]? = some (.i .i64 (i:Nat))) d.length
   ⟨0,0,Nat.zero_le _,rfl,rfl,by omega,rfl,by simp[hlen],by simp[t0],by simp[t3],by simp[hlen],by simp[hlen]⟩ ?_
  rintro k _ tm ⟨i,n,hi,rfl,rfl,hn,hm,hlen,t0,t3,t4,t5⟩
  by_cases hlt:(i:Int)<d.length
  ·have hlt':i<d.length:=by omega
   have hg:=zaP hlt';have hdi:=zis (zt.1 hd _ (List.getElem_mem hlt'));have hmv:=minV_at 1073741824 d i n hlt';have hw:IntKind.u8.wrap (((d[i].toNat:Nat):Int) - 48)=((d[i].toNat - 48:Nat):Int):=by
    simp[IntKind.wrap,IntKind.bits,IntKind.signed];omega
   have hw2:IntKind.i64.wrap ((d[i].toNat - 48:Nat):Int)=((d[i].toNat - 48:Nat):Int):=by rw[IntKind.wrap_i64];omega
   simp only[hlt,hg,hw,hw2,sxZ,z6,z7,z8,j4,j5,j6,j7,j8,j9,x6,x7,x8,x9,y4,y5,reduceCtorEq,↓reduceIte,za,hlen,t0,t3,t4,t5];have hv:d[i].toNat - 48<=9:=by omega
   generalize d[i].toNat - 48=v at *;exact⟨by omega,by omega,by omega,by omega,d.length - (i+1),by omega,i+1,min (n*10+v) 1073741824,by omega,rfl,by omega,by rw[hm,hmv],iv (by split<;>omega),iv (by omega)⟩
  ·obtain rfl:i=d.length:=by omega
   rw[xw,zj6] at hm;simp only[hlt,zb3,zac,sxZ,z6,z7,z8,j4,j5,j6,j7,j8,j9,x6,x7,x8,x9,y4,y5,reduceCtorEq,↓reduceIte,za,hlen,t0,t3,t4,t5];rw[hm]
 rintro _ tm ⟨rfl,hlen,t3,t4⟩;subst hY1;have hml:=minV_le 1073741824 d 0 (by omega);generalize zj6 1073741824 d 0=n at *
 cases ng with
 | true=>
  simp only[sxZ,z6,z7,z8,j4,j5,j6,j7,j8,j9,x6,x7,x8,x9,y4,y5,reduceCtorEq,↓reduceIte,za,hlen,t3,t4];rw[if_pos rfl] at hk;refine⟨by omega,?_⟩;rw[Int.zero_sub];exact hk
 | false=>
  simp only[sxZ,z6,z7,z8,j4,j5,j6,j7,j8,j9,x6,x7,x8,x9,y4,y5,reduceCtorEq,↓reduceIte,za,hlen,t3,t4];rw[if_neg (by simp)] at hk;exact hk
set_option maxHeartbeats 4000000 in
theorem znx (s:List UInt8) (hs:s.length<=140737488351232) (h1:(s=[]\/zfQ s≠s.length)->K objs (.tup [.s [],.i .i64 130]))
  (h2:∀p:NumS,p.Good->s=p.txt->K objs (.tup [.s (canP 1073741824 p).2,.i .i64 (canP 1073741824 p).1])):zaf Tryz.prog 59 [.s s] objs K:=by
 refine za4 is_ref13_Number rfl fun C _=>?_;have hmx:=zfd
 by_cases c0:s=[]
 ·have h1:=h1 (.inl c0);simp only[c0,c_ref13_Number,sxZ,z6,z7,z8,j4,j5,j6,j7,j8,j9,x6,x7,x8,x9,y4,y5,reduceCtorEq,↓reduceIte];exact h1
 rw[c_ref13_Number];refine zaa fun Y1 hY1=>?_;simp only[sxZ,z6,z7,z8,j4,j5,j6,j7,j8,j9,x6,x7,x8,x9,y4,y5,reduceCtorEq,↓reduceIte];subst hY1;refine zaa fun Y1 hY1=>?_;simp only[c0,sxZ,z6,z7,z8,j4,j5,j6,j7,j8,j9,x6,x7,x8,x9,y4,y5,reduceCtorEq,↓reduceIte];refine zae (zhe s hs ?_)
 by_cases c1:zfQ s=s.length
 case neg=>
  have c1':¬((zfQ s:Nat):Int)=s.length:=by omega
  simp only[c1',sxZ,z6,z7,z8,j4,j5,j6,j7,j8,j9,x6,x7,x8,x9,y4,y5,reduceCtorEq,↓reduceIte];exact h1 (.inr c1)
 clear h1;obtain⟨p,hp,rfl⟩:=zor c0 c1;have h2:=h2 p hp rfl;simp only[c1,sxZ,z6,z7,z8,j4,j5,j6,j7,j8,j9,x6,x7,x8,x9,y4,y5,reduceCtorEq,↓reduceIte];subst hY1;refine zaa fun Y1 hY1=>?_;simp only[sxZ,z6,z7,z8,j4,j5,j6,j7,j8,j9,x6,x7,x8,x9,y4,y5,reduceCtorEq,↓reduceIte];subst hY1;refine zaa fun Y1 hY1=>?_;have hbl:p.body.length<=p.txt.length:=by unfold NumS.txt NumS.body;simp
 have htl:=znb p;have hml:(p.int++frT p.fr).length<=p.txt.length:=by unfold NumS.txt;simp;omega
 refine zaL (fun o t=>o=[]/\t.length=117/\t[0]? = some (.s p.body)/\t[4]? = some (.s (sgT p.neg))) ?_ ?_
 ·obtain⟨c,t,e1,e2⟩:=zdd hp.i0 hp.i1;have n45:¬((c.toNat:Nat):Int)=45:=by have:=zis e2;omega
  have hb:p.txt=sgT p.neg++p.body:=rfl;have hpos:0<p.txt.length:=xo.2 c0
  cases hn:p.neg with
  | true=>
   have g1:(((p.txt.getD 0 0).toNat:Nat):Int)=45:=by rw[hb,hn];rfl
   have g2:p.txt.drop 1=p.body:=by rw[hb,hn];rfl
   generalize p.txt=W at *;simp only[sgT,g1,g2,zac,sxZ,z6,z7,z8,j4,j5,j6,j7,j8,j9,x6,x7,x8,x9,y4,y5,reduceCtorEq,↓reduceIte]
   and_intros<;>first|omega|exact iv (by omega)|rfl|assumption
  | false=>
   have g1:(p.txt.getD 0 0)=c:=by rw[hb,hn];unfold NumS.body;rw[e1];rfl
   have g2:p.txt=p.body:=by rw[hb,hn];rfl
   rw[g2] at g1 hpos ⊢;generalize p.body=W at *;simp only[sgT,g1,n45,zac,sxZ,z6,z7,z8,j4,j5,j6,j7,j8,j9,x6,x7,x8,x9,y4,y5,reduceCtorEq,↓reduceIte]
   and_intros<;>first|omega|exact iv (by omega)|rfl|assumption
 rintro _ tm ⟨rfl,hlen,t0,t4⟩;subst hY1;clear c0 c1;have hbe:=body_exp hp 1073741824;have hbt:=zjC p;have hil:(p.int++frT p.fr).length<=p.body.length:=by
  have h:=congrArg List.length (zjC p);rw[qc] at h;omega
 have hbi:=zp5 hp;generalize hG:p.int++frT p.fr=G at *;refine zaa fun Y1 hY1=>?_;simp only[sxZ,z6,z7,z8,j4,j5,j6,j7,j8,j9,x6,x7,x8,x9,y4,y5,reduceCtorEq,↓reduceIte,za,hlen,t0,t4];refine zae (zdq _ _ (by omega) (by decide) ?_);rw[hbi];simp only[sxZ,z6,z7,z8,j4,j5,j6,j7,j8,j9,x6,x7,x8,x9,y4,y5,reduceCtorEq,↓reduceIte,za,hlen,t0,t4];subst hY1;refine zaa fun Y1 hY1=>?_;refine zaL (fun o t=>o=[]/\t.length=117/\t[4]? = some (.s (sgT p.neg))/\t[6]? = some (.i .i64 (zgK 1073741824 p.ex))/\t[7]? = some (.s G)) ?_ ?_
 ·simp only[sxZ,z6,z7,z8,j4,j5,j6,j7,j8,j9,x6,x7,x8,x9,y4,y5,reduceCtorEq,↓reduceIte,za,hlen,t0,t4];refine⟨by omega,?_⟩;refine zhr (zjU p.body (G.length+1) ⟨rfl,rfl⟩) ?_;simp only[sxZ,z6,z7,z8,j4,j5,j6,j7,j8,j9,x6,x7,x8,x9,y4,y5,reduceCtorEq,↓reduceIte,za,hlen,t0,t4];refine zhr (zjV _ (by rw[zw];omega) hbe.2 ⟨rfl,rfl⟩) ?_;simp only[hbe.1,hbt,zac,sxZ,z6,z7,z8,j4,j5,j6,j7,j8,j9,x6,x7,x8,x9,y4,y5,reduceCtorEq,↓reduceIte,za,hlen,t0,t4]
  and_intros<;>first|omega|exact iv (by omega)|rfl|assumption
 rintro _ tm ⟨rfl,hlen,t4,t6,t7⟩;subst hY1;refine zaa fun Y1 hY1=>?_;have hei:=expI_le 1073741824 p.ex;have hcp:=zpY hp;rw[hG] at hcp;have hi1:zb8 G [46]=p.int.length:=by rw[zlC,hcp]
 have hGt:G.take p.int.length=p.int:=by rw[<-hG,List.take_left]
 have hGd:G.drop (p.int.length+1)=p.fr:=by
  rw[<-hG,<-ji,List.drop_left]
  cases p.fr<;>rfl
 have hGl:G.length=p.int.length+(frT p.fr).length:=by rw[<-hG,zk]
 refine zaL (fun o t=>o=[]/\t.length=117/\t[4]? = some (.s (sgT p.neg))/\t[6]? = some (.i .i64 (zgK 1073741824 p.ex - (p.fr.length:Int)))/\t[7]? = some (.s (p.int++p.fr))) ?_ ?_
 ·simp only[sxZ,z6,z7,z8,j4,j5,j6,j7,j8,j9,x6,x7,x8,x9,y4,y5,reduceCtorEq,↓reduceIte,za,hlen,t4,t6,t7];refine zae (zdq _ _ (by omega) (by decide) ?_);rw[hi1]
  cases hf:p.fr with
  | nil=>
   have c2:¬((p.int.length:Nat):Int)<G.length:=by rw[hf] at hGl;simp[frT] at hGl;omega
   have hG2:G=p.int:=by rw[<-hG,hf];simp[frT]
   simp only[c2,zac,sxZ,z6,z7,z8,j4,j5,j6,j7,j8,j9,x6,x7,x8,x9,y4,y5,reduceCtorEq,↓reduceIte,za,hlen,t4,t6,t7];rw[hG2]
   and_intros<;>first|omega|exact iv (by omega)|rfl|assumption
  | cons a u=>
   rw[hf] at hGd;have c2:((p.int.length:Nat):Int)<G.length:=by rw[hf] at hGl;simp[frT] at hGl;omega
   have hfl:G.length=p.int.length+(u.length+1)+1:=by rw[hf] at hGl;simp[frT] at hGl;omega
   have e1:(((p.int.length:Nat):Int)+1).toNat=p.int.length+1:=by omega
   simp only[c2,e1,hGt,hGd,zac,sxZ,z6,z7,z8,j4,j5,j6,j7,j8,j9,x6,x7,x8,x9,y4,y5,reduceCtorEq,↓reduceIte,za,hlen,t4,t6,t7]
   and_intros<;>first|omega|exact iv (by omega)|rfl|assumption
 rintro _ tm ⟨rfl,hlen,t4,t6,t7⟩;subst hY1;clear hbe hbt hil hcp hbi hi1 hGt hGd hGl hG hml;refine zaa fun Y1 hY1=>?_;have hzl:=zL_len (p.int++p.fr);rw[zk] at hzl;refine zaL (fun o t=>o=[]/\t.length=117/\t[4]? = some (.s (sgT p.neg))/\t[6]? = some (.i .i64 (zgK 1073741824 p.ex - (p.fr.length:Int)))/\t[7]? = some (.s (zff p))) ?_ ?_
 ·simp only[sxZ,z6,z7,z8,j4,j5,j6,j7,j8,j9,x6,x7,x8,x9,y4,y5,reduceCtorEq,↓reduceIte];refine zaK (fun k o t=>∃l:List UInt8,k=l.length/\o=[]/\zL l=zff p/\t.length=117/\t[4]? = some (.s (sgT p.neg))/\t[6]? = some (.i .i64 (zgK 1073741824 p.ex - (p.fr.length:Int)))/\t[7]? = some (.s l)) (p.int++p.fr).length ⟨p.int++p.fr,rfl,rfl,rfl,hlen,t4,t6,t7⟩ ?_;rintro k _ tm ⟨l,rfl,rfl,hz,hlen,t4,t6,t7⟩
  cases l with
  | nil=>
   have z:¬(0:Int)<((0:Nat):Int):=by decide
   simp only[z,zb3,zac,sxZ,z6,z7,z8,j4,j5,j6,j7,j8,j9,x6,x7,x8,x9,y4,y5,reduceCtorEq,↓reduceIte,za,hlen,t4,t6,t7];rw[<-hz];rfl
  | cons c u=>
   have hp1:(0:Int)<((u.length+1:Nat):Int):=by omega
   have hp2:(c::u).getD 0 0=c:=rfl;rw[zhH] at hz
   by_cases c1:((c.toNat:Nat):Int)=48
   ·have hc:c=48:=(zeX (by decide)).1 c1;rw[if_pos hc] at hz;simp only[hp1,hp2,c1,zb3,zac,sxZ,z6,z7,z8,j4,j5,j6,j7,j8,j9,x6,x7,x8,x9,y4,y5,reduceCtorEq,↓reduceIte,za,hlen,t4,t6,t7];exact⟨by omega,u.length,by omega,u,rfl,hz,rfl⟩
   ·have hc:¬c=48:=fun h=>c1 ((zeX (by decide)).2 h);rw[if_neg hc] at hz;simp only[hp1,hp2,c1,zb3,zac,sxZ,z6,z7,z8,j4,j5,j6,j7,j8,j9,x6,x7,x8,x9,y4,y5,reduceCtorEq,↓reduceIte,za,hlen,t4,t6,t7];rw[hz]
 rintro _ tm ⟨rfl,hlen,t4,t6,t7⟩;subst hY1;refine zaa fun Y1 hY1=>?_;have hmh:=zoz p;unfold canP at h2;unfold zpl at h2
 by_cases c2:zff p=[]
 ·rw[if_pos c2] at h2;simp only[c2,sxZ,z6,z7,z8,j4,j5,j6,j7,j8,j9,x6,x7,x8,x9,y4,y5,reduceCtorEq,↓reduceIte,za,hlen,t4,t6,t7];exact h2
 rw[if_neg c2] at h2;have hml2:=zlf p;simp only[c2,sxZ,z6,z7,z8,j4,j5,j6,j7,j8,j9,x6,x7,x8,x9,y4,y5,reduceCtorEq,↓reduceIte,za,hlen,t4,t6,t7];subst hY1;have hX:-(300000000000000:Int)<=zgK 1073741824 p.ex - (p.fr.length:Int)/\zgK 1073741824 p.ex - (p.fr.length:Int)<=300000000000000:=by omega
 generalize zgK 1073741824 p.ex - (p.fr.length:Int)=X at *;generalize zff p=M at *;refine zaa fun Y1 hY1=>?_;refine zaL (fun o t=>o=[]/\t.length=117/\t[4]? = some (.s (sgT p.neg))/\t[6]? = some (.i .i64 (X+((M.length:Int) - (zR M).length)))/\t[7]? = some (.s (zR M))) ?_ ?_
 ·simp only[sxZ,z6,z7,z8,j4,j5,j6,j7,j8,j9,x6,x7,x8,x9,y4,y5,reduceCtorEq,↓reduceIte];refine zaK (fun k o t=>∃(l:List UInt8) (j:Nat),k=l.length/\o=[]/\l≠[]/\M=l++qj j 48/\t.length=117/\t[4]? = some (.s (sgT p.neg))/\t[6]? = some (.i .i64 (X+(j:Nat)))/\t[7]? = some (.s l)) M.length ⟨M,0,rfl,rfl,c2,by simp,by simp[hlen],by simp[t4],by simp[t6],by simp[t7]⟩ ?_;rintro k _ tm ⟨l,j,rfl,rfl,hl0,hM,hlen,t4,t6,t7⟩;have hl1:0<l.length:=xo.2 hl0;have hi:l.length - 1<l.length:=by omega
  have hg:=zaP hi;have e1:(((l.length:Nat):Int) - 1).toNat=l.length - 1:=by omega
  have hll:l.getLast hl0=l[l.length - 1]:=List.getLast_eq_getElem hl0;have hMl:M.length=l.length+j:=by rw[hM];simp
  by_cases c3:((l[l.length - 1].toNat:Nat):Int)=48
  ·have hc:l[l.length - 1]=48:=(zeX (by decide)).1 c3;have hsp:l=l.take (l.length - 1)++[48]:=by
    have h:=List.dropLast_concat_getLast hl0;rw[hll,hc,List.dropLast_eq_take] at h;exact h.symm
   have hM2:M=l.take (l.length - 1)++qj (j+1) 48:=by
    conv=>lhs;rw[hM,hsp]
    rw[zy,yg];rfl
   have hne:¬l.take (l.length - 1)=[]:=by
    intro h;rw[h,List.nil_append,yg] at hM2;exact hmh 48 (by rw[hM2];rfl) rfl
   have htk:(l.take (l.length - 1)).length=l.length - 1:=by rw[qc];omega
   simp only[e1,hg,c3,sxZ,z6,z7,z8,j4,j5,j6,j7,j8,j9,x6,x7,x8,x9,y4,y5,reduceCtorEq,↓reduceIte,za,hlen,t4,t6,t7];exact⟨by omega,by omega,by omega,by omega,by omega,(l.take (l.length - 1)).length,by omega,l.take (l.length - 1),j+1,rfl,hne,hM2,iv (by omega),rfl⟩
  ·have hc:¬l[l.length - 1]=48:=fun h=>c3 ((zeX (by decide)).2 h);have hz:zR M=l:=by rw[hM,zR_rep,zR_last hl0 (by rw[hll];exact hc)]
   simp only[e1,hg,c3,zb3,zac,sxZ,z6,z7,z8,j4,j5,j6,j7,j8,j9,x6,x7,x8,x9,y4,y5,reduceCtorEq,↓reduceIte,za,hlen,t4,t6,t7];rw[hz];exact⟨by omega,by omega,iv (by omega),rfl⟩
 rintro _ tm ⟨rfl,hlen,t4,t6,t7⟩;subst hY1;have hzr:=zR_len M;generalize X+((M.length:Int) - ((zR M).length:Int))=x at *;generalize zR M=m at *
 by_cases d1:(40:Int)<m.length
 ·rw[if_pos (.inl (by omega))] at h2;simp only[d1,sxZ,z6,z7,z8,j4,j5,j6,j7,j8,j9,x6,x7,x8,x9,y4,y5,reduceCtorEq,↓reduceIte,za,hlen,t4,t6,t7];exact h2
 by_cases d3:400<x
 ·rw[if_pos (.inr (.inr d3))] at h2;simp only[d1,d3,sxZ,z6,z7,z8,j4,j5,j6,j7,j8,j9,x6,x7,x8,x9,y4,y5,reduceCtorEq,↓reduceIte,za,hlen,t4,t6,t7];exact h2
 by_cases d2:x < -400
 ·rw[if_pos (.inr (.inl d2))] at h2;simp only[d1,d2,d3,sxZ,z6,z7,z8,j4,j5,j6,j7,j8,j9,x6,x7,x8,x9,y4,y5,reduceCtorEq,↓reduceIte,za,hlen,t4,t6,t7];exact h2
 rw[if_neg (by omega)] at h2;have hsg:(sgT p.neg).length<=1:=by unfold sgT;split<;>simp
 unfold expS at h2;generalize sgT p.neg=sg at *;have hdl:(Lib.decDigits x.natAbs).length<=20:=by rw[Lib.decDigits_length];exact Lib.nDigits_le20 _ (by omega)
 by_cases d4:x<0
 ·rw[if_neg (show ¬x=0 by omega)] at h2;have hw:IntKind.u64.wrap (0 - x)=((x.natAbs:Nat):Int):=by rw[wrap_u64 _ (by omega) (by omega)];omega
  have hit:=Lib.itoa_neg x.natAbs (by omega);rw[show -((x.natAbs:Nat):Int)=x by omega] at hit;rw[hit] at h2;simp only[d1,d2,d3,d4,hw,sxZ,z6,z7,z8,j4,j5,j6,j7,j8,j9,x6,x7,x8,x9,y4,y5,reduceCtorEq,↓reduceIte,za,hlen,t4,t6,t7]
  (and_intros<;>try omega)
  refine zae (zhg _ (by omega) ?_);simp only[sxZ,z6,z7,z8,j4,j5,j6,j7,j8,j9,x6,x7,x8,x9,y4,y5,reduceCtorEq,↓reduceIte,za,hlen,t4,t6,t7]
  (and_intros<;>try omega)
  simpa using h2
 by_cases d5:0<x
 ·rw[if_neg (show ¬x=0 by omega)] at h2;have hw:IntKind.u64.wrap x=((x.natAbs:Nat):Int):=by rw[wrap_u64 _ (by omega) (by omega)];omega
  have hit:=Lib.itoa_nonneg x.natAbs;rw[show ((x.natAbs:Nat):Int)=x by omega] at hit;rw[hit] at h2;simp only[d1,d2,d3,d4,d5,hw,sxZ,z6,z7,z8,j4,j5,j6,j7,j8,j9,x6,x7,x8,x9,y4,y5,reduceCtorEq,↓reduceIte,za,hlen,t4,t6,t7]
  (and_intros<;>try omega)
  refine zae (zhg _ (by omega) ?_);simp only[sxZ,z6,z7,z8,j4,j5,j6,j7,j8,j9,x6,x7,x8,x9,y4,y5,reduceCtorEq,↓reduceIte,za,hlen,t4,t6,t7]
  (and_intros<;>try omega)
  simpa using h2
 ·rw[if_pos (show x=0 by omega)] at h2;simp only[d1,d2,d3,d4,d5,sxZ,z6,z7,z8,j4,j5,j6,j7,j8,j9,x6,x7,x8,x9,y4,y5,reduceCtorEq,↓reduceIte,za,hlen,t4,t6,t7]
  (and_intros<;>try omega)
  simpa using h2
end
theorem zml {n:Nat} (h:n<=65535):IntKind.i64.wrap ((n:Nat):Int)=n:=by rw[IntKind.wrap_i64];omega
section
variable [Tabs Tryz.prog] {objs:List OB} {K:List OB->AV->Prop}
theorem runit_k (s:List UInt8) (a:Nat) (ha:a<=9000000000000000000) (hs:s.length<=140737488351232) (hk:match zdj (s.drop a) with|some n=>K objs (.tup [.i .i64 (n:Nat),.b true])|none=>∀x,K objs (.tup [.i .i64 x,.b false])):zaf Tryz.prog 119 [.s s,.i .i64 (a:Nat)] objs K:=by
 refine za4 is_ref13_unit rfl fun C _=>?_;have hb:=zlb zaT 16 65535 (((s.drop a).drop 2).take 4);unfold zdj at hk;rw[zw,zgL,zgL,Nat.add_zero] at hk
 by_cases c0:(s.length:Int)<(a:Int)+6
 ·rw[if_pos (.inl (by omega))] at hk;simp only[c0,c_ref13_unit,sxZ,z6,z7,z8,j4,j5,j6,j7,j8,j9,x6,x7,x8,x9,y4,y5,reduceCtorEq,↓reduceIte];exact⟨by omega,hk 0⟩
 have l0:a<s.length:=by omega
 have l1:a+1<s.length:=by omega
 have g0:=zaP l0;have g1:=zaP l1;have e2:((a:Int)+1).toNat=a+1:=by omega
 have e0:s[a]? = some 92↔((s[a].toNat:Nat):Int)=92:=zmW l0 92 (by decide);have e1:s[a+1]? = some 117↔((s[a+1].toNat:Nat):Int)=117:=zmW l1 117 (by decide);have e3:((a:Int)+2).toNat=a+2:=by omega
 have e4:((a:Int)+6).toNat=a+6:=by omega
 by_cases c1:((s[a].toNat:Nat):Int)=92
 ·by_cases c2:((s[a+1].toNat:Nat):Int)=117
  ·rw[if_neg (by rintro(h|h|h);exact absurd h (by omega);exact h (e0.2 c1);exact h (e1.2 c2))] at hk;simp only[c0,c1,c2,e2,e3,e4,g0,g1,c_ref13_unit,sxZ,z6,z7,z8,j4,j5,j6,j7,j8,j9,x6,x7,x8,x9,y4,y5,reduceCtorEq,↓reduceIte];refine⟨by omega,by omega,by omega,by omega,by omega,by omega,by omega,?_⟩;have hx:(s.take (a+6)).drop (a+2)=((s.drop a).drop 2).take 4:=by
    rw[ji,show a+6=(a+2)+4 by omega,zf7]
   rw[hx];refine zae (rnHex_k _ 65535 (by rw[qc,zw,zfd];omega) (by decide) ?_);simp only[sxZ,z6,z7,z8,j4,j5,j6,j7,j8,j9,x6,x7,x8,x9,y4,y5,reduceCtorEq,↓reduceIte];generalize zfF zaT 16 65535 (((s.drop a).drop 2).take 4)=q at *;obtain⟨e,n⟩:=q;simp only at hk hb ⊢;rw[zml hb]
   by_cases c3:e=0
   ·rw[if_pos c3] at hk;rw[decide_eq_true c3];exact hk
   ·rw[if_neg c3] at hk;rw[decide_eq_false c3];exact hk _
  ·rw[if_pos (.inr (.inr (fun h=>c2 (e1.1 h))))] at hk;simp only[c0,c1,c2,e2,g0,g1,c_ref13_unit,sxZ,z6,z7,z8,j4,j5,j6,j7,j8,j9,x6,x7,x8,x9,y4,y5,reduceCtorEq,↓reduceIte];refine⟨by omega,by omega,by omega,by omega,hk 0⟩
 ·rw[if_pos (.inr (.inl (fun h=>c1 (e0.1 h))))] at hk;simp only[c0,c1,g0,g1,c_ref13_unit,sxZ,z6,z7,z8,j4,j5,j6,j7,j8,j9,x6,x7,x8,x9,y4,y5,reduceCtorEq,↓reduceIte];refine⟨by omega,by omega,hk 0⟩
end
end Go.Proofs.YtceenajkieomoaaGreatDoor
