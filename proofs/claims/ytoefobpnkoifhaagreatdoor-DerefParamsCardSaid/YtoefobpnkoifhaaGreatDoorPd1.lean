/- The texts that the proofs of these statements reach, in their order, as few files. -/
import Derived.Shelf.Strings.Builder1
import Derived.Shelf.Strings.Builder2
import Derived.Shelf.Strings.OnBuilder
import Derived.Shelf.Small.Strs
import Derived.Shelf.Small.Wraps
import Derived.Shelf.Strings.BuilderF
import Derived.Shelf.Strings.BuilderK
import Derived.Shelf.Utf8.RuneCount
import Derived.Shelf.Strings.Builder2Cap
import Derived.Shelf.Strconv.Itoa0
import Derived.Shelf.Strconv.Itoa1
import Derived.Shelf.LaysM
import Derived.Shelf.Strconv.Itoa2
import Derived.Shelf.Strconv.Itoa3
import Derived.Shelf.Strings.Search1
import Derived.Shelf.Strings.Search2
import Derived.Shelf.Strings.Search3
import Derived.Shelf.Strings.Cut
import Derived.Shelf.Strings.Count
import Derived.Shelf.Strings.Shaped
import Derived.Shelf.Strings.LastIndex
import Derived.Shelf.Strings.Prefix
import Derived.Shelf.Strings.Split
import Derived.Shelf.Strings.Replace
import Derived.Shelf.Strings.SplitShaped
import Derived.Shelf.Unicode.Decode
import Derived.Shelf.Strings.RuneCount
import Derived.Shelf.Unicode.DecodeSlow
import Derived.Shelf.Unicode.DecodeAny
import Derived.Shelf.Strings.BuilderCap
import Derived.Shelf.Slices.Turned
import Derived.Ground.Names2Prog
import Derived.Shelf.Slices.Clone
import Derived.Ground.PaProg
import Derived.Shelf.Path.Small
import Derived.Test.YtoefobpnkoifhaaGreatDoorProg
import Derived.WalkKit
import Derived.WalkLawsBesides
import Derived.WalkSmall
import Derived.WalkSpells
import Derived.Lib.Hide
import Derived.Lib.IndexAny
import Derived.ShutString
import Derived.Lib.Strings
import Derived.Deep.QuietTactic
import Derived.BigQuiet
import Derived.Laws.BytesArg
import Derived.Laws.IdiomStrings
import Derived.Lib.ConvBytes
import Derived.Lib.AppendStr
import Derived.Deep.RegionLaw
import Derived.RangeFuncBox
import Derived.RangeFuncLeaves
import Derived.RangeFuncCalls
import Derived.Shelf.Abstract
import Derived.Shelf.RegionOpen
import Derived.OwnWalkIn
import Derived.TacticsInMore
import Derived.LoopNIn
import Derived.LoopIn
import Derived.Maps.AppendAt
import Derived.Orders
import Derived.Deep.MidRow
import Derived.Laws.IdiomCopy
import Derived.Laws.StructEq
import Derived.Laws.Slices
/-
 DERIVED: THE SHELF's CONTRACTS AT THIS DUMP,IN PLAIN WORDS (tools/lay-plain.mjs out of 'TryzShelf.lean',which tools/lay-shelf.mjs wrote): THE SAME DECLARATIONS UNDER THE SAME NAMES: 'import','namespace','open','def','theorem' AND NOTHING ELSE: no command of the shelf's: FOR A HAND-IN. Each laying: the table of numbers ('.._ren') and one theorem,a field a fact of the dump's own or the kernel's comparison; each contract: ONE APPLICATION.
-/
set_option linter.unusedVariables false
set_option linter.unusedSimpArgs false
set_option maxRecDepth 100000
namespace Go.Proofs
open Go.Shelf
def Tryz.lays156_ren:Go.Shelf.Ren:=⟨fun | 156 => 121 | 165 => 141 | 166 => 142 | 169 => 143 | 240 => 152 | 241 => 153 | 276 => 162 | 277 => 163 | n => n,fun | 31 => 27 | 9 => 9 | 3 => 3 | 4 => 4 | 0 => 0 | 20 => 20 | 72 => 173 | 76 => 177 | 70 => 171 | 37 => 80 | 75 => 176 | 127 => 185 | 164 => 194 | 5 => 5 | 80 => 179 | n => n,fun | n => n⟩
theorem Tryz.lays156:Go.Proofs.Lays.n156 Tryz.prog Tryz.lays156_ren:={
 mixed:=by kernel_rfl
 f156:=Tryz.func121.trans (congrArg some (by kernel_rfl))
 f165:=Tryz.func141.trans (congrArg some (by kernel_rfl))
 f166:=Tryz.func142.trans (congrArg some (by kernel_rfl))
 f169:=Tryz.func143.trans (congrArg some (by kernel_rfl))
 f240:=Tryz.func152.trans (congrArg some (by kernel_rfl))
 f241:=Tryz.func153.trans (congrArg some (by kernel_rfl))
 f276:=Tryz.func162.trans (congrArg some (by kernel_rfl))
 f277:=Tryz.func163.trans (congrArg some (by kernel_rfl))
 t0:=Tryz.underlying0
 a0:=Tryz.isAgg0
 z0:=Tryz.sizeOf0
 v0:=Tryz.zeroValue0
 t3:=Tryz.underlying3
 a3:=Tryz.isAgg3
 z3:=Tryz.sizeOf3
 v3:=Tryz.zeroValue3
 t4:=Tryz.underlying4
 a4:=Tryz.isAgg4
 z4:=Tryz.sizeOf4
 v4:=Tryz.zeroValue4
 t9:=Tryz.underlying9
 a9:=Tryz.isAgg9
 z9:=Tryz.sizeOf9
 v9:=Tryz.zeroValue9
 t20:=Tryz.underlying20
 a20:=Tryz.isAgg20
 z20:=Tryz.sizeOf20
 v20:=Tryz.zeroValue20
 t31:=Tryz.underlying27
 a31:=Tryz.isAgg27
 z31:=Tryz.sizeOf27
 v31:=Tryz.zeroValue27
 t37:=Tryz.underlying80
 a37:=Tryz.isAgg80
 z37:=Tryz.sizeOf80
 v37:=Tryz.zeroValue80
 t70:=Tryz.underlying171
 a70:=Tryz.isAgg171
 z70:=Tryz.sizeOf171
 v70:=Tryz.zeroValue171
 t72:=Tryz.underlying173
 a72:=Tryz.isAgg173
 z72:=Tryz.sizeOf173
 v72:=Tryz.zeroValue173
 t75:=Tryz.underlying176
 a75:=Tryz.isAgg176
 z75:=Tryz.sizeOf176
 v75:=Tryz.zeroValue176
 t76:=Tryz.underlying177
 a76:=Tryz.isAgg177
 z76:=Tryz.sizeOf177
 v76:=Tryz.zeroValue177
 t127:=Tryz.underlying185
 a127:=Tryz.isAgg185
 z127:=Tryz.sizeOf185
 v127:=Tryz.zeroValue185
 t164:=Tryz.underlying194
 a164:=Tryz.isAgg194
 z164:=Tryz.sizeOf194
 v164:=Tryz.zeroValue194 }
theorem Tryz.Builder_Extra_156:Builder.Extra Tryz.prog Tryz.lays156_ren:={
 sizeBuilder:=by kernel_rfl
 liesBuilder:=by kernel_rfl
 t5:=Tryz.underlying5
 a5:=Tryz.isAgg5
 z5:=Tryz.sizeOf5
 v5:=Tryz.zeroValue5
 infoByte:=by kernel_rfl
 cellsByte:=by kernel_rfl
 sizeByte:=by kernel_rfl
 neB5:=by decide }
open Go.RowKit in
/-- No element: the empty string; the world is as it was. (Whatever the slice's address and capacity: a nil slice too.) (LAID: no walk: one application.) -/
theorem Tryz.strings_Join_none (a:Option Addr) (c:Nat) (sep:ByteArray) (w:World) :
  Calls Tryz.prog 121 #[.slice a 0 c,.string sep] w fun e w' => e=.returned (.string ⟨#[]⟩) ∧ w'=w:=Any.strings_Join_none Tryz.lays156 Tryz.Builder_Extra_156 a c sep w
open Go.RowKit in
/-- strings.Join: "Join concatenates the elements of its first argument to create a single string. The separator string sep is placed between elements in the resulting string.": HOWEVER MANY ELEMENTS. Below the heap's end the world is as it was. (LAID: no walk: one application.) -/
theorem Tryz.strings_Join (bk o c:Nat) (xs:List ByteArray) (sep:ByteArray) (w:World) (hcells:∀ (j:Nat) x,xs[j]? = some x → w.cell? ⟨bk,o + j,none⟩=some (.string x)) (hbk:bk < w.heap.size) (hN:xs.length ≤ 140737488355328) (hcap:xs.length ≤ c) (hlen:(Lib.join (xs.map (·.data.toList)) sep.data.toList).length ≤ 140737488355328) :
  Calls Tryz.prog 121 #[.slice (some ⟨bk,o,none⟩) xs.length c,.string sep] w fun e w' => e=.returned (.string ⟨(Lib.join (xs.map (·.data.toList)) sep.data.toList).toArray⟩) ∧ Below w.heap.size w w':=Any.strings_Join Tryz.lays156 Tryz.Builder_Extra_156 bk o c xs sep w hcells hbk hN hcap hlen
def Tryz.lays137_ren:Go.Shelf.Ren:=⟨fun | 137 => 79 | 217 => 93 | 266 => 123 | n => n,fun | 9 => 9 | 5 => 5 | 3 => 3 | n => n,fun | n => n⟩
theorem Tryz.lays137:Go.Proofs.Lays.n137 Tryz.prog Tryz.lays137_ren:={
 mixed:=by kernel_rfl
 f137:=Tryz.func79.trans (congrArg some (by kernel_rfl))
 f217:=Tryz.func93.trans (congrArg some (by kernel_rfl))
 f266:=Tryz.func123.trans (congrArg some (by kernel_rfl))
 t3:=Tryz.underlying3
 a3:=Tryz.isAgg3
 z3:=Tryz.sizeOf3
 v3:=Tryz.zeroValue3
 t5:=Tryz.underlying5
 a5:=Tryz.isAgg5
 z5:=Tryz.sizeOf5
 v5:=Tryz.zeroValue5
 t9:=Tryz.underlying9
 a9:=Tryz.isAgg9
 z9:=Tryz.sizeOf9
 v9:=Tryz.zeroValue9 }
open Go.RowKit in
/-- strings.IndexByte: "IndexByte returns the index of the first instance of c in s, or -1 if c is not present in s.": IT RETURNS 'Lib.indexByte s c'; the world is as it was. (LAID: no walk: one application.) -/
theorem Tryz.strings_IndexByte (s:ByteArray) (c:Int) (w:World) :
  Calls Tryz.prog 79 #[.string s,.int .u8 c] w fun e w' => e=.returned (.int .i64 (Lib.indexByte s.data.toList c.toNat.toUInt8)) ∧ w'=w:=Any.strings_IndexByte Tryz.lays137 s c w
def Tryz.lays103_ren:Go.Shelf.Ren:=⟨fun | 103 => 82 | 210 => 109 | 206 => 133 | n => n,fun | 9 => 9 | 4 => 4 | 24 => 67 | 3 => 3 | n => n,fun | n => n⟩
theorem Tryz.lays103:Go.Proofs.Lays.n103 Tryz.prog Tryz.lays103_ren:={
 mixed:=by kernel_rfl
 f103:=Tryz.func82.trans (congrArg some (by kernel_rfl))
 f206:=Tryz.func133.trans (congrArg some (by kernel_rfl))
 f210:=Tryz.func109.trans (congrArg some (by kernel_rfl))
 t3:=Tryz.underlying3
 a3:=Tryz.isAgg3
 z3:=Tryz.sizeOf3
 v3:=Tryz.zeroValue3
 t4:=Tryz.underlying4
 a4:=Tryz.isAgg4
 z4:=Tryz.sizeOf4
 v4:=Tryz.zeroValue4
 t9:=Tryz.underlying9
 a9:=Tryz.isAgg9
 z9:=Tryz.sizeOf9
 v9:=Tryz.zeroValue9
 t24:=Tryz.underlying67
 a24:=Tryz.isAgg67
 z24:=Tryz.sizeOf67
 v24:=Tryz.zeroValue67 }
open Go.RowKit in
/-- strings.CutPrefix: "CutPrefix returns s without the provided leading prefix string and reports whether it found the prefix. If s doesn't start with prefix, CutPrefix returns s, false. If prefix is the empty string, CutPrefix returns s, true.": IT RETURNS '(Lib.trimPrefix s p, Lib.hasPrefix s p)'; the world is as it was. (LAID: no walk: one application.) -/
theorem Tryz.strings_CutPrefix (s p:ByteArray) (w:World) :
  Calls Tryz.prog 82 #[.string s,.string p] w fun e w' => e=.returned (.tuple #[.string ⟨(Lib.trimPrefix s.data.toList p.data.toList).toArray⟩,.bool (Lib.hasPrefix s.data.toList p.data.toList)]) ∧ w'=w:=Any.strings_CutPrefix Tryz.lays103 s p w
def Tryz.lays219_ren:Go.Shelf.Ren:=⟨fun | 219 => 58 | 217 => 93 | 225 => 94 | 224 => 95 | 267 => 96 | 266 => 123 | 314 => 124 | n => n,fun | 9 => 9 | 3 => 3 | 4 => 4 | 5 => 5 | 46 => 122 | 146 => 160 | 51 => 159 | n => n,fun | 1 => 0 | n => n⟩
theorem Tryz.lays219:Go.Proofs.Lays.n219 Tryz.prog Tryz.lays219_ren:={
 mixed:=by kernel_rfl
 f217:=Tryz.func93.trans (congrArg some (by kernel_rfl))
 f219:=Tryz.func58.trans (congrArg some (by kernel_rfl))
 f224:=Tryz.func95.trans (congrArg some (by kernel_rfl))
 f225:=Tryz.func94.trans (congrArg some (by kernel_rfl))
 f266:=Tryz.func123.trans (congrArg some (by kernel_rfl))
 f267:=Tryz.func96.trans (congrArg some (by kernel_rfl))
 f314:=Tryz.func124.trans (congrArg some (by kernel_rfl))
 t3:=Tryz.underlying3
 a3:=Tryz.isAgg3
 z3:=Tryz.sizeOf3
 v3:=Tryz.zeroValue3
 t4:=Tryz.underlying4
 a4:=Tryz.isAgg4
 z4:=Tryz.sizeOf4
 v4:=Tryz.zeroValue4
 t5:=Tryz.underlying5
 a5:=Tryz.isAgg5
 z5:=Tryz.sizeOf5
 v5:=Tryz.zeroValue5
 t9:=Tryz.underlying9
 a9:=Tryz.isAgg9
 z9:=Tryz.sizeOf9
 v9:=Tryz.zeroValue9
 t46:=Tryz.underlying122
 a46:=Tryz.isAgg122
 z46:=Tryz.sizeOf122
 v46:=Tryz.zeroValue122
 t51:=Tryz.underlying159
 a51:=Tryz.isAgg159
 z51:=Tryz.sizeOf159
 v51:=Tryz.zeroValue159
 t146:=Tryz.underlying160
 a146:=Tryz.isAgg160
 z146:=Tryz.sizeOf160
 v146:=Tryz.zeroValue160
 g1:=by kernel_rfl }
open Go.RowKit Go.Lib in
/-- internal/stringslite.Index (what strings.Index calls) AT A substr OF ONE BYTE c: IT RETURNS 'Lib.indexByte s c'; the world is as it was. (LAID: no walk: one application.) -/
theorem Tryz.stringslite_Index_one (s:ByteArray) (c:UInt8) (w:World) :
  Calls Tryz.prog 58 #[.string s,.string ⟨#[c]⟩] w fun e w' => e=.returned (.int .i64 (Lib.indexByte s.data.toList c)) ∧ w'=w:=Any.stringslite_Index_one Tryz.lays219 s c w
def Tryz.lays144_ren:Go.Shelf.Ren:=⟨fun | 144 => 84 | 143 => 110 | 219 => 58 | 217 => 93 | 225 => 94 | 224 => 95 | 267 => 96 | 266 => 123 | 314 => 124 | n => n,fun | 9 => 9 | 4 => 4 | 3 => 3 | 5 => 5 | 46 => 122 | 146 => 160 | 51 => 159 | n => n,fun | 1 => 0 | n => n⟩
theorem Tryz.lays144:Go.Proofs.Lays.n144 Tryz.prog Tryz.lays144_ren:={
 mixed:=by kernel_rfl
 f143:=Tryz.func110.trans (congrArg some (by kernel_rfl))
 f144:=Tryz.func84.trans (congrArg some (by kernel_rfl))
 f217:=Tryz.func93.trans (congrArg some (by kernel_rfl))
 f219:=Tryz.func58.trans (congrArg some (by kernel_rfl))
 f224:=Tryz.func95.trans (congrArg some (by kernel_rfl))
 f225:=Tryz.func94.trans (congrArg some (by kernel_rfl))
 f266:=Tryz.func123.trans (congrArg some (by kernel_rfl))
 f267:=Tryz.func96.trans (congrArg some (by kernel_rfl))
 f314:=Tryz.func124.trans (congrArg some (by kernel_rfl))
 t3:=Tryz.underlying3
 a3:=Tryz.isAgg3
 z3:=Tryz.sizeOf3
 v3:=Tryz.zeroValue3
 t4:=Tryz.underlying4
 a4:=Tryz.isAgg4
 z4:=Tryz.sizeOf4
 v4:=Tryz.zeroValue4
 t5:=Tryz.underlying5
 a5:=Tryz.isAgg5
 z5:=Tryz.sizeOf5
 v5:=Tryz.zeroValue5
 t9:=Tryz.underlying9
 a9:=Tryz.isAgg9
 z9:=Tryz.sizeOf9
 v9:=Tryz.zeroValue9
 t46:=Tryz.underlying122
 a46:=Tryz.isAgg122
 z46:=Tryz.sizeOf122
 v46:=Tryz.zeroValue122
 t51:=Tryz.underlying159
 a51:=Tryz.isAgg159
 z51:=Tryz.sizeOf159
 v51:=Tryz.zeroValue159
 t146:=Tryz.underlying160
 a146:=Tryz.isAgg160
 z146:=Tryz.sizeOf160
 v146:=Tryz.zeroValue160
 g1:=by kernel_rfl }
open Go.RowKit Go.Lib in
/-- strings.Contains: "Contains reports whether substr is within s.": AT A substr OF ONE BYTE c: IT RETURNS 'decide (0 ≤ Lib.indexByte s c)'; the world is as it was. (LAID: no walk: one application.) -/
theorem Tryz.strings_Contains_one (s:ByteArray) (c:UInt8) (w:World) :
  Calls Tryz.prog 84 #[.string s,.string ⟨#[c]⟩] w fun e w' => e=.returned (.bool (decide (0 ≤ Lib.indexByte s.data.toList c))) ∧ w'=w:=Any.strings_Contains_one Tryz.lays144 s c w
def Tryz.lays149_ren:Go.Shelf.Ren:=⟨fun | 149 => 119 | 222 => 140 | n => n,fun | 9 => 9 | 5 => 5 | 3 => 3 | 4 => 4 | n => n,fun | n => n⟩
theorem Tryz.lays149:Go.Proofs.Lays.n149 Tryz.prog Tryz.lays149_ren:={
 mixed:=by kernel_rfl
 f149:=Tryz.func119.trans (congrArg some (by kernel_rfl))
 f222:=Tryz.func140.trans (congrArg some (by kernel_rfl))
 t3:=Tryz.underlying3
 a3:=Tryz.isAgg3
 z3:=Tryz.sizeOf3
 v3:=Tryz.zeroValue3
 t4:=Tryz.underlying4
 a4:=Tryz.isAgg4
 z4:=Tryz.sizeOf4
 v4:=Tryz.zeroValue4
 t5:=Tryz.underlying5
 a5:=Tryz.isAgg5
 z5:=Tryz.sizeOf5
 v5:=Tryz.zeroValue5
 t9:=Tryz.underlying9
 a9:=Tryz.isAgg9
 z9:=Tryz.sizeOf9
 v9:=Tryz.zeroValue9 }
open Go.RowKit Go.Lib in
/-- strings.LastIndexByte: "LastIndexByte returns the index of the last instance of c in s, or -1 if c is not present in s." (LAID: no walk: one application.) -/
theorem Tryz.strings_LastIndexByte (s:ByteArray) (c:Int) (hs:s.size < 4611686018427387904) (w:World) :
  Calls Tryz.prog 119 #[.string s,.int .u8 c] w fun e w' => e=.returned (.int .i64 (Lib.lastIndexByte s c)) ∧ w'=w:=Any.strings_LastIndexByte Tryz.lays149 s c hs w
def Tryz.lays99_ren:Go.Shelf.Ren:=⟨fun | 99 => 117 | 206 => 133 | n => n,fun | 9 => 9 | 4 => 4 | 3 => 3 | n => n,fun | n => n⟩
theorem Tryz.lays99:Go.Proofs.Lays.n99 Tryz.prog Tryz.lays99_ren:={
 mixed:=by kernel_rfl
 f99:=Tryz.func117.trans (congrArg some (by kernel_rfl))
 f206:=Tryz.func133.trans (congrArg some (by kernel_rfl))
 t3:=Tryz.underlying3
 a3:=Tryz.isAgg3
 z3:=Tryz.sizeOf3
 v3:=Tryz.zeroValue3
 t4:=Tryz.underlying4
 a4:=Tryz.isAgg4
 z4:=Tryz.sizeOf4
 v4:=Tryz.zeroValue4
 t9:=Tryz.underlying9
 a9:=Tryz.isAgg9
 z9:=Tryz.sizeOf9
 v9:=Tryz.zeroValue9 }
open Go.RowKit Go.Lib in
/-- strings.HasPrefix: "HasPrefix reports whether the string s begins with prefix.": IT RETURNS 'Lib.hasPrefix s prefix'; the world is as it was. (LAID: no walk: one application.) -/
theorem Tryz.strings_HasPrefix (s p:ByteArray) (w:World) :
  Calls Tryz.prog 117 #[.string s,.string p] w fun e w' => e=.returned (.bool (Lib.hasPrefix s.data.toList p.data.toList)) ∧ w'=w:=Any.strings_HasPrefix Tryz.lays99 s p w
def Tryz.laysM155_ren:Go.Shelf.Ren:=⟨fun | 155 => 131 | 154 => 147 | 138 => 159 | 165 => 141 | 143 => 110 | 166 => 142 | 197 => 160 | 169 => 143 | 195 => 169 | 218 => 170 | 240 => 152 | 241 => 153 | 219 => 58 | 260 => 171 | 276 => 162 | 277 => 163 | 217 => 93 | 225 => 94 | 224 => 95 | 267 => 96 | 266 => 123 | 314 => 124 | n => n,fun | 9 => 9 | 3 => 3 | 4 => 4 | 72 => 173 | 0 => 0 | 76 => 177 | 105 => 191 | 21 => 21 | 5 => 5 | 70 => 171 | 20 => 20 | 37 => 80 | 75 => 176 | 127 => 185 | 164 => 194 | 46 => 122 | 119 => 202 | 139 => 205 | 138 => 204 | 146 => 160 | 51 => 159 | 80 => 179 | n => n,fun | 1 => 0 | 3 => 2 | 4 => 3 | n => n⟩
theorem Tryz.laysM155:Go.Proofs.LaysM.n155 Tryz.prog Tryz.laysM155_ren:={
 mixed:=by kernel_rfl
 f138:=Tryz.func159.trans (congrArg some (by kernel_rfl))
 f143:=Tryz.func110.trans (congrArg some (by kernel_rfl))
 f154:=Tryz.func147.trans (congrArg some (by kernel_rfl))
 f155:=Tryz.func131.trans (congrArg some (by kernel_rfl))
 f165:=Tryz.func141.trans (congrArg some (by kernel_rfl))
 f166:=Tryz.func142.trans (congrArg some (by kernel_rfl))
 f169:=Tryz.func143.trans (congrArg some (by kernel_rfl))
 f195:=Tryz.func169.trans (congrArg some (by kernel_rfl))
 f197:=Tryz.func160.trans (congrArg some (by kernel_rfl))
 f217:=Tryz.func93.trans (congrArg some (by kernel_rfl))
 f218:=Tryz.func170.trans (congrArg some (by kernel_rfl))
 f219:=Tryz.func58.trans (congrArg some (by kernel_rfl))
 f224:=Tryz.func95.trans (congrArg some (by kernel_rfl))
 f225:=Tryz.func94.trans (congrArg some (by kernel_rfl))
 f240:=Tryz.func152.trans (congrArg some (by kernel_rfl))
 f241:=Tryz.func153.trans (congrArg some (by kernel_rfl))
 f260:=Tryz.func171.trans (congrArg some (by kernel_rfl))
 f266:=Tryz.func123.trans (congrArg some (by kernel_rfl))
 f267:=Tryz.func96.trans (congrArg some (by kernel_rfl))
 f276:=Tryz.func162.trans (congrArg some (by kernel_rfl))
 f277:=Tryz.func163.trans (congrArg some (by kernel_rfl))
 f314:=Tryz.func124.trans (congrArg some (by kernel_rfl))
 t0:=Tryz.underlying0
 a0:=Tryz.isAgg0
 z0:=Tryz.sizeOf0
 v0:=Tryz.zeroValue0
 t3:=Tryz.underlying3
 a3:=Tryz.isAgg3
 z3:=Tryz.sizeOf3
 v3:=Tryz.zeroValue3
 t4:=Tryz.underlying4
 a4:=Tryz.isAgg4
 z4:=Tryz.sizeOf4
 v4:=Tryz.zeroValue4
 t5:=Tryz.underlying5
 a5:=Tryz.isAgg5
 z5:=Tryz.sizeOf5
 v5:=Tryz.zeroValue5
 t9:=Tryz.underlying9
 a9:=Tryz.isAgg9
 z9:=Tryz.sizeOf9
 v9:=Tryz.zeroValue9
 t20:=Tryz.underlying20
 a20:=Tryz.isAgg20
 z20:=Tryz.sizeOf20
 v20:=Tryz.zeroValue20
 t21:=Tryz.underlying21
 a21:=Tryz.isAgg21
 z21:=Tryz.sizeOf21
 v21:=Tryz.zeroValue21
 t37:=Tryz.underlying80
 a37:=Tryz.isAgg80
 z37:=Tryz.sizeOf80
 v37:=Tryz.zeroValue80
 t46:=Tryz.underlying122
 a46:=Tryz.isAgg122
 z46:=Tryz.sizeOf122
 v46:=Tryz.zeroValue122
 t51:=Tryz.underlying159
 a51:=Tryz.isAgg159
 z51:=Tryz.sizeOf159
 v51:=Tryz.zeroValue159
 t70:=Tryz.underlying171
 a70:=Tryz.isAgg171
 z70:=Tryz.sizeOf171
 v70:=Tryz.zeroValue171
 t72:=Tryz.underlying173
 a72:=Tryz.isAgg173
 z72:=Tryz.sizeOf173
 v72:=Tryz.zeroValue173
 t75:=Tryz.underlying176
 a75:=Tryz.isAgg176
 z75:=Tryz.sizeOf176
 v75:=Tryz.zeroValue176
 t76:=Tryz.underlying177
 a76:=Tryz.isAgg177
 z76:=Tryz.sizeOf177
 v76:=Tryz.zeroValue177
 t105:=Tryz.underlying191
 a105:=Tryz.isAgg191
 z105:=Tryz.sizeOf191
 v105:=Tryz.zeroValue191
 t119:=Tryz.underlying202
 a119:=Tryz.isAgg202
 z119:=Tryz.sizeOf202
 t127:=Tryz.underlying185
 a127:=Tryz.isAgg185
 z127:=Tryz.sizeOf185
 v127:=Tryz.zeroValue185
 t138:=Tryz.underlying204
 a138:=Tryz.isAgg204
 z138:=Tryz.sizeOf204
 v138:=Tryz.zeroValue204
 t139:=Tryz.underlying205
 a139:=Tryz.isAgg205
 z139:=Tryz.sizeOf205
 v139:=Tryz.zeroValue205
 t146:=Tryz.underlying160
 a146:=Tryz.isAgg160
 z146:=Tryz.sizeOf160
 v146:=Tryz.zeroValue160
 t164:=Tryz.underlying194
 a164:=Tryz.isAgg194
 z164:=Tryz.sizeOf194
 v164:=Tryz.zeroValue194
 g1:=by kernel_rfl
 g3:=by kernel_rfl
 g4:=by kernel_rfl
 t80:=Tryz.underlying179
 a80:=Tryz.isAgg179
 z80:=Tryz.sizeOf179
 v80:=Tryz.zeroValue179
 i0:=by kernel_rfl
 i3:=by kernel_rfl
 i4:=by kernel_rfl
 i5:=by kernel_rfl
 i9:=by kernel_rfl
 i20:=by kernel_rfl
 i21:=by kernel_rfl
 i37:=by kernel_rfl
 i46:=by kernel_rfl
 i51:=by kernel_rfl
 i70:=by kernel_rfl
 i72:=by kernel_rfl
 i75:=by kernel_rfl
 i76:=by kernel_rfl
 i80:=by kernel_rfl
 i105:=by kernel_rfl
 i127:=by kernel_rfl
 i138:=by kernel_rfl
 i139:=by kernel_rfl
 i146:=by kernel_rfl
 i164:=by kernel_rfl
 m1:=by kernel_rfl
 s1_3:=fun w h => Go.Proofs.cell_of_shapedOpen_int (zero:=#[.int .i64 0]) (t:=3) h (of_decide_eq_true (by kernel_rfl)) (by kernel_rfl) rfl (by kernel_rfl) (by kernel_rfl) Tryz.underlying3
 m3:=by kernel_rfl
 m4:=by kernel_rfl }
theorem Tryz.Builder_Extra_M155:Builder.Extra Tryz.prog Tryz.laysM155_ren:={
 sizeBuilder:=by kernel_rfl
 liesBuilder:=by kernel_rfl
 t5:=Tryz.underlying5
 a5:=Tryz.isAgg5
 z5:=Tryz.sizeOf5
 v5:=Tryz.zeroValue5
 infoByte:=by kernel_rfl
 cellsByte:=by kernel_rfl
 sizeByte:=by kernel_rfl
 neB5:=by decide }
open Go.RowKit Go.Lib in
/-- strings.ReplaceAll, old not empty. (LAID: no walk: one application.) -/
theorem Tryz.strings_ReplaceAll_shaped (s old new:ByteArray) (w:World) (h:w.ShapedOpen Tryz.prog) (hs:s.size < 4294967281) (h1:1 ≤ old.size) (hlen:s.size + Lib.countB s old * new.size ≤ 140737488355328) :
  Calls Tryz.prog 131 #[.string s,.string old,.string new] w fun e w' =>
   e=.returned (.string ⟨(Lib.replaceAll s.data.toList old.data.toList new.data.toList).toArray⟩) ∧ Below w.heap.size w w':=Any.strings_ReplaceAll_shaped Tryz.laysM155 Tryz.Builder_Extra_M155 s old new w h hs h1 hlen
end Go.Proofs
namespace Go.Proofs.YtoefobpnkoifhaaGreatDoor
open Go.RowKit
theorem za0 {a b:Bool} (h:a=b):Ending.returned (.bool a)=.returned (.bool b):=by rw [h]
theorem zco {k:IntKind} {a b:Int} (h:a=b):Ending.returned (.int k a)=.returned (.int k b):=by rw [h]
theorem dd {p q:Prop} [Decidable p] [Decidable q] (h:p ↔ q):decide p=decide q:=decide_eq_decide.2 h
theorem dt {q:Prop} [Decidable q] (h:q):true=decide q:=(decide_eq_true h).symm
theorem df {q:Prop} [Decidable q] (h:¬ q):false=decide q:=(decide_eq_false h).symm
abbrev S (l:List UInt8):ByteArray:=⟨l.toArray⟩
theorem zaP (l:List UInt8):(S l).size=l.length:=size_of_list l
theorem zca (l:List UInt8):(S l).data.toList=l:=rfl
theorem S_of (s:ByteArray):S s.data.toList=s:=rfl
theorem zap (s:ByteArray):s.data.toList.length=s.size:=rfl
theorem at_list (s:ByteArray) (k:Nat) (h:k < s.size):s.data.toList[k]'(by rw [zap]; exact h)=s[k]:=rfl
theorem zdE (s:ByteArray) (k:Nat) (h:k < s.size):s.data.toList.take (k + 1)=s.data.toList.take k ++ [s[k]]:=by
 rw [List.take_succ_eq_append_getElem (by simpa using h)]; rfl
theorem zaz (s:ByteArray) (k:Nat) (h:k < s.size):s.data.toList.drop k=s[k] :: s.data.toList.drop (k + 1):=by
 rw [List.drop_eq_getElem_cons (by simpa using h)]; rfl
def Qb (w w':World):Prop:=Below w.heap.size w w'
theorem Qb.refl (w:World):Qb w w:=Below.refl _ _
theorem Qb.trans {a b c:World} (h:Qb a b) (k:Qb b c):Qb a c:=Below.trans h (Below.mono k h.size)
theorem Qb.alloc {a b:World} (h:Qb a b) (o:Obj):Qb a (b.alloc o):=Below.alloc h h.size o
theorem Qb.drew {a b:World} (h:Qb a b):Qb a b.drew:=Below.drew h
theorem Qb.drewN {a b:World} (h:Qb a b) (n:Nat):Qb a (b.drewN n):=below_drewN h n
theorem Qb.set {a b:World} (h:Qb a b) {p:Addr} (hp:a.heap.size ≤ p.block) (u:Value):Qb a (b.setCell p u):=Below.setCell h hp u
theorem Qb.grown {a b c:World} (h:Qb a b) {row:Option Nat} (hg:b.grownBy c row) (hr:∀ k,row=some k → a.heap.size ≤ k):Qb a c:=Below.grown h hg h.size hr
theorem Qb.size {a b:World} (h:Qb a b):a.heap.size ≤ b.heap.size:=Below.size h
theorem Qb.below {a b:World} (h:Qb a b):Below a.heap.size a b:=h
def resV (r:Int × List UInt8):Value:=.tuple #[.string (S r.2),.int .i64 r.1]
theorem zcW {P:Program} {f:FuncId} {args:Array Value} {w:World} {n:Nat} {v:Value}
  (h:Calls P f args (w.drewN n) fun e w' => e=.returned v ∧ w.drewN n=w'):Calls P f args (w.drewN n) fun e w'' => e=.returned v ∧ ∃ m,w''=w.drewN m :=
 h.mono fun _ _ ⟨he,hm⟩ => ⟨he,n,hm.symm⟩
end Go.Proofs.YtoefobpnkoifhaaGreatDoor
namespace Go.Proofs.YtoefobpnkoifhaaGreatDoor
open Go.RowKit
def zdt (c:UInt8):Bool:=decide (48 ≤ c.toNat ∧ c.toNat ≤ 57)
def zbj (c:UInt8):Bool:=decide (48 ≤ c.toNat ∧ c.toNat ≤ 57 ∨ 97 ≤ c.toNat ∧ c.toNat ≤ 102 ∨ 65 ≤ c.toNat ∧ c.toNat ≤ 70)
def zc1 (c:UInt8) (l:List UInt8):Bool:=l.contains c
theorem hasB_nil (c:UInt8):zc1 c []=false:=rfl
theorem beq_u8 (c d:UInt8):(c == d)=(d.toNat == c.toNat):=by
 by_cases h:c=d
 ·subst h; rw [beq_self_eq_true,beq_self_eq_true]
 ·rw [beq_eq_false_iff_ne.2 h,beq_eq_false_iff_ne.2 (fun e => h (UInt8.toNat_inj.1 e).symm)]
theorem zd0 (l:List UInt8) (c d:UInt8):zc1 c (l ++ [d])=(zc1 c l || (d.toNat == c.toNat)):=by
 unfold zc1
 rw [← beq_u8]
 simp only [List.contains_append,List.contains_cons,List.contains_nil,Bool.or_false]
theorem zeN (c:UInt8) (w:World) :
  Calls Tryz.prog 98 #[.int .u8 c.toNat] w fun e w' => e=.returned (.bool (zdt c)) ∧ w=w':=by
 go_enter Tryz.func98,Tryz.ntmps98
 go_wp2
 all_goals go_ret
 all_goals exact ⟨za0 (by unfold zdt; first | exact dt (by omega) | exact df (by omega) | (rw [Bool.eq_iff_iff]; simp only [Bool.or_eq_true,Bool.and_eq_true,decide_eq_true_eq]; omega)),rfl⟩
theorem zi5 (c:UInt8) (w:World) :
  Calls Tryz.prog 97 #[.int .u8 c.toNat] w fun e w' => e=.returned (.bool (zbj c)) ∧ w=w':=by
 go_enter Tryz.func97,Tryz.ntmps97
 go_wp2
 all_goals go_ret
 all_goals exact ⟨za0 (by unfold zbj; first | exact dt (by omega) | exact df (by omega) | (rw [Bool.eq_iff_iff]; simp only [Bool.or_eq_true,Bool.and_eq_true,decide_eq_true_eq]; omega)),rfl⟩
theorem zbW (c:UInt8) (w:World) :
  Calls Tryz.prog 61 #[.int .u8 c.toNat] w fun e w' => e=.returned (.bool (zbj c)) ∧ w=w':=by
 go_enter Tryz.func61,Tryz.ntmps61
 go_wp2
 all_goals go_ret
 all_goals exact ⟨za0 (by unfold zbj; first | exact dt (by omega) | exact df (by omega) | (rw [Bool.eq_iff_iff]; simp only [Bool.or_eq_true,Bool.and_eq_true,decide_eq_true_eq]; omega)),rfl⟩
theorem zhi (c:UInt8) (s:ByteArray) (w:World) (hs:s.size ≤ maxLen) :
  Calls Tryz.prog 31 #[.int .u8 c.toNat,.string s] w fun e w' => e=.returned (.bool (zc1 c s.data.toList)) ∧ w=w':=by
 unfold maxLen at hs
 go_enter Tryz.func31,Tryz.ntmps31
 go_wp2
 go_loop [5] (fun i => ∃ k:Nat,k ≤ s.size ∧ i=.int .i64 k ∧ zc1 c (s.data.toList.take k)=false) (fun i => s.size - (intOf i).toNat)
 case atStart => exact ⟨0,Nat.zero_le _,rfl,hasB_nil c⟩
 case round =>
  obtain ⟨k,hk,rfl,hno⟩:=hrel
  have HN:=Lib.hid hno
  clear hno
  by_cases hlt:k < s.size
  ·have HT:=Lib.hid (zdE s k hlt)
   go_wp2
   ·have he:(↑s[k].toNat == (↑c.toNat:Int))=true:=by assumption
    go_ret
    have h:zc1 c s.data.toList=true:=by
     have h1:zc1 c (s.data.toList.take (k + 1))=true:=by
      rw [HT.out,zd0]
      have:s[k].toNat=c.toNat:=by have:=eq_of_beq he; omega
      simp [this]
     unfold zc1 at h1 ⊢
     rw [List.contains_iff_mem] at h1 ⊢
     exact List.mem_of_mem_take h1
    exact ⟨za0 h.symm,rfl⟩
   ·have he:(↑s[k].toNat == (↑c.toNat:Int))=false:=by assumption
    go_round
    case rel =>
     refine ⟨k + 1,by omega,by go_num,?_⟩
     rw [HT.out,zd0,HN.out]
     have:¬ s[k].toNat=c.toNat:=by intro h; simp [h] at he
     simp [this]
    case measure => simp [intOf]; omega
  ·go_wp2
   go_ret
   exact ⟨za0 (by have h:=HN.out; rw [List.take_of_length_le (by rw [zap]; omega)] at h; rw [h]),rfl⟩
end Go.Proofs.YtoefobpnkoifhaaGreatDoor
namespace Go.Proofs.YtoefobpnkoifhaaGreatDoor
open Go.RowKit
theorem infoU8:(Tryz.prog.info? 5).map (fun i => (i.zero,i.size,i.bytes))=some (some (.int .u8 0),1,1):=by kernel_rfl
def bv (l:List UInt8):List Value:=l.map fun c => .int .u8 c.toNat
theorem zbM (l:List UInt8):(bv l).length=l.length:=by simp [bv]
theorem ziU (a b:List UInt8):bv (a ++ b)=bv a ++ bv b:=by simp [bv]
theorem bv_get (l:List UInt8) (i:Nat) (h:i < l.length):(bv l)[i]? = some (.int .u8 l[i].toNat):=by simp [bv,h]
def zbh (w:World) (base:Nat) (v:Value) (l:List UInt8):Prop:=w.ownsRow base 5 1 v l.length (bv l)
theorem zbh.nil (w:World) (base:Nat):zbh w base (.slice none 0 0) []:=World.ownsRow_nil w base _ _
theorem zbh.drew {w:World} {base:Nat} {v:Value} {l:List UInt8} (h:zbh w base v l):zbh w.drew base v l:=h
theorem zbh.drewN {w:World} {base:Nat} {v:Value} {l:List UInt8} (h:zbh w base v l) (n:Nat):zbh (w.drewN n) base v l:=h
theorem zbh.alloc {w:World} {base:Nat} {v:Value} {l:List UInt8} (h:zbh w base v l) (o:Obj):zbh (w.alloc o) base v l:=World.ownsRow.alloc h o
theorem zbh.below {w w':World} {base:Nat} {v:Value} {l:List UInt8} (h:zbh w base v l) (hb:Qb w w'):zbh w' base v l:=by
 refine World.ownsRow.kept (row:=none) h ⟨hb.os,hb.tape,hb.output,Below.size hb,fun k hk _ => Below.block hb k hk⟩ ?_
 rcases h.2 with ⟨rfl,_⟩ | ⟨g,cap,cur,rfl,_⟩
 ·exact .inl rfl
 ·exact .inr (by simp [Value.ownBlock])
theorem zfH:∀ (l:List UInt8) (s:ByteArray),(l.map fun c => (c.toNat:Int)).foldl (fun r n => r.push (UInt8.ofNat n.toNat)) s=⟨s.data ++ l.toArray⟩
 | [],s => by simp
 | n :: ns,s => by
  rw [List.map_cons,List.foldl_cons,zfH ns]
  simp [ByteArray.push]
theorem zgV {w:World} {base:Nat} {v:Value} {l:List UInt8} (h:zbh w base v l) :
  (convert 80 9 v).run Tryz.prog w=.ok (.string ⟨l.toArray⟩) w:=by
 rcases h.2 with ⟨rfl,hn⟩ | ⟨g,cap,cur,rfl,hb,hg,hnc,hcm,hcs,htake⟩
 ·have:l=[]:=List.eq_nil_of_length_eq_zero hn
  subst this
  exact run_convert_bytes_nil w 80 5 Tryz.underlying80 Tryz.underlying5 0 0 _ Tryz.underlying9
 ·have hl:(loadCells ⟨g,0,none⟩ l.length).run Tryz.prog w=.ok ((l.map fun c => (c.toNat:Int)).map (Value.int .u8)).toArray w:=by
   have:=run_loadCells_list (P:=Tryz.prog) w ⟨g,0,none⟩ (bv l) (fun j v hj => World.ownsRow.cells h (g:=g) rfl j v hj)
   rw [zbM] at this
   rw [this]
   simp [bv,Function.comp_def]
  rw [run_convert_bytes_string w _ _ 5 _ _ _ Tryz.underlying80 Tryz.underlying5 Tryz.underlying9,run_bytesToString w _ _ cap _ hl,zfH]
  simp [ByteArray.empty,ByteArray.emptyWithCapacity]
  rfl
def mkB (c:Nat):Array Value:=madeCells (Value.int .u8 0).cells (c * 1)
theorem mkB_size (c:Nat):(mkB c).size=c:=by unfold mkB; rw [size_madeCells]; omega
theorem mkB_list (c:Nat):(mkB c).toList=bv (List.replicate c 0):=by
 show (madeCells #[.int .u8 0] (c * 1)).toList=_
 rw [toList_madeCells_one]; simp [bv]
theorem mk_bytes (n c:Nat) (hn:n ≤ c) (hc:c ≤ 281474976710656) (w:World) :
  (Instr.makeSlice 80 (.int .i64 (n:Int)) (.int .i64 (c:Int))).run Tryz.prog w=.ok (.slice (some ⟨w.heap.size,0,none⟩) n c) (w.alloc (.cells (mkB c) 5)):=by
 obtain ⟨i0,hi,hz0,hz1,hz2⟩:=info_parts infoU8
 have hb:(i0.bytes:Int) * (c:Int) ≤ 281474976710656:=by rw [hz2]; omega
 have hr:=run_make (P:=Tryz.prog) w 80 5 i0 (.int .u8 0) Tryz.underlying80 hi hz0 .i64 .i64 n c (by omega) (by omega) hb (by omega)
 simp only [Int.toNat_natCast,hz1] at hr
 exact hr
theorem zhG (c:Nat) (hc:c ≤ 281474976710656) (w:World) :
  (Instr.makeSlice 80 (.int .i64 0) (.int .i64 (c:Int))).run Tryz.prog w=.ok (.slice (some ⟨w.heap.size,0,none⟩) 0 c) (w.alloc (.cells (mkB c) 5)) :=
 mk_bytes 0 c (Nat.zero_le _) hc w
theorem ziV (w:World) (B n c:Nat) (hB:B ≤ w.heap.size) (hn:n ≤ c) (hc:c ≤ 281474976710656) :
  zbh (w.alloc (.cells (mkB c) 5)) B (.slice (some ⟨w.heap.size,0,none⟩) n c) (List.replicate n 0):=by
 refine ⟨by simp [zbM],.inr ⟨w.heap.size,c,mkB c,by simp,hB,heap_alloc_new w _,by simpa using hn,by simp only [maxLen]; omega,by rw [mkB_size]; omega,?_⟩⟩
 rw [mkB_list,List.length_replicate]
 simp [bv,List.take_replicate,Nat.min_eq_left hn]
theorem zbh.cell {w:World} {B g n cap:Nat} {l:List UInt8} (h:zbh w B (.slice (some ⟨g,0,none⟩) n cap) l) (j:Nat) (hj:j < l.length):w.cell? ⟨g,j,none⟩=some (.int .u8 l[j].toNat):=by
 have h':=h
 rcases h'.2 with ⟨e,_⟩ | ⟨g',cap',cur,e,_⟩
 ·simp at e
 ·simp only [Value.slice.injEq] at e
  obtain ⟨_,rfl,_⟩:=e
  rw [World.ownsRow.cellAt (h:World.ownsRow _ _ _ _ _ _ _) j (by omega),bv_get l j hj]
theorem zbh.frozen {w:World} {B g n cap:Nat} {l:List UInt8} (h:zbh w B (.slice (some ⟨g,0,none⟩) n cap) l) (j:Nat):w.frozen? ⟨g,j,none⟩=false:=by
 have h':=h
 rcases h'.2 with ⟨e,_⟩ | ⟨g',cap',cur,e,_⟩
 ·simp at e
 ·simp only [Value.slice.injEq] at e
  obtain ⟨_,rfl,_⟩:=e
  exact World.ownsRow.frozenAt (h:World.ownsRow _ _ _ _ _ _ _) j
def Crow (w:World) (g:Nat) (l:List UInt8):Prop:=∀ j (h:j < l.length),w.cell? ⟨g,j,none⟩=some (.int .u8 l[j].toNat) ∧ w.frozen? ⟨g,j,none⟩=false
theorem zak (g j:Nat):(⟨g,0,none⟩:Addr).add j=⟨g,j,none⟩:=by unfold Addr.add; split <;> simp_all
theorem Crow.str {w:World} {g:Nat} {l:List UInt8} (h:Crow w g l) (n cap:Nat) (hn:n=l.length) :
  (convert 80 9 (.slice (some ⟨g,0,none⟩) n cap)).run Tryz.prog w=.ok (.string ⟨l.toArray⟩) w:=by
 subst hn
 exact run_convert_bytes_back w _ _ 5 _ cap l Tryz.underlying80 Tryz.underlying5 Tryz.underlying9 (fun j hj => by rw [zak]; exact (h j hj).1)
theorem zbh.appended {w':World} {B:Nat} {v':Value} {l m:List UInt8} {xs:List Value} {n:Nat} (h:w'.ownsRow B 5 1 v' n xs) (hx:xs=bv (l ++ m)) (hn:n=(l ++ m).length):zbh w' B v' (l ++ m):=by
 subst hx hn; exact h
theorem bv_one (vs:List UInt8):∀ u ∈ bv vs,u.oneCell'=true:=by
 intro u hu
 obtain ⟨c,_,rfl⟩:=List.mem_map.1 hu
 rfl
theorem zed {w w':World} {B:Nat} {v:Value} {l:List UInt8} (h:zbh w B v l) (hB:B ≤ w.heap.size) (hg:w.grownBy w' v.ownBlock):Below B w w' :=
 (Below.refl B w).grown hg hB (fun k hk => (World.ownsRow.lt h k hk).1)
theorem zaF {w:World} {ops:Array Oper} {rest:List Oper} {o:Oper} {a:Act} {Q:Exit → Act → World → Prop} (hgd:o.guard=none) (s x:Operand)
  (ho:o.op=.call { callee:=.builtin .append,args:=#[s,x],argTypes:=#[80,80] })
  (B:Nat) (v:Value) (l m:List UInt8) (hs:a.eval s=v) (hrow:zbh w B v l) (ad:Addr) (n c:Nat) (hx:a.eval x=.slice (some ad) n c) (hn:n=m.length)
  (hnews:∀ j u,(bv m)[j]? = some u → w.cell? (ad.add j)=some u) (hlen:l.length + m.length ≤ 140737488355328) (hB:B ≤ w.heap.size)
  (h:∀ v' w',zbh w' B v' (l ++ m) → Below B w w' → wpList Tryz.prog ops Q rest (a.put o.dst v') w'):wpList Tryz.prog ops Q (o :: rest) a w:=by
 obtain ⟨i0,hi,hz0,hz1,hz2⟩:=info_parts infoU8
 subst hn
 exact wpList_append_own w hgd s x _ ho B 5 i0 _ 1 1 Tryz.underlying80 hi hz0 hz1 hz2 rfl (by omega) v l.length (bv l) hs hrow ad m.length c (bv m) hx (by rw [zbM]; omega) hnews (bv_one m)
  (by simp only [maxLen]; omega) (by omega) hB fun v' w' h1 h2 _ => h v' w' (zbh.appended h1 (ziU l m).symm (by simp)) (zed hrow hB h2)
end Go.Proofs.YtoefobpnkoifhaaGreatDoor
namespace Go.Proofs.YtoefobpnkoifhaaGreatDoor
open Go.RowKit
theorem take_all (s:ByteArray) (k:Nat) (h:¬ k < s.size):s.data.toList.take k=s.data.toList:=List.take_of_length_le (by rw [zap]; omega)
def zbN (c:UInt8):Bool:=decide (c.toNat=32 ∨ c.toNat=9)
def rdw (l:List UInt8):List UInt8:=(l.reverse.dropWhile zbN).reverse
def trimL (l:List UInt8):List UInt8:=rdw (l.dropWhile zbN)
theorem rdw_snoc (l:List UInt8) (x:UInt8):rdw (l ++ [x])=if zbN x=true then rdw l else l ++ [x]:=by
 unfold rdw
 rw [List.reverse_append,List.reverse_singleton,List.singleton_append,List.dropWhile_cons]
 split <;> simp
def TP (n:Nat) (l:List UInt8) (f t:Nat):Prop :=
 ∃ A M B,l=A ++ M ++ B ∧ (∀ a ∈ A,zbN a=true) ∧ (∀ b ∈ B,zbN b=true) ∧ M.dropWhile zbN=M ∧ rdw M=M ∧
  ((M=[] ∧ f=n ∧ t=0) ∨ (M ≠ [] ∧ f=A.length ∧ t=A.length + M.length))
theorem TP.other {n:Nat} {l:List UInt8} {f t:Nat} {c:UInt8} (h:TP n l f t) (hc:zbN c=false) (hl:l.length < n):TP n (l ++ [c]) (min f l.length) (l.length + 1):=by
 obtain ⟨A,M,B,rfl,hA,hB,h1,h2,h3⟩:=h
 rcases h3 with ⟨rfl,rfl,rfl⟩ | ⟨h3,rfl,rfl⟩
 ·refine ⟨A ++ B,[c],[],by simp,?_,by simp,by simp [hc],by simp [rdw,hc],.inr ⟨by simp,?_,?_⟩⟩
  ·intro a ha
   rcases List.mem_append.1 ha with ha | ha
   ·exact hA a ha
   ·exact hB a ha
  ·simp at hl ⊢; omega
  ·simp
 ·refine ⟨A,M ++ B ++ [c],[],by simp,hA,by simp,?_,?_,.inr ⟨by simp,?_,?_⟩⟩
  ·cases M with
   | nil => exact absurd rfl h3
   | cons x M =>
    have hx:¬ zbN x=true:=by
     intro hx
     rw [List.dropWhile_cons,if_pos hx] at h1
     have:=congrArg List.length h1
     have h4:=(List.dropWhile_sublist (p:=zbN) (l:=M)).length_le
     simp at this
     omega
    simp only [List.cons_append]
    rw [List.dropWhile_cons,if_neg hx]
  ·rw [rdw_snoc,if_neg (by rw [hc]; exact Bool.false_ne_true)]
  ·simp
  ·simp; omega
theorem zgk {B:List UInt8} (hB:∀ b ∈ B,zbN b=true) (l:List UInt8):rdw (l ++ B)=rdw l:=by
 unfold rdw
 rw [List.reverse_append,List.dropWhile_append_of_pos]
 intro a ha
 exact hB a (List.mem_reverse.1 ha)
theorem TP.done {l:List UInt8} {f t:Nat} (h:TP l.length l f t):(t ≤ f ∧ trimL l=[]) ∨ (f < t ∧ t ≤ l.length ∧ trimL l=(l.drop f).take (t - f)):=by
 obtain ⟨A,M,B,rfl,hA,hB,h1,h2,h3⟩:=h
 have ht:trimL (A ++ M ++ B)=rdw ((M ++ B).dropWhile zbN):=by
  unfold trimL
  rw [List.append_assoc,List.dropWhile_append_of_pos hA]
 rcases h3 with ⟨rfl,rfl,rfl⟩ | ⟨h3,rfl,rfl⟩
 ·refine .inl ⟨Nat.zero_le _,?_⟩
  rw [ht,List.nil_append,← List.append_nil B,List.dropWhile_append_of_pos hB]
  rfl
 ·have hp:0 < M.length:=List.length_pos_iff.2 h3
  refine .inr ⟨by omega,by simp,?_⟩
  have hm:(M ++ B).dropWhile zbN=M ++ B:=by
   cases M with
   | nil => exact absurd rfl h3
   | cons x M =>
    have hx:¬ zbN x=true:=by
     intro hx
     rw [List.dropWhile_cons,if_pos hx] at h1
     have:=congrArg List.length h1
     have h4:=(List.dropWhile_sublist (p:=zbN) (l:=M)).length_le
     simp at this
     omega
    simp only [List.cons_append]
    rw [List.dropWhile_cons,if_neg hx]
  rw [ht,hm,zgk hB,h2,List.append_assoc,List.drop_left,Nat.add_sub_cancel_left,List.take_left]
end Go.Proofs.YtoefobpnkoifhaaGreatDoor
namespace Go.Proofs.YtoefobpnkoifhaaGreatDoor
open Go.RowKit
def hvN (c:UInt8):Nat:=if c.toNat ≤ 57 then c.toNat - 48 else if c.toNat ≤ 70 then c.toNat - 55 else c.toNat - 87
def hv (c:UInt8):UInt8:=UInt8.ofNat (hvN c)
theorem zcB {c:UInt8} (h:zbj c=true):48 ≤ c.toNat ∧ c.toNat ≤ 57 ∨ 97 ≤ c.toNat ∧ c.toNat ≤ 102 ∨ 65 ≤ c.toNat ∧ c.toNat ≤ 70:=of_decide_eq_true h
theorem za9 {c:UInt8} (h:zbj c=true):(hv c).toNat=hvN c ∧ hvN c < 16:=by
 have:=zcB h
 have h2:hvN c < 16:=by unfold hvN; (repeat' split) <;> omega
 exact ⟨by unfold hv; rw [UInt8.toNat_ofNat']; omega,h2⟩
theorem and_223:∀ n:Fin 256,bits .and .u8 ((n.val:Nat):Int) 223=((n.val &&& 223:Nat):Int):=by decide +kernel
theorem hex_223:∀ n:Fin 256,(97 ≤ n.val ∧ n.val ≤ 102 ∨ 65 ≤ n.val ∧ n.val ≤ 70) → (n.val &&& 223)=(if n.val ≤ 70 then n.val else n.val - 32):=by decide +kernel
theorem zgo (c:UInt8) (h:zbj c=true) (w:World) :
  Calls Tryz.prog 60 #[.int .u8 c.toNat] w fun e w' => e=.returned (.int .u8 (hv c).toNat) ∧ w=w':=by
 have H:=Lib.hid h
 clear h
 go_enter Tryz.func60,Tryz.ntmps60
 go_wp2_with (go_at_call 98; refine (zeN _ _).mono ?_; rintro e w' ⟨rfl,rfl⟩)
 ·have hd:zdt c=true:=by assumption
  go_ret
  refine ⟨zco ?_,rfl⟩
  have h1:=za9 H.out
  have h2:48 ≤ c.toNat ∧ c.toNat ≤ 57:=of_decide_eq_true hd
  rw [h1.1]; unfold hvN; rw [if_pos h2.2]; omega
 ·have hd:zdt c=false:=by assumption
  go_ret
  refine ⟨zco ?_,rfl⟩
  have h1:=za9 H.out
  have h2:¬ (48 ≤ c.toNat ∧ c.toNat ≤ 57):=of_decide_eq_false hd
  have h3:=zcB H.out
  rw [h1.1,and_223 ⟨c.toNat,c.toNat_lt⟩,hex_223 ⟨c.toNat,c.toNat_lt⟩ (by show _ ∨ _; simp only; omega)]
  unfold hvN
  simp only
  split <;> split <;> (try split) <;> omega
theorem zgl (c:UInt8) (h:zbj c=true) (w:World) :
  Calls Tryz.prog 62 #[.int .u8 c.toNat] w fun e w' => e=.returned (.int .u8 (hv c).toNat) ∧ w=w':=by
 have h1:=za9 h
 have h3:=zcB h
 have H:=Lib.hid (And.intro h1 h3)
 clear h h1 h3
 go_enter Tryz.func62,Tryz.ntmps62
 go_wp2
 all_goals go_ret
 all_goals refine ⟨zco ?_,rfl⟩
 all_goals have h1:=H.out.1
 all_goals have h3:=H.out.2
 all_goals rw [h1.1]
 all_goals unfold hvN
 all_goals (repeat' split) <;> omega
theorem news1 (W:World) (a:Value):∀ j u,[a][j]? = some u → (W.alloc (.cells #[a] 5)).cell? ((⟨W.heap.size,0,none⟩:Addr).add j)=some u:=by
 intro j u hj
 rw [zak,World.cell?_alloc_at _ _ _ _ rfl]
 simpa using hj
def zaV:List UInt8 → Bool
 | _ :: a :: b :: _ => zbj a && zbj b
 | _ => false
def zd3:List UInt8 → UInt8
 | _ :: a :: b :: _ => UInt8.ofNat (16 * hvN a + hvN b)
 | _ => 0
theorem drop3 (s:ByteArray) (k:Nat) (h:k + 2 < s.size):s.data.toList.drop k=s[k] :: s[k + 1] :: s[k + 2] :: s.data.toList.drop (k + 3):=by
 rw [zaz s k (by omega),zaz s (k + 1) (by omega),zaz s (k + 2) (by omega)]
theorem zbD (s:ByteArray) (k:Nat) (h:¬ k + 2 < s.size):zaV (s.data.toList.drop k)=false:=by
 have hl:(s.data.toList.drop k).length ≤ 2:=by rw [List.length_drop,zap]; omega
 revert hl
 generalize s.data.toList.drop k=l
 intro hl
 match l,hl with
 | [],_ => rfl
 | [_],_ => rfl
 | [_,_],_ => rfl
theorem zbA (s:ByteArray) (k:Nat) (hk:k ≤ s.size) (hs:s.size ≤ maxLen) (w:World) :
  Calls Tryz.prog 59 #[.string s,.int .i64 k] w fun e w' => e=.returned (.bool (zaV (s.data.toList.drop k))) ∧ w=w':=by
 unfold maxLen at hs
 by_cases hlt:k + 2 < s.size
 ·have HD:=Lib.hid (drop3 s k hlt)
  go_enter Tryz.func59,Tryz.ntmps59
  go_wp2_with (go_at_call 97; refine (zi5 _ _).mono ?_; rintro e w' ⟨rfl,rfl⟩)
  ·have h1:zbj s[k + 1]=true:=by assumption
   go_ret
   exact ⟨za0 (by rw [HD.out]; simp only [zaV,h1,Bool.true_and]),rfl⟩
  ·have h1:¬ zbj s[k + 1]=true:=by assumption
   go_ret
   exact ⟨za0 (by rw [HD.out]; simp only [zaV,Bool.eq_false_iff.2 h1,Bool.false_and]),rfl⟩
 ·have HD:=Lib.hid (zbD s k hlt)
  go_enter Tryz.func59,Tryz.ntmps59
  go_wp2_with fail
  go_ret
  exact ⟨za0 HD.out.symm,rfl⟩
theorem zfM {a b:UInt8} (ha:zbj a=true) (hb:zbj b=true):(UInt8.ofNat (16 * hvN a + hvN b)).toNat=16 * (hv a).toNat + (hv b).toNat:=by
 have h1:=za9 ha
 have h2:=za9 hb
 rw [UInt8.toNat_ofNat',h1.1,h2.1]; omega
def escR (l:List UInt8):UInt8:=if zaV l=true then zd3 l else 0
theorem zeJ {l:List UInt8} (h:zaV l=false):escR l=0:=by unfold escR; rw [if_neg (by rw [h]; exact Bool.false_ne_true)]
theorem zfN {l:List UInt8} (h:zaV l=true):escR l=zd3 l:=if_pos h
theorem zcq (s:ByteArray) (k:Nat) (hk:k < s.size) (hs:s.size ≤ 140737488351232) (h37:s[k]=37) (w:World) :
  Calls Tryz.prog 32 #[.string s,.int .i64 k] w fun e w' => e=.returned (.tuple #[.int .u8 (escR (s.data.toList.drop k)).toNat,.bool (zaV (s.data.toList.drop k))]) ∧ Qb w w':=by
 have hne:((s[k].toNat:Int) != 37)=false:=by rw [h37]; rfl
 have H37:=Lib.hid h37
 clear h37
 by_cases hlt:k + 2 < s.size
 ·have HD:=Lib.hid (drop3 s k hlt)
  rcases ha:zbj s[k + 1] with _ | _
  ·have ho:zaV (s.data.toList.drop k)=false:=by rw [HD.out]; simp only [zaV,ha,Bool.false_and]
   have hr:=zeJ ho
   have HO:=Lib.hid (And.intro ho hr)
   clear ho hr
   go_enter Tryz.func32,Tryz.ntmps32
   go_wp2_with (go_at_call 61; refine (zbW _ _).mono ?_; rintro e w' ⟨rfl,rfl⟩)
   go_ret2
   exact ⟨by rw [HO.out.1,HO.out.2]; rfl,Qb.refl w⟩
  ·rcases hb:zbj s[k + 2] with _ | _
   ·have ho:zaV (s.data.toList.drop k)=false:=by rw [HD.out]; simp only [zaV,hb,Bool.and_false]
    have hr:=zeJ ho
    have HO:=Lib.hid (And.intro ho hr)
    clear ho hr
    go_enter Tryz.func32,Tryz.ntmps32
    go_wp2_with (go_at_call 61; refine (zbW _ _).mono ?_; rintro e w' ⟨rfl,rfl⟩)
    go_ret2
    exact ⟨by rw [HO.out.1,HO.out.2]; rfl,Qb.refl w⟩
   ·have n1:=(za9 ha).2
    rw [← (za9 ha).1] at n1
    have n2:=(za9 hb).2
    rw [← (za9 hb).1] at n2
    have ho:zaV (s.data.toList.drop k)=true:=by rw [HD.out]; simp only [zaV,ha,hb,Bool.and_true]
    have hr:=zfN ho
    have hv2:(zd3 (s.data.toList.drop k)).toNat=16 * (hv s[k + 1]).toNat + (hv s[k + 2]).toNat:=by
     rw [HD.out]; exact zfM ha hb
    have HO:=Lib.hid (And.intro ho (And.intro hr hv2))
    clear ho hr hv2
    go_enter Tryz.func32,Tryz.ntmps32
    go_wp2_with (go_at_call 61; refine (zbW _ _).mono ?_; rintro e w' ⟨rfl,rfl⟩)
    go_quiet ((go_at_call 62; exact zcW (zgl _ (by assumption) _)))
    go_wp2_with fail
    go_ret2
    exact ⟨by rw [HO.out.1,HO.out.2.1,HO.out.2.2,Int.natCast_add,Int.natCast_mul]; rfl,(Qb.refl w).drewN _⟩
 ·have ho:=zbD s k hlt
  have hr:=zeJ ho
  have HO:=Lib.hid (And.intro ho hr)
  clear ho hr
  go_enter Tryz.func32,Tryz.ntmps32
  go_wp2_with fail
  go_ret2
  exact ⟨by rw [HO.out.1,HO.out.2]; rfl,Qb.refl w⟩
end Go.Proofs.YtoefobpnkoifhaaGreatDoor
namespace Go.Proofs.YtoefobpnkoifhaaGreatDoor
open Go.RowKit
abbrev zi7:=List UInt8 → UInt8 → Bool → Int × List UInt8
def rwS (add:zi7):Nat → List UInt8 → List UInt8 → Int × List UInt8
 | _,[],out => (0,out)
 | n + 1,_ :: l,out => rwS add n l out
 | 0,c :: l,out =>
  if c=37 then
   if zaV (c :: l)=true then
    if (add out (zd3 (c :: l)) true).1=0 then rwS add 2 l (add out (zd3 (c :: l)) true).2 else ((add out (zd3 (c :: l)) true).1,[])
   else (2,[])
  else if (add out c false).1=0 then rwS add 0 l (add out c false).2 else ((add out c false).1,[])
section
variable (add:zi7) (s:ByteArray) (k:Nat) (out:List UInt8)
theorem zgS (n:Nat) (h:¬ k < s.size):rwS add n (s.data.toList.drop k) out=(0,out):=by
 rw [List.drop_of_length_le (by rw [zap]; omega),rwS]
theorem rwS_skip (m:Nat) (h:k < s.size) (hm:k < m):rwS add (m - k) (s.data.toList.drop k) out=rwS add (m - (k + 1)) (s.data.toList.drop (k + 1)) out:=by
 rw [zaz s k h,show m - k=(m - (k + 1)) + 1 from by omega,rwS]
theorem zgT (h:k < s.size) (hc:s[k]=37) (he:zaV (s.data.toList.drop k)=false):rwS add 0 (s.data.toList.drop k) out=(2,[]):=by
 rw [zaz s k h] at he ⊢
 rw [rwS,if_pos hc,if_neg (by rw [he]; exact Bool.false_ne_true)]
theorem zgR (h:k < s.size) (hc:s[k]=37) (he:zaV (s.data.toList.drop k)=true) (ha:(add out (zd3 (s.data.toList.drop k)) true).1=0) :
  rwS add 0 (s.data.toList.drop k) out=rwS add (k + 3 - (k + 1)) (s.data.toList.drop (k + 1)) (add out (zd3 (s.data.toList.drop k)) true).2:=by
 rw [zaz s k h] at he ha
 rw [show k + 3 - (k + 1)=2 from by omega]
 conv => lhs; rw [zaz s k h]
 rw [rwS,if_pos hc,if_pos he,if_pos ha,← zaz s k h]
theorem zep (h:k < s.size) (hc:s[k]=37) (he:zaV (s.data.toList.drop k)=true) (ha:(add out (zd3 (s.data.toList.drop k)) true).1 ≠ 0) :
  rwS add 0 (s.data.toList.drop k) out=((add out (zd3 (s.data.toList.drop k)) true).1,[]):=by
 rw [zaz s k h] at he ha ⊢
 rw [rwS,if_pos hc,if_pos he,if_neg ha]
theorem zgQ (h:k < s.size) (hc:s[k] ≠ 37) (ha:(add out s[k] false).1=0) :
  rwS add 0 (s.data.toList.drop k) out=rwS add (k + 1 - (k + 1)) (s.data.toList.drop (k + 1)) (add out s[k] false).2:=by
 rw [Nat.sub_self]
 conv => lhs; rw [zaz s k h]
 rw [rwS,if_neg hc,if_pos ha]
theorem zeo (h:k < s.size) (hc:s[k] ≠ 37) (ha:(add out s[k] false).1 ≠ 0) :
  rwS add 0 (s.data.toList.drop k) out=((add out s[k] false).1,[]):=by
 conv => lhs; rw [zaz s k h]
 rw [rwS,if_neg hc,if_neg ha]
theorem zc6 (he:zaV (s.data.toList.drop k)=true):k + 2 < s.size:=by
 rcases Nat.lt_or_ge (k + 2) s.size with h | h
 ·exact h
 ·rw [zbD s k (by omega)] at he; cases he
theorem ziu (he:zaV (s.data.toList.drop k)=true):∃ h:k + 2 < s.size,zbj s[k + 1]=true ∧ zbj s[k + 2]=true ∧ (zd3 (s.data.toList.drop k)).toNat=16 * (hv s[k + 1]).toNat + (hv s[k + 2]).toNat:=by
 have h:=zc6 s k he
 rw [drop3 s k h] at he ⊢
 simp only [zaV,Bool.and_eq_true] at he
 exact ⟨h,he.1,he.2,zfM he.1 he.2⟩
end
def zbO:zi7:=fun out x _ => (0,out ++ [x])
def limL (r:Int × List UInt8) (n:Nat):Int × List UInt8:=if 16384 < n then (5,[]) else r
def zcP (l:List UInt8):Int × List UInt8:=limL (rwS zbO 0 l []) l.length
theorem or_shl:∀ a b:Fin 16,bits .or .u8 (((a.val * 16:Nat):Int)) ((b.val:Nat):Int)=((16 * a.val + b.val:Nat):Int):=by decide +kernel
def AddPost (r:Int × List UInt8) (B:Nat) (w:World) (en:Ending) (w':World):Prop :=
 ∃ v',en=.returned (.tuple #[v',.int .i64 r.1]) ∧ (r.1=0 → zbh w' B v' r.2) ∧ Below B w w'
theorem zc9 (v:Value) (l:List UInt8) (x:UInt8) (e:Bool) (B:Nat) (w:World) (h:zbh w B v l) (hl:l.length ≤ 1000000000) (hB:B ≤ w.heap.size) :
  Calls Tryz.prog 30 #[v,.int .u8 x.toNat,.bool e] w (AddPost (zbO l x e) B w):=by
 go_enter Tryz.func30,Tryz.ntmps30
 go_wp2_with (at_builtin; refine zaF rfl (.tmp 8) (.tmp 10) rfl B v l [x] rfl (h.alloc _) _ _ _ rfl rfl (news1 _ _) (by simp; omega) (by simp; omega) ?_; intro v1 w1 hr1 hb1)
 go_ret2
 exact ⟨v1,rfl,fun _ => hr1,((Below.refl B w).alloc hB _).trans hb1⟩
theorem zge {l:List UInt8} {x:UInt8} {e:Bool}:(zbO l x e).2.length ≤ l.length + 3:=by simp [zbO]
end Go.Proofs.YtoefobpnkoifhaaGreatDoor
namespace Go.Proofs.YtoefobpnkoifhaaGreatDoor
open Go.RowKit
set_option maxHeartbeats 800000 in
theorem zdR (s:ByteArray) (w:World) (hs:s.size ≤ 16384) :
  Calls Tryz.prog 29 #[.string s,.func (.func 30) #[] #[]] w fun e w' => e=.returned (resV (rwS zbO 0 s.data.toList [])) ∧ Qb w w':=by
 have hmk:=fun W => zhG s.size (by omega) W
 go_enter Tryz.func29,Tryz.ntmps29
 go_wp2_with fail
 clear hmk
 go_loopw [6,7,8,9,10,11,20] (fun v m _ _ _ _ i wr => ∃ k j:Nat,∃ l,k ≤ s.size ∧ k ≤ j ∧ j ≤ s.size ∧ m=.int .i64 j ∧ i=.int .i64 k ∧ zbh wr w.heap.size v l ∧ l.length ≤ 3 * k ∧ Hid (rwS zbO 0 s.data.toList []=rwS zbO (j - k) (s.data.toList.drop k) l) ∧ Qb w wr) (fun _ _ _ _ _ _ i _ => s.size - (intOf i).toNat)
 case atStart => exact ⟨0,0,[],Nat.zero_le _,Nat.le_refl _,Nat.zero_le _,rfl,rfl,ziV w _ 0 _ (Nat.le_refl _) (Nat.zero_le _) (by omega),Nat.zero_le _,Lib.hid rfl,(Qb.refl w).alloc _⟩
 case round =>
  obtain ⟨k,j,l,hk,hkj,hj,rfl,rfl,hrow,hlen,HR,hq⟩:=hrel
  by_cases hlt:k < s.size
  ·by_cases hskip:k < j
   ·have HS:=Lib.hid (rwS_skip zbO s k l j hlt hskip)
    go_wp2_with fail
    go_roundw
    case rel => exact ⟨k + 1,j,l,by omega,by omega,hj,rfl,by go_num,hrow,by omega,Lib.hid (HR.out.trans HS.out),hq⟩
    case measure => simp [intOf]; omega
   ·obtain rfl:k=j:=by omega
    rw [Nat.sub_self] at HR
    have hB:w.heap.size ≤ wr.heap.size:=hq.size
    by_cases hc:s[k]=37
    ·have h37:((s[k].toNat:Int) == 37)=true:=by rw [hc]; rfl
     have HC:=Lib.hid hc
     clear hc
     rcases he:zaV (s.data.toList.drop k) with _ | _
     ·have HE:=Lib.hid (zgT zbO s k l hlt HC.out he)
      go_wp2_with (go_at_call 59; refine (zbA s k (by omega) (by unfold maxLen; omega) _).mono ?_; rintro e w' ⟨rfl,rfl⟩)
      go_ret2
      exact ⟨by rw [HR.out,HE.out]; rfl,hq⟩
     ·obtain ⟨h2,ha,hb,hv2⟩:=ziu s k he
      have n1:=(za9 ha).2
      rw [← (za9 ha).1] at n1
      have n2:=(za9 hb).2
      rw [← (za9 hb).1] at n2
      have hor:bits .or .u8 (((hv s[k + 1]).toNat:Int) * 16) ((hv s[k + 2]).toNat:Int)=((zd3 (s.data.toList.drop k)).toNat:Int):=by
       rw [hv2,← or_shl ⟨_,n1⟩ ⟨_,n2⟩]; rfl
      have HV:=Lib.hid hor
      have HE0:=Lib.hid he
      clear hv2 hor
      have q1:IntKind.i64.wrap ((k:Int) + 1)=(k:Int) + 1:=IntWalk.i64_in _ (by omega)
      have q2:(0:Int) ≤ (k:Int) + 1:=by omega
      have q3:((k:Int) + 1).toNat=k + 1:=by omega
      have q4:(k:Int) + 1 < s.size:=by omega
      have q5:IntKind.i64.wrap ((k:Int) + 2)=(k:Int) + 2:=IntWalk.i64_in _ (by omega)
      have q6:(0:Int) ≤ (k:Int) + 2:=by omega
      have q7:((k:Int) + 2).toNat=k + 2:=by omega
      have q8:(k:Int) + 2 < s.size:=by omega
      go_wp2_with (go_at_call 59; refine (zbA s k (by omega) (by unfold maxLen; omega) _).mono ?_; rintro e w' ⟨rfl,rfl⟩)
      go_quiet ((go_at_call 60; exact zcW (zgo _ (by assumption) _)))
      clear he
      go_wp2_with fail
      rw [HV.out]
      refine (zc9 _ l (zd3 (s.data.toList.drop k)) true w.heap.size _ (by exact hrow) (by omega) (by exact hB)).mono ?_
      rintro en w2 ⟨v2,rfl,hr2,hb2⟩
      have hq2:Qb w w2:=Below.trans (hq.drewN _) hb2
      have hl2:=zge (l:=l) (x:=zd3 (s.data.toList.drop k)) (e:=true)
      by_cases h0:(zbO l (zd3 (s.data.toList.drop k)) true).1=0
      ·have hr3:=hr2 h0
       have HE:=Lib.hid (zgR zbO s k l hlt HC.out HE0.out h0)
       clear hr2
       generalize hout:(zbO l (zd3 (s.data.toList.drop k)) true).2=l2 at *
       have HO:=Lib.hid hout
       clear hout
       go_wp2_with fail
       go_roundw
       case rel => exact ⟨k + 1,k + 3,l2,by omega,by omega,by omega,by go_num,by go_num,hr3,by omega,Lib.hid (HR.out.trans HE.out),hq2⟩
       case measure => simp [intOf]; omega
      ·have HE:=Lib.hid (zep zbO s k l hlt HC.out HE0.out h0)
       have h1:(((zbO l (zd3 (s.data.toList.drop k)) true).1) != 0)=true:=bne_iff_ne.2 h0
       clear h0 hr2
       go_wp2_with fail
       go_ret2
       exact ⟨by rw [HR.out,HE.out]; rfl,hq2⟩
    ·have h37:((s[k].toNat:Int) == 37)=false:=by
      rw [beq_eq_false_iff_ne]
      intro e
      exact hc (UInt8.toNat_inj.1 (show s[k].toNat=37 from by omega))
     have HC:=Lib.hid hc
     clear hc
     all_goals
      go_wp2_with fail
      refine (zc9 _ l (s[k]) false w.heap.size _ (by exact hrow) (by omega) (by exact hB)).mono ?_
      rintro en w2 ⟨v2,rfl,hr2,hb2⟩
      have hq2:Qb w w2:=Below.trans hq hb2
      have hl2:=zge (l:=l) (x:=s[k]) (e:=false)
      by_cases h0:(zbO l (s[k]) false).1=0
      ·have hr3:=hr2 h0
       have HE:=Lib.hid (zgQ zbO s k l hlt HC.out h0)
       clear hr2
       generalize hout:(zbO l (s[k]) false).2=l2 at *
       have HO:=Lib.hid hout
       clear hout
       go_wp2_with fail
       go_roundw
       case rel => exact ⟨k + 1,k + 1,l2,by omega,by omega,by omega,by go_num,by go_num,hr3,by omega,Lib.hid (HR.out.trans HE.out),hq2⟩
       case measure => simp [intOf]; omega
      ·have HE:=Lib.hid (zeo zbO s k l hlt HC.out h0)
       have h1:(((zbO l (s[k]) false).1) != 0)=true:=bne_iff_ne.2 h0
       clear h0 hr2
       go_wp2_with fail
       go_ret2
       exact ⟨by rw [HR.out,HE.out]; rfl,hq2⟩
  ·have HE:=Lib.hid (zgS zbO s k l (j - k) hlt)
   have hst:=zgV hrow
   go_wp2_with fail
   go_ret2
   exact ⟨by rw [HR.out,HE.out]; rfl,hq⟩
end Go.Proofs.YtoefobpnkoifhaaGreatDoor
namespace Go.Proofs.YtoefobpnkoifhaaGreatDoor
open Go.RowKit
theorem zdk (s:ByteArray) (f:Value) (w:World) (hs:¬ s.size ≤ 16384) :
  Calls Tryz.prog 29 #[.string s,f] w fun e w' => e=.returned (resV (5,[])) ∧ w=w':=by
 go_enter Tryz.func29,Tryz.ntmps29
 go_wp2_with fail
 go_ret2
 exact ⟨rfl,rfl⟩
theorem zcw (s:ByteArray) (w:World) :
  Calls Tryz.prog 12 #[.string s] w fun e w' => e=.returned (resV (zcP s.data.toList)) ∧ Qb w w':=by
 have hmf:∀ (fn:Fn) (first cap:Array Value) (w:World),(Instr.makeFunc fn first cap).run Tryz.prog w=.ok (.func fn first cap) w:=fun _ _ _ _ => rfl
 by_cases hs:s.size ≤ 16384
 ·have hd:zcP s.data.toList=rwS zbO 0 s.data.toList []:=by unfold zcP limL; rw [if_neg (by rw [zap]; omega)]
  rw [hd]
  go_enter Tryz.func12,Tryz.ntmps12
  go_wp2_with fail
  refine (zdR s _ hs).mono ?_
  rintro e w1 ⟨rfl,hq1⟩
  unfold resV
  go_wp2_with fail
  go_ret2
  exact ⟨rfl,hq1⟩
 ·have hd:zcP s.data.toList=(5,[]):=by unfold zcP limL; rw [if_pos (by rw [zap]; omega)]
  rw [hd]
  go_enter Tryz.func12,Tryz.ntmps12
  go_wp2_with fail
  refine (zdk s _ _ hs).mono ?_
  rintro e w1 ⟨rfl,rfl⟩
  unfold resV
  go_wp2_with fail
  go_ret2
  exact ⟨rfl,Qb.refl _⟩
theorem zeT (add:zi7):∀ (n:Nat) (l out:List UInt8),rwS add n l out=rwS add 0 (l.drop n) out
 | 0,l,out => rfl
 | n + 1,[],out => by rw [List.drop_nil,rwS,rwS]
 | n + 1,_ :: l,out => by rw [rwS,List.drop_succ_cons]; exact zeT add n l out
theorem rwS_at (add:zi7) (s:ByteArray) (k j:Nat) (h:k ≤ j) (out:List UInt8):rwS add (j - k) (s.data.toList.drop k) out=rwS add 0 (s.data.toList.drop j) out:=by
 rw [zeT,List.drop_drop,show k + (j - k)=j from by omega]
theorem zeq (s:ByteArray) (w:World) :
  Calls Tryz.prog 15 #[.string s] w fun e w' => e=.returned (resV (zcP s.data.toList)) ∧ Qb w w':=by
 by_cases hs:s.size ≤ 16384
 ·have hd:zcP s.data.toList=rwS zbO 0 s.data.toList []:=by unfold zcP limL; rw [if_neg (by rw [zap]; omega)]
  rw [hd]
  go_enter Tryz.func15,Tryz.ntmps15
  go_wp2_with fail
  go_loopw [4,5,6,7,8] (fun v i _ _ _ wr => ∃ k:Nat,∃ l,k ≤ s.size ∧ i=.int .i64 k ∧ zbh wr w.heap.size v l ∧ l.length ≤ k ∧ Hid (rwS zbO 0 s.data.toList []=rwS zbO 0 (s.data.toList.drop k) l) ∧ Qb w wr) (fun _ i _ _ _ _ => s.size - (intOf i).toNat)
  case atStart => exact ⟨0,[],Nat.zero_le _,rfl,zbh.nil _ _,Nat.le_refl _,Lib.hid rfl,Qb.refl w⟩
  case round =>
   obtain ⟨k,l,hk,rfl,hrow,hlen,HR,hq⟩:=hrel
   have hB:w.heap.size ≤ wr.heap.size:=hq.size
   by_cases hlt:k < s.size
   ·by_cases hc:s[k]=37
    ·have h37:((s[k].toNat:Int) == 37)=true:=by rw [hc]; rfl
     have HC:=Lib.hid hc
     clear hc
     rcases he:zaV (s.data.toList.drop k) with _ | _
     ·have HE:=Lib.hid (zgT zbO s k l hlt HC.out he)
      go_wp2_with (go_at_call 32; refine (zcq s k hlt (by omega) HC.out _).mono ?_; rintro e w1 ⟨rfl,hq1⟩)
      go_ret2
      exact ⟨by rw [HR.out,HE.out]; rfl,hq.trans hq1⟩
     ·have HE:=Lib.hid (zgR zbO s k l hlt HC.out he rfl)
      have HJ:=Lib.hid (rwS_at zbO s (k + 1) (k + 3) (by omega) (l ++ [escR (s.data.toList.drop k)]))
      have HV:=Lib.hid (zfN he)
      have h2:=zc6 s k he
      go_wp2_with (first | (go_at_call 32; refine (zcq s k hlt (by omega) HC.out _).mono ?_; rintro e w0 ⟨rfl,hq1⟩; have hrow0:=hrow.below hq1) | (at_builtin; refine zaF rfl (.tmp 34) (.tmp 36) rfl w.heap.size _ l [escR (s.data.toList.drop k)] rfl (hrow0.alloc _) _ _ _ rfl rfl (news1 _ _) (by simp; omega) (by have:=hq1.size; simp; omega) ?_; intro v1 w1 hr1 hb1))
      go_roundw
      case rel => exact ⟨k + 3,_,by omega,by go_num,hr1,by simp; omega,Lib.hid (by rw [HR.out,HE.out,← HJ.out,HV.out]; rfl),Below.trans ((hq.trans hq1).alloc _) hb1⟩
      case measure => simp [intOf]; omega
    ·have h37:((s[k].toNat:Int) == 37)=false:=by
      rw [beq_eq_false_iff_ne]
      intro e
      exact hc (UInt8.toNat_inj.1 (show s[k].toNat=37 from by omega))
     have HC:=Lib.hid hc
     clear hc
     have HE:=Lib.hid (zgQ zbO s k l hlt HC.out rfl)
     go_wp2_with (at_builtin; refine zaF rfl (.tmp 34) (.tmp 36) rfl w.heap.size _ l [s[k]] rfl (hrow.alloc _) _ _ _ rfl rfl (news1 _ _) (by simp; omega) (by simp; omega) ?_; intro v1 w1 hr1 hb1)
     go_roundw
     case rel => exact ⟨k + 1,_,by omega,by go_num,hr1,by simp; omega,Lib.hid (by rw [HR.out,HE.out,Nat.sub_self]; rfl),Below.trans (hq.alloc _) hb1⟩
     case measure => simp [intOf]; omega
   ·have HE:=Lib.hid (zgS zbO s k l 0 hlt)
    have hst:=zgV hrow
    go_wp2_with fail
    go_ret2
    exact ⟨by rw [HR.out,HE.out]; rfl,hq⟩
 ·have hd:zcP s.data.toList=(5,[]):=by unfold zcP limL; rw [if_pos (by rw [zap]; omega)]
  rw [hd]
  go_enter Tryz.func15,Tryz.ntmps15
  go_wp2_with fail
  go_ret2
  exact ⟨rfl,Qb.refl _⟩
end Go.Proofs.YtoefobpnkoifhaaGreatDoor
namespace Go.Proofs.YtoefobpnkoifhaaGreatDoor
open Go.RowKit
theorem infoStr:(Tryz.prog.info? 9).map (fun i => (i.zero,i.size,i.bytes))=some (some (.string ByteArray.empty),1,16):=by kernel_rfl
def sv (ls:List (List UInt8)):List Value:=ls.map fun l => .string (S l)
theorem zdH (ls:List (List UInt8)):(sv ls).length=ls.length:=by simp [sv]
theorem zgN (a b:List (List UInt8)):sv (a ++ b)=sv a ++ sv b:=by simp [sv]
theorem sv_get (ls:List (List UInt8)) (i:Nat) (h:i < ls.length):(sv ls)[i]? = some (.string (S ls[i])):=by simp [sv,h]
theorem sv_one (ls:List (List UInt8)):∀ u ∈ sv ls,u.oneCell'=true:=by
 intro u hu
 obtain ⟨c,_,rfl⟩:=List.mem_map.1 hu
 rfl
def zbP (w:World) (base:Nat) (v:Value) (ls:List (List UInt8)):Prop:=w.ownsRow base 9 1 v ls.length (sv ls)
theorem zbP.nil (w:World) (base:Nat):zbP w base (.slice none 0 0) []:=World.ownsRow_nil w base _ _
theorem zbP.drew {w:World} {base:Nat} {v:Value} {l:List (List UInt8)} (h:zbP w base v l):zbP w.drew base v l:=h
theorem zbP.drewN {w:World} {base:Nat} {v:Value} {l:List (List UInt8)} (h:zbP w base v l) (n:Nat):zbP (w.drewN n) base v l:=h
theorem zbP.alloc {w:World} {base:Nat} {v:Value} {l:List (List UInt8)} (h:zbP w base v l) (o:Obj):zbP (w.alloc o) base v l:=World.ownsRow.alloc h o
theorem zbP.below {w w':World} {base:Nat} {v:Value} {l:List (List UInt8)} (h:zbP w base v l) (hb:Qb w w'):zbP w' base v l:=by
 refine World.ownsRow.kept (row:=none) h ⟨hb.os,hb.tape,hb.output,Below.size hb,fun k hk _ => Below.block hb k hk⟩ ?_
 rcases h.2 with ⟨rfl,_⟩ | ⟨g,cap,cur,rfl,_⟩
 ·exact .inl rfl
 ·exact .inr (by simp [Value.ownBlock])
theorem zbP.form {w:World} {base:Nat} {v:Value} {l:List (List UInt8)} (h:zbP w base v l) (hl:0 < l.length):∃ g cap,v=.slice (some ⟨g,0,none⟩) l.length cap ∧ base ≤ g ∧ g < w.heap.size ∧ l.length ≤ cap:=by
 rcases h.2 with ⟨rfl,hn⟩ | ⟨g,cap,cur,rfl,hb,hg,hnc,_⟩
 ·omega
 ·refine ⟨g,cap,rfl,hb,?_,hnc⟩
  rcases Nat.lt_or_ge g w.heap.size with h1 | h1
  ·exact h1
  ·rw [Array.getElem?_eq_none h1] at hg; cases hg
theorem zbP.cell {w:World} {B g n cap:Nat} {l:List (List UInt8)} (h:zbP w B (.slice (some ⟨g,0,none⟩) n cap) l) (j:Nat) (hj:j < l.length):w.cell? ⟨g,j,none⟩=some (.string (S l[j])):=by
 have h':=h
 rcases h'.2 with ⟨e,_⟩ | ⟨g',cap',cur,e,_⟩
 ·simp at e
 ·simp only [Value.slice.injEq] at e
  obtain ⟨_,rfl,_⟩:=e
  rw [World.ownsRow.cellAt (h:World.ownsRow _ _ _ _ _ _ _) j (by omega),sv_get l j hj]
theorem zdx {w w':World} {B:Nat} {v:Value} {l:List (List UInt8)} (h:zbP w B v l) (hB:B ≤ w.heap.size) (hg:w.grownBy w' v.ownBlock):Below B w w' :=
 (Below.refl B w).grown hg hB (fun k hk => (World.ownsRow.lt h k hk).1)
theorem zbP.appended {w':World} {B:Nat} {v':Value} {l m:List (List UInt8)} {xs:List Value} {n:Nat} (h:w'.ownsRow B 9 1 v' n xs) (hx:xs=sv (l ++ m)) (hn:n=(l ++ m).length):zbP w' B v' (l ++ m):=by
 subst hx hn; exact h
theorem zaY {w:World} {ops:Array Oper} {rest:List Oper} {o:Oper} {a:Act} {Q:Exit → Act → World → Prop} (hgd:o.guard=none) (s x:Operand)
  (ho:o.op=.call { callee:=.builtin .append,args:=#[s,x],argTypes:=#[27,27] })
  (B:Nat) (v:Value) (l m:List (List UInt8)) (hs:a.eval s=v) (hrow:zbP w B v l) (ad:Addr) (n c:Nat) (hx:a.eval x=.slice (some ad) n c) (hn:n=m.length)
  (hnews:∀ j u,(sv m)[j]? = some u → w.cell? (ad.add j)=some u) (hlen:l.length + m.length ≤ 1000000000) (hB:B ≤ w.heap.size)
  (h:∀ v' w',zbP w' B v' (l ++ m) → Below B w w' → wpList Tryz.prog ops Q rest (a.put o.dst v') w'):wpList Tryz.prog ops Q (o :: rest) a w:=by
 obtain ⟨i0,hi,hz0,hz1,hz2⟩:=info_parts infoStr
 subst hn
 exact wpList_append_own w hgd s x _ ho B 9 i0 _ 1 16 Tryz.underlying27 hi hz0 hz1 hz2 rfl (by omega) v l.length (sv l) hs hrow ad m.length c (sv m) hx (by rw [zdH]; omega) hnews (sv_one m)
  (by simp only [maxLen]; omega) (by omega) hB fun v' w' h1 h2 _ => h v' w' (zbP.appended h1 (zgN l m).symm (by simp)) (zdx hrow hB h2)
theorem news1S (W:World) (a:ByteArray):∀ j u,(sv [a.data.toList])[j]? = some u → (W.alloc (.cells #[.string a] 9)).cell? ((⟨W.heap.size,0,none⟩:Addr).add j)=some u:=by
 intro j u hj
 rw [zak,World.cell?_alloc_at _ _ _ _ rfl]
 have:sv [a.data.toList]=[.string a]:=by simp [sv]
 rw [this] at hj
 simpa using hj
end Go.Proofs.YtoefobpnkoifhaaGreatDoor
namespace Go.Proofs.YtoefobpnkoifhaaGreatDoor
open Go.RowKit
def zaw (c:UInt8):List UInt8 → List UInt8 × List UInt8 × Bool
 | [] => ([],[],false)
 | x :: t => if x=c then ([],t,true) else (x :: (zaw c t).1,(zaw c t).2.1,(zaw c t).2.2)
theorem zbu (c:UInt8):∀ l:List UInt8,(Lib.indexByte l c=-1 ∧ zaw c l=(l,[],false) ∧ c ∉ l) ∨ ∃ k:Nat,Lib.indexByte l c=k ∧ k < l.length ∧ zaw c l=(l.take k,l.drop (k + 1),true) ∧ l[k]? = some c
 | [] => .inl ⟨rfl,rfl,by simp⟩
 | x :: t => by
  unfold Lib.indexByte zaw
  by_cases h:x=c
  ·subst h
   exact .inr ⟨0,by simp,by simp,by simp,by simp⟩
  ·rw [if_neg (by simpa using h),if_neg h]
   rcases zbu c t with ⟨h1,h2,h3⟩ | ⟨k,h1,h2,h3,h4⟩
   ·refine .inl ⟨by rw [h1]; rfl,by rw [h2],?_⟩
    simp only [List.mem_cons,not_or]
    exact ⟨fun e => h e.symm,h3⟩
   ·refine .inr ⟨k + 1,?_,by simpa using h2,?_,by simpa using h4⟩
    ·rw [h1,if_neg (by simp only [beq_iff_eq]; omega)]; omega
    ·rw [h3]; simp
theorem zf5 (c:UInt8) (l:List UInt8):(zaw c l).1.length ≤ l.length ∧ ((zaw c l).2.2=true → (zaw c l).1.length + (zaw c l).2.1.length + 1=l.length) ∧ ((zaw c l).2.2=false → (zaw c l).1=l ∧ (zaw c l).2.1=[]):=by
 rcases zbu c l with ⟨h1,h2,h3⟩ | ⟨k,h1,h2,h3,h4⟩
 ·rw [h2]; simp
 ·rw [h3]; simp; omega
theorem ziR (c:UInt8) (l:List UInt8):(zaw c l).1.length ≤ l.length ∧ (zaw c l).2.1.length ≤ l.length:=by
 rcases zbu c l with ⟨h1,h2,h3⟩ | ⟨k,h1,h2,h3,h4⟩
 ·rw [h2]; simp
 ·rw [h3]; simp; omega
def zam (c:UInt8):List UInt8 → List (List UInt8)
 | [] => [[]]
 | x :: t => if x=c then [] :: zam c t else match zam c t with
  | p :: ps => (x :: p) :: ps
  | [] => [[x]]
theorem za6 (c:UInt8):∀ l,∃ p ps,zam c l=p :: ps
 | [] => ⟨_,_,rfl⟩
 | x :: t => by
  unfold zam
  by_cases h:x=c
  ·rw [if_pos h]; exact ⟨_,_,rfl⟩
  ·rw [if_neg h]
   obtain ⟨p,ps,e⟩:=za6 c t
   rw [e]; exact ⟨_,_,rfl⟩
theorem zgf (c:UInt8) (l:List UInt8):0 < (zam c l).length:=by obtain ⟨p,ps,e⟩:=za6 c l; rw [e]; simp
theorem zbR (c:UInt8):∀ l,(zam c l).length ≤ l.length + 1
 | [] => by simp [zam]
 | x :: t => by
  have:=zbR c t
  unfold zam
  by_cases h:x=c
  ·rw [if_pos h]; simp; omega
  ·rw [if_neg h]
   obtain ⟨p,ps,e⟩:=za6 c t
   rw [e] at this ⊢
   simp at this ⊢; omega
theorem zbB (c x:UInt8) (t:List UInt8):zam c (x :: t)=if x=c then [] :: zam c t else match zam c t with
  | p :: ps => (x :: p) :: ps
  | [] => [[x]]:=rfl
theorem zeb (c x:UInt8) (t:List UInt8):zaw c (x :: t)=if x=c then ([],t,true) else (x :: (zaw c t).1,(zaw c t).2.1,(zaw c t).2.2):=rfl
theorem zcS (c:UInt8):∀ l,zam c l=if (zaw c l).2.2=true then (zaw c l).1 :: zam c (zaw c l).2.1 else [l]
 | [] => rfl
 | x :: t => by
  have ih:=zcS c t
  rw [zbB,zeb]
  by_cases h:x=c
  ·rw [if_pos h,if_pos h,if_pos rfl]
  ·rw [if_neg h,if_neg h,ih]
   by_cases h2:(zaw c t).2.2=true
   ·rw [if_pos h2,if_pos h2]
   ·rw [if_neg h2,if_neg h2]
def zaZ (c:UInt8) (r:List (List UInt8) × List UInt8) (x:UInt8):List (List UInt8) × List UInt8:=if x=c then (r.1 ++ [r.2],[]) else (r.1,r.2 ++ [x])
def zcm (c:UInt8) (l:List UInt8):List (List UInt8) × List UInt8:=l.foldl (zaZ c) ([],[])
theorem zgg (c x:UInt8) (l:List UInt8):zcm c (l ++ [x])=zaZ c (zcm c l) x:=by unfold zcm; rw [List.foldl_append]; rfl
theorem zbT (c:UInt8):∀ (l:List UInt8) (d:List (List UInt8)) (cur p:List UInt8) (ps:List (List UInt8)),zam c l=p :: ps → (l.foldl (zaZ c) (d,cur)).1 ++ [(l.foldl (zaZ c) (d,cur)).2]=d ++ (cur ++ p) :: ps
 | [],d,cur,p,ps,h => by
  rw [zam] at h; injection h with h1 h2; subst h1 h2; simp
 | x :: t,d,cur,p,ps,h => by
  rw [zbB] at h
  obtain ⟨q,qs,e⟩:=za6 c t
  rw [List.foldl_cons]
  by_cases hx:x=c
  ·rw [if_pos hx] at h
   injection h with h1 h2
   subst h1
   rw [show zaZ c (d,cur) x=(d ++ [cur],[]) from if_pos hx,zbT c t _ _ q qs e,← h2,e]
   simp
  ·rw [if_neg hx,e] at h
   injection h with h1 h2
   subst h1 h2
   rw [show zaZ c (d,cur) x=(d,cur ++ [x]) from if_neg hx,zbT c t _ _ q qs e]
   simp
theorem zek (c:UInt8) (l:List UInt8):zam c l=(zcm c l).1 ++ [(zcm c l).2]:=by
 obtain ⟨p,ps,e⟩:=za6 c l
 unfold zcm
 rw [zbT c l [] [] p ps e,e]; rfl
def cutV (x:List UInt8 × List UInt8 × Bool):Value:=.tuple #[.string (S x.1),.string (S x.2.1),.bool x.2.2]
theorem lCut_any (s:ByteArray) (c:UInt8) (w:World) (hs:s.size ≤ maxLen) :
  Calls Tryz.prog 28 #[.string s,.string ⟨#[c]⟩] w fun e w' => e=.returned (cutV (zaw c s.data.toList)) ∧ Qb w w':=by
 unfold maxLen at hs
 rcases zbu c s.data.toList with ⟨h1,h2,_⟩ | ⟨k,h1,h2,h3,_⟩
 ·have HI:=Lib.hid h1
  have HC:=Lib.hid h2
  clear h1 h2
  go_enter Tryz.func28,Tryz.ntmps28
  go_wp2_with fail
  refine (Tryz.stringslite_Index_one _ _ _).mono ?_
  rintro e w' ⟨rfl,rfl⟩
  rw [HI.out]
  go_wp2_with fail
  go_ret3
  exact ⟨by rw [HC.out]; rfl,Qb.refl _⟩
 ·rw [zap] at h2
  have HI:=Lib.hid h1
  have HC:=Lib.hid h3
  clear h1 h3
  have i0:(0:Int) ≤ (k:Int):=by omega
  have i1:(k:Int) < (s.size:Int):=by omega
  have q1:IntKind.i64.wrap ((k:Int) + 1)=(k:Int) + 1:=IntWalk.i64_in _ (by omega)
  have q2:(0:Int) ≤ (k:Int) + 1:=by omega
  have q3:((k:Int) + 1).toNat=k + 1:=by omega
  have q4:(k:Int) + 1 ≤ (s.size:Int):=by omega
  go_enter Tryz.func28,Tryz.ntmps28
  go_wp2_with fail
  refine (Tryz.stringslite_Index_one _ _ _).mono ?_
  rintro e w' ⟨rfl,rfl⟩
  rw [HI.out]
  go_wp2_with fail
  go_quiet (fail)
  go_wp2_with fail
  go_ret3
  refine ⟨?_,(Qb.refl _).drewN _⟩
  rw [HC.out]
  refine congrArg Ending.returned (congrArg Value.tuple ?_)
  rw [show S (s.data.toList.take k)=s.extract 0 k from by rw [← S_of (s.extract 0 k),Lib.extract_data]; simp,show S (s.data.toList.drop (k + 1))=s.extract (k + 1) s.size from by
   rw [← S_of (s.extract (k + 1) s.size),Lib.extract_data]; congr 2; rw [List.take_of_length_le]; rw [List.length_drop,zap]; omega]
  try rfl
theorem zcL (s:ByteArray) (c:UInt8) (w:World) (hs:s.size ≤ maxLen) :
  Calls Tryz.prog 11 #[.string s,.string ⟨#[c]⟩] w fun e w' => e=.returned (cutV (zaw c s.data.toList)) ∧ Qb w w':=by
 go_enter Tryz.func11,Tryz.ntmps11
 go_wp2_with fail
 refine (lCut_any _ _ _ hs).mono ?_
 rintro e w' ⟨rfl,hq⟩
 unfold cutV
 go_wp2_with fail
 go_ret3
 exact ⟨rfl,hq⟩
theorem zeH (s:ByteArray) (i j:Nat):s.extract i j=S ((s.data.toList.drop i).take (j - i)):=by rw [← S_of (s.extract i j),Lib.extract_data]
def zi2 (l:List UInt8) (c:UInt8) (w:World) (e:Ending) (w':World):Prop:=∃ v,e=.returned v ∧ zbP w' w.heap.size v (zam c l) ∧ Qb w w'
theorem zgm (s:ByteArray) (c:UInt8) (w:World) (hs:s.size ≤ 1000000) :
  Calls Tryz.prog 13 #[.string s,.int .u8 c.toNat] w (zi2 s.data.toList c w):=by
 go_enter Tryz.func13,Tryz.ntmps13
 go_wp2_with fail
 go_loopw [5,6,7] (fun v f i wr => ∃ (k j:Nat) (ls:List (List UInt8)),k ≤ s.size ∧ j ≤ k ∧ ls.length ≤ k ∧ i=.int .i64 k ∧ f=.int .i64 j ∧ zbP wr w.heap.size v ls ∧ Hid (zcm c (s.data.toList.take k)=(ls,(s.data.toList.drop j).take (k - j))) ∧ Qb w wr) (fun _ _ i _ => s.size - (intOf i).toNat)
 case atStart => exact ⟨0,0,[],Nat.zero_le _,Nat.le_refl _,Nat.le_refl _,rfl,rfl,zbP.nil _ _,Lib.hid (by simp [zcm]),Qb.refl w⟩
 case round =>
  obtain ⟨k,j,ls,hk,hj,hls,rfl,rfl,hrow,HL,hq⟩:=hrel
  have hB:w.heap.size ≤ wr.heap.size:=hq.size
  have HX:=Lib.hid (zeH s j k)
  by_cases hlt:k < s.size
  ·have HS:=Lib.hid ((congrArg (zcm c) (zdE s k hlt)).trans (zgg c s[k] (s.data.toList.take k)))
   by_cases hc:s[k]=c
   ·have hb:((s[k].toNat:Int) == (c.toNat:Int))=true:=by rw [hc]; exact beq_self_eq_true _
    have HN:Hid (zcm c (s.data.toList.take (k + 1))=(ls ++ [(s.extract j k).data.toList],(s.data.toList.drop (k + 1)).take (k + 1 - (k + 1)))):=Lib.hid (by
     rw [HS.out,HL.out]; unfold zaZ; rw [if_pos hc,HX.out]; simp)
    clear hc HS HL
    go_wp2_with (at_builtin; refine zaY rfl (.tmp 19) (.tmp 24) rfl w.heap.size _ ls [(s.extract j k).data.toList] rfl (hrow.alloc _) _ _ _ rfl rfl (news1S _ _) (by simp; omega) (by simp; omega) ?_; intro v1 w1 hr1 hb1)
    go_roundw
    case rel => exact ⟨k + 1,k + 1,_,by omega,by omega,by simp; omega,by go_num,by go_num,hr1,HN,Below.trans (hq.alloc _) hb1⟩
    case measure => simp [intOf]; omega
   ·have hb:((s[k].toNat:Int) == (c.toNat:Int))=false:=by
     rw [beq_eq_false_iff_ne]; intro e; exact hc (UInt8.toNat_inj.1 (by omega))
    have HN:Hid (zcm c (s.data.toList.take (k + 1))=(ls,(s.data.toList.drop j).take (k + 1 - j))):=Lib.hid (by
     rw [HS.out,HL.out]; unfold zaZ; rw [if_neg hc]
     have e1:(s.data.toList.drop j).take (k + 1 - j)=(s.data.toList.drop j).take (k - j) ++ [s[k]]:=by
      rw [show k + 1 - j=(k - j) + 1 from by omega,List.take_succ_eq_append_getElem (by rw [List.length_drop,zap]; omega),List.getElem_drop]
      congr 2
      rw [← at_list s k hlt]
      congr 1; omega
     rw [e1])
    clear hc HS HL
    go_wp2_with fail
    go_roundw
    case rel => exact ⟨k + 1,j,ls,by omega,by omega,by omega,by go_num,rfl,hrow,HN,hq⟩
    case measure => simp [intOf]; omega
  ·obtain rfl:k=s.size:=by omega
   have HN:Hid (zam c s.data.toList=ls ++ [(s.extract j s.size).data.toList]):=Lib.hid (by
    rw [zek,← take_all s s.size hlt,HL.out,HX.out])
   clear HL
   go_wp2_with (at_builtin; refine zaY rfl (.tmp 28) (.tmp 32) rfl w.heap.size _ ls [(s.extract j s.size).data.toList] rfl (hrow.alloc _) _ _ _ rfl rfl (news1S _ _) (by simp; omega) (by simp; omega) ?_; intro v1 w1 hr1 hb1)
   go_ret
   exact ⟨v1,rfl,by rw [HN.out]; exact hr1,Below.trans (hq.alloc _) hb1⟩
end Go.Proofs.YtoefobpnkoifhaaGreatDoor
namespace Go.Proofs.YtoefobpnkoifhaaGreatDoor
open Go.RowKit Go.Shelf
attribute [local go_sem] Oper.semAt_some
def zbz (s:List UInt8):List (List UInt8):=(zam 38 s).filter fun x => !x.isEmpty
theorem zfb (s:List UInt8):zbz s=if (zaw 38 s).2.2=true then (if (zaw 38 s).1=[] then [] else [(zaw 38 s).1]) ++ zbz (zaw 38 s).2.1 else if (zaw 38 s).1=[] then [] else [(zaw 38 s).1]:=by
 unfold zbz
 rw [zcS]
 by_cases h:(zaw 38 s).2.2=true
 ·rw [if_pos h,if_pos h,List.filter_cons]
  cases e:(zaw 38 s).1 <;> simp
 ·rw [if_neg h,if_neg h]
  have h2:=((zf5 38 s).2.2 (by simpa using h)).1
  rw [h2,List.filter_cons]
  cases e:s <;> simp
theorem zaJ {W W':World} (h:Qb W W'):W.grownBy W' none:=⟨h.os,h.tape,h.output,Below.size h,fun k hk _ => Below.block h k hk⟩
theorem zcd {W W':World} (h:Qb W W'):KeepsOthers W W':=KeepsOthers.of_grownBy (zaJ h) (fun j o ej => by cases ej)
def prtM:Value → Value → Nat
 | .string b,.bool true => b.size + 1
 | _,_ => 0
set_option maxHeartbeats 2000000 in
theorem parts_in (n:Nat) (hn:1 ≤ n) (l Bn n₀:Nat) (s:List UInt8) (hs:s.length ≤ 1000000) (J Jx:List (List UInt8) → World → Prop)
  (hJ:∀ pre W W',J pre W → Qb W W' → J pre W')
  (hY:∀ pre x W,J pre W → pre.length < (zbz s).length → YieldAt Fence.wide (n - 1) Tryz.prog l #[.string (S (x.take 1000000))] W fun e W' =>
   (e=.returned (.bool true) ∧ J (pre ++ [x]) W' ∧ Below n₀ W W') ∨ (e=.returned (.bool false) ∧ Jx (pre ++ [x]) W'))
  (W:World) (hBn:W.cell? ⟨Bn,0,none⟩=some (.string (S s))) (h0:J [] W) :
  CallsIn Fence.wide n Tryz.prog 27 #[.func (.yield l) #[] #[],.pointer (some ⟨Bn,0,none⟩)] W fun e W' => (∃ v,e=.returned v) ∧
   ((∃ ys,ys=zbz s ∧ J ys W') ∨ (∃ pre,pre <+: zbz s ∧ Jx pre W')):=by
 refine callsIn_of_wp Tryz.func27 rfl trivial ?_ rfl
 simp only [Tryz.ntmps27,List.size_toArray,List.length_cons,List.length_nil,Nat.reduceAdd,Nat.reduceSub,Array.replicate_succ,Array.replicate_zero,List.push_toArray,List.append_toArray,List.nil_append,List.cons_append]
 gi_wp2
 gi_loopw [3,4] (fun r m wr => ∃ (pre:List (List UInt8)) (q:List UInt8) (b:Bool),r=.string (S q) ∧ m=.bool b ∧ q.length ≤ s.length ∧ zbz s=pre ++ (if b=true then zbz q else []) ∧ J pre wr)
  (fun r m wr => prtM r m)
 case atStart => exact ⟨[],s,true,rfl,rfl,Nat.le_refl _,rfl,h0⟩
 case round =>
  obtain ⟨pre,q,b,rfl,rfl,hq,hx,hJs⟩:=hrel
  cases b with
  | false =>
   gi_wp2
   go_end0
   exact ⟨⟨_,rfl⟩,.inl ⟨pre,by rw [hx]; simp,hJs⟩⟩
  | true =>
   rw [if_pos rfl] at hx
   have hcl:=zf5 38 q
   have hcl2:=ziR 38 q
   by_cases hc:(zaw 38 q).1=[]
   ·have hxs:zbz q=if (zaw 38 q).2.2=true then zbz (zaw 38 q).2.1 else []:=by rw [zfb,if_pos hc,List.nil_append]
    rw [hxs] at hx
    gi_wp2_with (refine ⟨trivial,?_⟩; gi_at_call 11; refine (callsIn_wide.2 (zcL (S q) 38 _ (by rw [zaP]; unfold maxLen; omega))).mono ?_; rintro e w' ⟨rfl,hq1⟩; unfold cutV; try rw [zca])
    refine ⟨fun _ h => (by cases h),?_⟩
    gi_wp2
    go_roundw
    case rel => exact ⟨pre,(zaw 38 q).2.1,(zaw 38 q).2.2,rfl,rfl,by omega,hx,hJ _ _ _ hJs hq1⟩
    case measure =>
     cases hm:(zaw 38 q).2.2
     ·exact Nat.succ_pos _
     ·have:=hcl.2.1 hm
      show (S _).size + 1 < (S _).size + 1
      rw [zaP,zaP]; omega
   ·have hne:(zaw 38 q).1.isEmpty=false:=by cases e:(zaw 38 q).1 with
     | nil => exact absurd e hc
     | cons _ _ => rfl
    have hxs:zbz q=(zaw 38 q).1 :: (if (zaw 38 q).2.2=true then zbz (zaw 38 q).2.1 else []):=by
     rw [zfb,if_neg hc]
     cases (zaw 38 q).2.2 <;> rfl
    rw [hxs] at hx
    gi_wp2_with (refine ⟨trivial,?_⟩; gi_at_call 11; refine (callsIn_wide.2 (zcL (S q) 38 _ (by rw [zaP]; unfold maxLen; omega))).mono ?_; rintro e w' ⟨rfl,hq1⟩; unfold cutV; (try rw [zca]); obtain ⟨fn,tmps,assign,body,hy,hR⟩:=hY pre (zaw 38 q).1 w' (hJ _ _ _ hJs hq1) (by rw [hx]; simp); rw [List.take_of_length_le (by omega)] at hy)
    refine hR.mono ?_
    rintro e W3 (⟨rfl,hJ3,hk3⟩ | ⟨rfl,hJx3⟩)
    ·gi_wp2
     go_roundw
     case rel => exact ⟨pre ++ [(zaw 38 q).1],(zaw 38 q).2.1,(zaw 38 q).2.2,rfl,rfl,by omega,by rw [hx]; simp,hJ3⟩
     case measure =>
      cases hm:(zaw 38 q).2.2
      ·exact Nat.succ_pos _
      ·have:=hcl.2.1 hm
       show (S _).size + 1 < (S _).size + 1
       rw [zaP,zaP]; omega
    ·gi_wp2
     refine bodyPost_ret (results_none rfl _ _ _) rfl ?_
     exact ⟨⟨_,rfl⟩,.inr ⟨pre ++ [(zaw 38 q).1],⟨if (zaw 38 q).2.2=true then zbz (zaw 38 q).2.1 else [],by rw [hx]; simp⟩,hJx3⟩⟩
theorem zhq (n:Nat) (s:List UInt8) (w:World) :
  CallsIn Fence.wide n Tryz.prog 10 #[.string (S s)] w fun e w' => e=.returned (.func (.func 27) #[] #[.pointer (some ⟨w.heap.size,0,none⟩)]) ∧ w'=w.alloc (.cells #[.string (S s)] 9):=by
 refine callsIn_of_wp Tryz.func10 rfl trivial ?_ rfl
 simp only [Tryz.ntmps10,List.size_toArray,List.length_cons,List.length_nil,Nat.reduceAdd,Nat.reduceSub,Array.replicate_succ,Array.replicate_zero,List.push_toArray,List.append_toArray,List.nil_append,List.cons_append]
 gi_wp2
 go_ret
 exact ⟨rfl,rfl⟩
theorem zes (n:Nat) (hn:1 ≤ n) (Bn n₀:Nat) (s:List UInt8) (hs:s.length ≤ 1000000) (w:World) (hBn:Bn < w.heap.size) (hc:w.cell? ⟨Bn,0,none⟩=some (.string (S s))) :
  SeqStopsK Fence.wide n Tryz.prog 27 #[.pointer (some ⟨Bn,0,none⟩)] (fun x:List UInt8 => #[Value.string (S (x.take 1000000))]) (Below n₀) (fun ys => ys=zbz s) (fun pre => pre <+: zbz s) (zbz s).length w:=fun l J Jx W hW hJ _ hY h0 =>
 parts_in n hn l Bn n₀ s hs J Jx (fun pre A B hp hq => hJ _ _ _ none hp (zaJ hq) (fun r e => by cases e)) hY W ((hW.cell (p:=⟨Bn,0,none⟩) hBn).trans hc) h0
end Go.Proofs.YtoefobpnkoifhaaGreatDoor
namespace Go.Proofs.YtoefobpnkoifhaaGreatDoor
end Go.Proofs.YtoefobpnkoifhaaGreatDoor
namespace Go.Proofs.YtoefobpnkoifhaaGreatDoor
end Go.Proofs.YtoefobpnkoifhaaGreatDoor
namespace Go.Proofs.YtoefobpnkoifhaaGreatDoor
open Go.RowKit
end Go.Proofs.YtoefobpnkoifhaaGreatDoor
namespace Go.Proofs.YtoefobpnkoifhaaGreatDoor
open Go.RowKit
end Go.Proofs.YtoefobpnkoifhaaGreatDoor
namespace Go.Proofs.YtoefobpnkoifhaaGreatDoor
open Go.RowKit
end Go.Proofs.YtoefobpnkoifhaaGreatDoor
namespace Go.Proofs.YtoefobpnkoifhaaGreatDoor
open Go.RowKit
theorem zce (c:UInt8):∀ (l x:List UInt8),x ∈ zam c l → x.length ≤ l.length
 | [],x,h => by simp [zam] at h; subst h; simp
 | y :: t,x,h => by
  rw [zbB] at h
  by_cases hy:y=c
  ·rw [if_pos hy] at h
   rcases List.mem_cons.1 h with rfl | h
   ·simp
   ·have:=zce c t x h; simp; omega
  ·obtain ⟨p,ps,e⟩:=za6 c t
   have ih:=zce c t
   rw [if_neg hy,e] at h
   rw [e] at ih
   rcases List.mem_cons.1 h with rfl | h
   ·have:=ih p (by simp); simp; omega
   ·have:=ih x (List.mem_cons_of_mem _ h); simp; omega
end Go.Proofs.YtoefobpnkoifhaaGreatDoor
namespace Go.Proofs.YtoefobpnkoifhaaGreatDoor
open Go.RowKit Go.Shelf
attribute [local go_sem] Oper.semAt_some
def zeh (x:List UInt8):List (List UInt8 × List UInt8):=if (zcP (zaw 61 x).2.1).1=0 then [((zaw 61 x).1,(zcP (zaw 61 x).2.1).2)] else []
def zgq (l:List (List UInt8)):List (List UInt8 × List UInt8):=l.flatMap fun x => zeh (x.take 1000000)
def zdo (l:List (List UInt8)):List (List UInt8 × List UInt8):=l.flatMap zeh
theorem zhr (l:List (List UInt8)) (x:List UInt8):zgq (l ++ [x])=zgq l ++ zeh (x.take 1000000):=by simp [zgq]
theorem parT_len (l:List (List UInt8)):(zgq l).length ≤ l.length:=by
 induction l with
 | nil => exact Nat.le_refl _
 | cons a l ih =>
  rw [show zgq (a :: l)=zeh (a.take 1000000) ++ zgq l from rfl,List.length_append,List.length_cons]
  have:(zeh (a.take 1000000)).length ≤ 1:=by unfold zeh; split <;> simp
  omega
theorem parT_eq {s:List UInt8} (hs:s.length ≤ 1000000):zgq (zbz s)=zdo (zbz s):=by
 have h:∀ l:List (List UInt8),(∀ x ∈ l,x.length ≤ 1000000) → zgq l=zdo l:=by
  intro l
  induction l with
  | nil => exact fun _ => rfl
  | cons a l ih =>
   intro h
   show zeh (a.take 1000000) ++ zgq l=zeh a ++ zdo l
   rw [ih fun x hx => h x (List.mem_cons_of_mem _ hx),List.take_of_length_le (h a (List.mem_cons_self ..))]
 exact h _ fun x hx => Nat.le_trans (zce 38 s x (List.mem_filter.1 hx).1) hs
def fvs (l:List (List UInt8 × List UInt8)):List Value:=l.flatMap fun p => [.string (S p.1),.string (S p.2)]
theorem zcc (v:Value):v.ownBlock=none ∨ v.ownBlock ≠ none:=Decidable.em _
theorem fvs_snoc (l:List (List UInt8 × List UInt8)) (a b:List UInt8):fvs (l ++ [(a,b)])=fvs l ++ [.string (S a),.string (S b)]:=by simp [fvs]
theorem zfa (s:List UInt8):(zbz s).length ≤ s.length + 1:=Nat.le_trans (List.length_filter_le _ _) (zbR 38 s)
theorem Tryz.infoF:(Tryz.prog.info? 41).map (fun i => (i.zero,i.size,i.bytes))=some (some (.agg #[.string ⟨#[]⟩,.string ⟨#[]⟩]),2,32):=by kernel_rfl
set_option maxHeartbeats 4000000 in
theorem zgp (s:List UInt8) (hs:s.length ≤ 1000000) (w:World) :
  Calls Tryz.prog 6 #[.string (S s)] w fun e W' => ∃ v,e=.returned v ∧ W'.ownsRow w.heap.size 41 2 v (zdo (zbz s)).length (fvs (zdo (zbz s))) ∧ Qb w W':=by
 refine (callsIn_wide (n:=3)).1 ?_
 obtain ⟨i0,hi,hz0,hz1,hz2⟩:=info_parts Tryz.infoF
 refine callsIn_of_wp_marks Tryz.func6 rfl trivial ?_ rfl
 simp only [Tryz.ntmps6,List.size_toArray,List.length_cons,List.length_nil,Nat.reduceAdd,Nat.reduceSub,Array.replicate_succ,Array.replicate_zero,List.push_toArray,List.append_toArray,List.nil_append,List.cons_append]
 gi_wp2_with (refine ⟨trivial,?_⟩; gi_at_call 10; refine (zhq _ s _).mono ?_; rintro e w' ⟨rfl,rfl⟩)
 have bO:=Boxed.new w 24 (.slice none 0 0)
 have bN:=Boxed.new (w.alloc (.cells #[.slice none 0 0] 24)) 9 (.string (S s))
 rw [World.size_alloc] at bN
 have hB0:Below w.heap.size w ((w.alloc (.cells #[.slice none 0 0] 24)).alloc (.cells #[.string (S s)] 9)):=((Below.refl _ w).alloc (Nat.le_refl _) _).alloc (by simp) _
 refine wpIn_rangeFunc_ownG rfl (by decide) (gf:=27) (lb:=#[.pointer (some ⟨w.heap.size + 1,0,none⟩)]) rfl trivial (enters_of Tryz.func27 (by kernel_rfl) rfl)
  (zes _ (by decide) (w.heap.size + 1) w.heap.size s hs _ (by simp) bN.cell) belowK_t (belowK_b (by simp; omega)) (Below.refl _ _) (fun _ => rfl)
  (fun pre W => (∃ v,Boxed W w.heap.size 24 v ∧ W.ownsRow w.heap.size 41 2 v (zgq pre).length (fvs (zgq pre)) ∧ True) ∧ Below w.heap.size w W)
  (fun _ _ _ => False)
  (OwnFrom.and (Own.from (holdsRow_own w.heap.size w.heap.size 24 41 2 (fun pre => (zgq pre).length) (fun pre => fvs (zgq pre)) (fun pre v => True)) _) (ownFrom_below (Nat.le_refl _) (by simp; omega)))
  (fun _ _ _ _ _ hs _ _ => hs)
  ⟨⟨_,bO.alloc _,World.ownsRow_nil _ _ _ _,trivial⟩,hB0⟩
  (fun x => { tmps:=#[.string (S s),undef,.slice none 0 0,.pointer (some ⟨w.heap.size,0,none⟩),.string (S (x.take 1000000)),undef,undef,undef,undef,undef,.string (S s),.func (.func 27) #[] #[.pointer (some ⟨w.heap.size + 1,0,none⟩)],.string (S (x.take 1000000)),undef,undef,undef,undef,undef,undef,undef,undef,undef,undef,undef,undef,undef,undef,undef,undef,undef,undef,undef,undef],defers:=[] }) ?assign ?body ?done ?stop
 case assign =>
  intro l x W K hK
  gi_wp2
  exact hK
 case body =>
  rintro l pre x W ⟨⟨v,hv,hrow,-⟩,hB⟩ hlt
  have hpl:=parT_len pre
  have hsl:=zfa s
  have hsn:=zhr pre x
  have hxl:(x.take 1000000).length ≤ 1000000:=by rw [List.length_take]; omega
  revert hxl hsn
  generalize x.take 1000000=y
  intro hsn hxl
  by_cases hd:(zcP (zaw 61 y).2.1).1=0
  ·have hdb:((zcP (zaw 61 y).2.1).1 == (0:Int))=true:=by rw [hd]; rfl
   have ho:zeh y=[((zaw 61 y).1,(zcP (zaw 61 y).2.1).2)]:=if_pos hd
   rw [ho] at hsn
   clear hd ho
   gi_wp2_with (first
    | (refine ⟨trivial,?_⟩; gi_at_call 11; refine (CallsIn.inRound l (callsIn_wide.2 (zcL (S y) 61 _ (by rw [zaP]; unfold maxLen; omega)))).mono ?_; rintro e w1 ⟨rfl,hq1⟩; unfold cutV; (try rw [zca]); have hvA:=hv.kept (zaJ hq1) (by simp); have hrA:=hrow.kept (zaJ hq1) (zcc v); have hzA:=Nat.le_trans hB.size (Below.size hq1))
    | (refine ⟨trivial,?_⟩; gi_at_call 12; refine (CallsIn.inRound l (callsIn_wide.2 (zcw (S (zaw 61 y).2.1) _))).mono ?_; rintro e w2 ⟨rfl,hq2⟩; unfold resV; (try rw [zca]); have hvB:=hvA.kept (zaJ hq2) (by simp); have hrB:=hrA.kept (zaJ hq2) (zcc v); have hcB:=hvB.cell; have hzB:=Nat.le_trans hzA (Below.size hq2))
    | (gi_at_builtin; refine wpListIn_append_own _ rfl _ _ 24 rfl w.heap.size 41 i0 (.agg #[.string ⟨#[]⟩,.string ⟨#[]⟩]) 2 32 Tryz.underlying24 hi hz0 hz1 hz2 rfl (by decide) _ _ _ rfl (hrB.alloc _) ⟨w2.heap.size,0,none⟩ 1 1 [.string (S (zaw 61 y).1),.string (S (zcP (zaw 61 y).2.1).2)] rfl rfl (cell_two_new _ _ _ _) (by simp [Value.oneCell']) (by unfold maxLen; omega) (by omega) (by simp; omega) ?_; intro v' w3 hown' hgrow _; obtain ⟨g',cap',rfl⟩:=ownsRow_succ hown'; obtain ⟨hv1,hv2,hr2,hk2,hb2⟩:=hvB.appended (by decide) hrB hzB (Nat.le_refl _) hown' hgrow; have hc1:=hv1.cell; have hf1:=hv1.frozen))
   have hb3:Below w.heap.size W w2:=Below.trans (Below.mono hq1 hB.size) (Below.mono hq2 hzA)
   exact ⟨(((zcd hq1).trans (zcd hq2)).trans hk2).from _,hb3.trans hb2,⟨⟨_,hv2,by rw [hsn,fvs_snoc,List.length_append]; exact hr2,trivial⟩,hB.trans (hb3.trans hb2)⟩⟩
  ·have hdb:((zcP (zaw 61 y).2.1).1 == (0:Int))=false:=by rw [beq_eq_false_iff_ne]; exact hd
   have ho:zeh y=[]:=if_neg hd
   rw [ho,List.append_nil] at hsn
   clear hd ho
   gi_wp2_with (first
    | (refine ⟨trivial,?_⟩; gi_at_call 11; refine (CallsIn.inRound l (callsIn_wide.2 (zcL (S y) 61 _ (by rw [zaP]; unfold maxLen; omega)))).mono ?_; rintro e w1 ⟨rfl,hq1⟩; unfold cutV; (try rw [zca]); have hvA:=hv.kept (zaJ hq1) (by simp); have hrA:=hrow.kept (zaJ hq1) (zcc v); have hzA:=Nat.le_trans hB.size (Below.size hq1))
    | (refine ⟨trivial,?_⟩; gi_at_call 12; refine (CallsIn.inRound l (callsIn_wide.2 (zcw (S (zaw 61 y).2.1) _))).mono ?_; rintro e w2 ⟨rfl,hq2⟩; unfold resV; (try rw [zca]); have hvB:=hvA.kept (zaJ hq2) (by simp); have hrB:=hrA.kept (zaJ hq2) (zcc v)))
   have hb3:Below w.heap.size W w2:=Below.trans (Below.mono hq1 hB.size) (Below.mono hq2 hzA)
   exact ⟨((zcd hq1).trans (zcd hq2)).from _,hb3,⟨⟨_,hvB,by rw [hsn]; exact hrB,trivial⟩,hB.trans hb3⟩⟩
 case done =>
  rintro D ys W hD rfl ⟨⟨v,hv,hrow,-⟩,hB⟩ hK
  have hc:=hv.cell
  gi_wp2
  refine ⟨by simp,.inl ⟨_,_,rfl,run_takeDeferred hK,?_⟩⟩
  rw [parT_eq hs] at hrow
  exact ⟨_,results_tmp rfl _ _ _,v,rfl,ownsRow_putObj hrow _ hK rfl,hB.trans (belowK_b (w:=w) (Nat.le_refl _) W D _ _ (by simp at hD; omega) hK rfl rfl)⟩
 case stop =>
  rintro D c pre W _ _ h _
  exact h.elim
end Go.Proofs.YtoefobpnkoifhaaGreatDoor
namespace Go.Proofs.YtoefobpnkoifhaaGreatDoor.Sx
open Go.RowKit
inductive AV where
 | s (l:List UInt8)
 | i (k:IntKind) (n:Int)
 | b (x:Bool)
 | agg (cs:List AV)
 | tup (cs:List AV)
 | p (b off:Nat)
 | row (n:Nat) (xs:List AV)
 | prow (xs:List AV) (j:Nat)
 | crow (n:Nat) (xs:List AV)
 | orow (b gen:Nat)
 | porow (b gen j:Nat)
 | bsl (b off n:Nat)
 | m (b:Nat)
 | zn (b:Bool)
 | nil
 | fn (f:Nat) (first caps:List AV)
 | o (v:Value)
 | u
inductive OB where
 | box (T:TypeId) (cs:List AV)
 | orow (E sz gen n:Nat) (xs:List AV)
 | mp (es:List (List UInt8 × AV))
 | dead
structure Gh where
 blk:Nat → Option Nat
 cur:Nat → Option (Nat × Value)
def Gh.own (G:Gh) (b:Nat):Option Nat :=
 match G.blk b with
 | some g => some g
 | none => match G.cur b with
  | some p => p.2.ownBlock
  | none => none
theorem zai {G:Gh} {b g:Nat} (h:G.blk b=some g):G.own b=some g:=by simp [Gh.own,h]
theorem zaG {G:Gh} {b n:Nat} {v:Value} (h:G.blk b=none) (h':G.cur b=some (n,v)):G.own b=v.ownBlock:=by simp [Gh.own,h,h']
abbrev Imm:=Nat → Nat → Value → Prop
mutual
def Den (G:Gh) (I:Imm):AV → Value → Prop
 | .s l,y => y=.string ⟨l.toArray⟩
 | .i k n,y => y=.int k n
 | .b x,y => y=.bool x
 | .agg cs,y => ∃ ys,y=.agg ys.toArray ∧ zac G I cs ys ∧ ∀ u ∈ ys,u.oneCell'=true
 | .tup cs,y => ∃ ys,y=.tuple ys.toArray ∧ zac G I cs ys
 | .p b off,y => ∃ g,G.blk b=some g ∧ y=.pointer (some ⟨g,off,none⟩)
 | .row n xs,y => ∃ a c ys,y=.slice a n c ∧ (n ≤ c ∧ ∀ ad:Addr,a=some ad → c ≠ 0 → ad.spot=none) ∧ zac G I xs ys ∧ (∀ u ∈ ys,u.oneCell'=true) ∧ ∀ j u,ys[j]? = some u → ∃ g off,a=some ⟨g,off,none⟩ ∧ I g (off + j) u
 | .prow xs j,y => ∃ g off ys,y=.pointer (some ⟨g,off + j,none⟩) ∧ zac G I xs ys ∧ (∀ u ∈ ys,u.oneCell'=true) ∧ ∀ j u,ys[j]? = some u → I g (off + j) u
 | .crow n xs,y => ∃ a ys,y=.slice a n n ∧ (∀ ad:Addr,a=some ad → n ≠ 0 → ad.spot=none) ∧ zac G I xs ys ∧ (∀ u ∈ ys,u.oneCell'=true) ∧ ∀ j u,ys[j]? = some u → ∃ g off,a=some ⟨g,off,none⟩ ∧ I g (off + j) u
 | .orow b gen,y => ∃ g' v,G.cur b=some (g',v) ∧ gen ≤ g' ∧ (gen=g' → y=v) ∧ y.oneCell'=true
 | .porow b gen j,y => ∃ g' v g,G.cur b=some (g',v) ∧ gen ≤ g' ∧ y=.pointer (some ⟨g,j,none⟩) ∧ (gen=g' → ∃ n c,v=.slice (some ⟨g,0,none⟩) n c)
 | .bsl b off n,y => ∃ g c,G.blk b=some g ∧ y=.slice (some ⟨g,off,none⟩) n c ∧ n ≤ c
 | .m b,y => ∃ g,G.blk b=some g ∧ y=.map (some g)
 | .zn b,y => ∃ a c,y=.slice a 0 c ∧ a.isNone=b ∧ ∀ ad:Addr,a=some ad → c ≠ 0 → ad.spot=none
 | .nil,y => y=.slice none 0 0
 | .fn f fs cs,y => ∃ us ys,y=.func (.func f) us.toArray ys.toArray ∧ zac G I fs us ∧ zac G I cs ys
 | .o v,y => y=v
 | .u,y => True
def zac (G:Gh) (I:Imm):List AV → List Value → Prop
 | [],ys => ys=[]
 | x :: xs,ys => ∃ y ys',ys=y :: ys' ∧ Den G I x y ∧ zac G I xs ys'
end
structure Gh.le (G G':Gh):Prop where
 blk:∀ b g,G.blk b=some g → G'.blk b=some g
 cur:∀ b n v,G.cur b=some (n,v) → ∃ n' v',G'.cur b=some (n',v') ∧ (n'=n ∧ v'=v ∨ n < n')
theorem Gh.le.refl (G:Gh):G.le G:=⟨fun _ _ h => h,fun _ n v h => ⟨n,v,h,.inl ⟨rfl,rfl⟩⟩⟩
theorem Gh.le.trans {a b c:Gh} (h:a.le b) (k:b.le c):a.le c:=by
 refine ⟨fun x g hx => k.blk x g (h.blk x g hx),fun x n v hx => ?_⟩
 obtain ⟨n1,v1,h1,h2⟩:=h.cur x n v hx
 obtain ⟨n2,v2,h3,h4⟩:=k.cur x n1 v1 h1
 refine ⟨n2,v2,h3,?_⟩
 rcases h2 with ⟨rfl,rfl⟩ | h2
 ·exact h4
 ·rcases h4 with ⟨rfl,_⟩ | h4
  ·exact .inr h2
  ·exact .inr (by omega)
def Imm.le (I I':Imm):Prop:=∀ g o v,I g o v → I' g o v
mutual
theorem Den.mono {G G':Gh} {I I':Imm} (hG:G.le G') (hI:Imm.le I I'):∀ (x:AV) (y:Value),Den G I x y → Den G' I' x y
 | .s l,y,h => by simpa [Den] using h
 | .i k n,y,h => by simpa [Den] using h
 | .b x,y,h => by simpa [Den] using h
 | .agg cs,y,h => by
  simp only [Den] at h ⊢
  obtain ⟨ys,h1,h2,h3⟩:=h
  exact ⟨ys,h1,zac.mono hG hI cs ys h2,h3⟩
 | .tup cs,y,h => by
  simp only [Den] at h ⊢
  obtain ⟨ys,h1,h2⟩:=h
  exact ⟨ys,h1,zac.mono hG hI cs ys h2⟩
 | .p b off,y,h => by
  simp only [Den] at h ⊢
  obtain ⟨g,h1,h2⟩:=h
  exact ⟨g,hG.blk _ _ h1,h2⟩
 | .row n xs,y,h => by
  simp only [Den] at h ⊢
  obtain ⟨a,c,ys,h1,h2,h3,h4,h5⟩:=h
  refine ⟨a,c,ys,h1,h2,zac.mono hG hI xs ys h3,h4,fun j u hj => ?_⟩
  obtain ⟨g,off,e,hi⟩:=h5 j u hj
  exact ⟨g,off,e,hI _ _ _ hi⟩
 | .prow xs j,y,h => by
  simp only [Den] at h ⊢
  obtain ⟨g,off,ys,h1,h3,h4,h5⟩:=h
  exact ⟨g,off,ys,h1,zac.mono hG hI xs ys h3,h4,fun j u hj => hI _ _ _ (h5 j u hj)⟩
 | .crow n xs,y,h => by
  simp only [Den] at h ⊢
  obtain ⟨a,ys,h1,h2,h3,h4,h5⟩:=h
  refine ⟨a,ys,h1,h2,zac.mono hG hI xs ys h3,h4,fun j u hj => ?_⟩
  obtain ⟨g,off,e,hi⟩:=h5 j u hj
  exact ⟨g,off,e,hI _ _ _ hi⟩
 | .orow b gen,y,h => by
  simp only [Den] at h ⊢
  obtain ⟨g',v,h1,h2,h3,h0⟩:=h
  obtain ⟨n',v',e,h4⟩:=hG.cur _ _ _ h1
  refine ⟨n',v',e,?_,?_,h0⟩
  ·rcases h4 with ⟨rfl,_⟩ | h4 <;> omega
  ·rcases h4 with ⟨rfl,rfl⟩ | h4
   ·exact h3
   ·intro e; omega
 | .porow b gen j,y,h => by
  simp only [Den] at h ⊢
  obtain ⟨g',v,g,h1,h2,h0,h3⟩:=h
  obtain ⟨n',v',e,h4⟩:=hG.cur _ _ _ h1
  refine ⟨n',v',g,e,?_,h0,?_⟩
  ·rcases h4 with ⟨rfl,_⟩ | h4 <;> omega
  ·rcases h4 with ⟨rfl,rfl⟩ | h4
   ·exact h3
   ·intro e; omega
 | .bsl b off n,y,h => by
  simp only [Den] at h ⊢
  obtain ⟨g,c,h1,h2⟩:=h
  exact ⟨g,c,hG.blk _ _ h1,h2⟩
 | .m b,y,h => by
  simp only [Den] at h ⊢
  obtain ⟨g,h1,h2⟩:=h
  exact ⟨g,hG.blk _ _ h1,h2⟩
 | .zn b,y,h => by simpa [Den] using h
 | .nil,y,h => by simpa [Den] using h
 | .fn f fs cs,y,h => by
  simp only [Den] at h ⊢
  obtain ⟨us,ys,h1,h2,h3⟩:=h
  exact ⟨us,ys,h1,zac.mono hG hI fs us h2,zac.mono hG hI cs ys h3⟩
 | .o v,y,h => by simpa [Den] using h
 | .u,y,h => by simp [Den]
theorem zac.mono {G G':Gh} {I I':Imm} (hG:G.le G') (hI:Imm.le I I'):∀ (xs:List AV) (ys:List Value),zac G I xs ys → zac G' I' xs ys
 | [],ys,h => by simpa [zac] using h
 | x :: xs,ys,h => by
  simp only [zac] at h ⊢
  obtain ⟨y,ys',h1,h2,h3⟩:=h
  exact ⟨y,ys',h1,Den.mono hG hI x y h2,zac.mono hG hI xs ys' h3⟩
end
theorem zac.length {G:Gh} {I:Imm}:∀ {xs:List AV} {ys:List Value},zac G I xs ys → xs.length=ys.length
 | [],ys,h => by simp only [zac] at h; subst h; rfl
 | x :: xs,ys,h => by
  simp only [zac] at h
  obtain ⟨y,ys',rfl,_,h3⟩:=h
  simp [zac.length h3]
theorem zac.get {G:Gh} {I:Imm}:∀ {xs:List AV} {ys:List Value} (j:Nat) {x:AV},zac G I xs ys → xs[j]? = some x → ∃ y,ys[j]? = some y ∧ Den G I x y
 | [],ys,j,x,h,hx => by simp at hx
 | z :: xs,ys,j,x,h,hx => by
  simp only [zac] at h
  obtain ⟨y,ys',rfl,h2,h3⟩:=h
  cases j with
  | zero => simp at hx; subst hx; exact ⟨y,rfl,h2⟩
  | succ j => simpa using zac.get j h3 (by simpa using hx)
theorem zac.set {G:Gh} {I:Imm}:∀ {xs:List AV} {ys:List Value} (j:Nat) {x:AV} {y:Value},zac G I xs ys → Den G I x y → zac G I (xs.set j x) (ys.set j y)
 | [],ys,j,x,y,h,hx => by simp only [zac] at h; subst h; simp [zac]
 | z :: xs,ys,j,x,y,h,hx => by
  simp only [zac] at h
  obtain ⟨y',ys',rfl,h2,h3⟩:=h
  cases j with
  | zero => simp only [List.set_cons_zero,zac]; exact ⟨_,_,rfl,hx,h3⟩
  | succ j => simp only [List.set_cons_succ,zac]; exact ⟨_,_,rfl,h2,zac.set j h3 hx⟩
theorem zac.append {G:Gh} {I:Imm}:∀ {xs:List AV} {ys:List Value} {xs':List AV} {ys':List Value},zac G I xs ys → zac G I xs' ys' → zac G I (xs ++ xs') (ys ++ ys')
 | [],ys,xs',ys',h,h' => by simp only [zac] at h; subst h; simpa using h'
 | z :: xs,ys,xs',ys',h,h' => by
  simp only [zac] at h
  obtain ⟨y,ys1,rfl,h2,h3⟩:=h
  simp only [List.cons_append,zac]
  exact ⟨_,_,rfl,h2,zac.append h3 h'⟩
theorem zac.drop {G:Gh} {I:Imm}:∀ {xs:List AV} {ys:List Value} (k:Nat),zac G I xs ys → zac G I (xs.drop k) (ys.drop k)
 | xs,ys,0,h => by simpa using h
 | [],ys,k + 1,h => by simp only [zac] at h; subst h; simp [zac]
 | z :: xs,ys,k + 1,h => by
  simp only [zac] at h
  obtain ⟨y,ys1,rfl,h2,h3⟩:=h
  simpa using zac.drop k h3
theorem zac.take {G:Gh} {I:Imm}:∀ {xs:List AV} {ys:List Value} (k:Nat),zac G I xs ys → zac G I (xs.take k) (ys.take k)
 | xs,ys,0,h => by simp [zac]
 | [],ys,k + 1,h => by simp only [zac] at h; subst h; simp [zac]
 | z :: xs,ys,k + 1,h => by
  simp only [zac] at h
  obtain ⟨y,ys1,rfl,h2,h3⟩:=h
  simp only [List.take_succ_cons,zac]
  exact ⟨_,_,rfl,h2,zac.take k h3⟩
theorem zac.cons {G:Gh} {I:Imm} {x:AV} {xs:List AV} {y:Value} {ys:List Value} (h:Den G I x y) (h':zac G I xs ys):zac G I (x :: xs) (y :: ys):=by
 simp only [zac]; exact ⟨_,_,rfl,h,h'⟩
theorem zac.nil {G:Gh} {I:Imm}:zac G I [] []:=by simp [zac]
structure Cx where
 w:World
 own:Nat → Prop
 I:Imm
 gh:Gh
structure In (C:Cx) (G:Gh) (I:Imm) (w:World):Prop where
 os:w.os=C.w.os
 tape:w.tape=C.w.tape
 output:w.output=C.w.output
 size:C.w.heap.size ≤ w.heap.size
 block:∀ k,k < C.w.heap.size → ¬ C.own k → w.heap[k]? = C.w.heap[k]?
 imm:Imm.le C.I I
 news:∀ g o v,I g o v → C.I g o v ∨ C.own g ∨ C.w.heap.size ≤ g
 blk:∀ b g,G.own b=some g → C.own g ∨ C.w.heap.size ≤ g
 gh:C.gh.le G
def Ents (G:Gh) (I:Imm) (es:List (List UInt8 × AV)) (en:List MapEntry):Prop :=
 en.map (·.key)=es.map (fun e => Value.string ⟨e.1.toArray⟩) ∧ zac G I (es.map (·.2)) (en.map (·.val)) ∧ ∀ u ∈ en.map (·.val),u.oneCell'=true
theorem Ents.mono {G G':Gh} {I I':Imm} (hG:G.le G') (hI:Imm.le I I') {es:List (List UInt8 × AV)} {en:List MapEntry} (h:Ents G I es en):Ents G' I' es en :=
 ⟨h.1,zac.mono hG hI _ _ h.2.1,h.2.2⟩
structure MemOk (G:Gh) (I:Imm) (objs:List OB) (w:World):Prop where
 imm:∀ g o v,I g o v → w.cell? ⟨g,o,none⟩=some v
 box:∀ (b:Nat) T cs,objs[b]? = some (.box T cs) → ∃ g ys,G.blk b=some g ∧ w.heap[g]? = some (.cells ys.toArray T (0,0)) ∧ zac G I cs ys ∧ ∀ u ∈ ys,u.oneCell'=true
 row:∀ (b:Nat) E sz gen n xs,objs[b]? = some (.orow E sz gen n xs) → ∃ v ys,G.cur b=some (gen,v) ∧ w.ownsRow 0 E sz v n ys ∧ zac G I xs ys ∧ (∀ u ∈ ys,u.oneCell'=true) ∧ G.blk b=none
 map:∀ (b:Nat) es,objs[b]? = some (.mp es) → ∃ g en ck,G.blk b=some g ∧ w.heap[g]? = some (.map en ck) ∧ Ents G I es en.toList
 inj:∀ b b' g,G.own b=some g → G.own b'=some g → b=b'
 lt:∀ b g,G.own b=some g → g < w.heap.size
 apart:∀ b g o v,G.own b=some g → ¬ I g o v
 fresh:∀ b,objs.length ≤ b → G.blk b=none ∧ G.cur b=none
def Rel (C:Cx) (objs:List OB) (tm:List AV) (a:Act) (w:World):Prop :=
 ∃ G I,In C G I w ∧ MemOk G I objs w ∧ zac G I tm a.tmps.toList ∧ a.defers=[]
abbrev zaq:=Exit → List OB → List AV → Prop
def zcf (C:Cx) (K:zaq) (e:Exit) (a:Act) (w:World):Prop:=∃ objs tm,K e objs tm ∧ Rel C objs tm a w
def WP (P:Program) (C:Cx) (c:Code) (K:zaq) (objs:List OB) (tm:List AV):Prop :=
 ∀ a w,Rel C objs tm a w → c.wp P (zcf C K) a w
theorem zgE {P:Program} {Q:Exit → Act → World → Prop} {c:Code} (I:Nat → Act → World → Prop)
  (round:∀ n a w,I n a w → c.wp P (Exit.then (fun a' w' => ∃ m,m < n ∧ I m a' w') Q) a w):∀ n a w,I n a w → (Code.loop c).wp P Q a w:=by
 intro n a w h₀ b k cs
 have key:∀ n a w,I n a w → ∃ e a' w',Q e a' w' ∧ Arrives P (lone (b.at a (.code c :: .inLoop c :: k)) cs w) b k cs e a' w':=by
  intro n
  induction n using Nat.strongRecOn with
  | _ n ih =>
   intro a w hI
   obtain ⟨e,a₁,w₁,hq,harr⟩:=round n a w hI b (.inLoop c :: k) cs
   cases e with
   | normal =>
    obtain ⟨m,hlt,hI₁⟩:=hq
    obtain ⟨e₂,a₂,w₂,hq₂,harr₂⟩:=ih m hlt a₁ w₁ hI₁
    exact ⟨e₂,a₂,w₂,hq₂,.of_steps (Steps.trans harr (.one step_inLoop)) harr₂⟩
   | exit id => exact ⟨_,a₁,w₁,hq,.pass (x:=.inLoop c) rfl (fun _ _ => .inl (by simp)) harr⟩
   | goto l => exact ⟨_,a₁,w₁,hq,.pass (x:=.inLoop c) rfl (fun _ _ => .inl (by simp)) harr⟩
   | ret => exact ⟨_,a₁,w₁,hq,.pass (x:=.inLoop c) rfl (fun _ _ => .inl (by simp)) harr⟩
   | panic ch => exact ⟨_,a₁,w₁,hq,.pass (x:=.inLoop c) rfl (fun _ _ => .inl (by simp)) harr⟩
   | outgrown => exact ⟨_,a₁,w₁,hq,.pass (x:=.inLoop c) rfl (fun _ _ => .inl (by simp)) harr⟩
 obtain ⟨e,a',w',hq,harr⟩:=key n a w h₀
 exact ⟨e,a',w',hq,.of_steps (.one step_loop) harr⟩
section
variable {P:Program} {C:Cx} {K:zaq} {objs:List OB} {tm:List AV}
theorem WP.mono {c:Code} {K K':zaq} (h:∀ e objs tm,K e objs tm → K' e objs tm) (hh:WP P C c K objs tm):WP P C c K' objs tm :=
 fun a w hr => wp_mono (hh a w hr) fun e a w ⟨o,t,hk,hr⟩ => ⟨o,t,h _ _ _ hk,hr⟩
theorem WP.skip (h:K .normal objs tm):WP P C .skip K objs tm:=fun a w hr => wp_skip ⟨_,_,h,hr⟩
theorem WP.ret (h:K .ret objs tm):WP P C .ret K objs tm:=fun a w hr => wp_ret ⟨_,_,h,hr⟩
theorem WP.exit {id:Nat} (h:K (.exit id) objs tm):WP P C (.exit id) K objs tm:=fun a w hr => wp_exit ⟨_,_,h,hr⟩
def zdf (N:List OB → List AV → Prop) (K:zaq):zaq
 | .normal,objs,tm => N objs tm
 | e,objs,tm => K e objs tm
theorem WP.seq {x y:Code} (h:WP P C x (zdf (WP P C y K) K) objs tm):WP P C (.seq x y) K objs tm:=by
 intro a w hr
 refine wp_seq (wp_mono (h a w hr) ?_)
 rintro e a w ⟨o,t,hk,hr⟩
 cases e with
 | normal => exact hk a w hr
 | _ => exact ⟨o,t,hk,hr⟩
def blkK (id:Nat) (K:zaq):zaq
 | .exit id',objs,tm => if id'=id then K .normal objs tm else K (.exit id') objs tm
 | e,objs,tm => K e objs tm
theorem WP.block {id:Nat} {c:Code} (h:WP P C c (blkK id K) objs tm):WP P C (.block id c) K objs tm:=by
 intro a w hr
 refine wp_block (wp_mono (h a w hr) ?_)
 rintro e a w ⟨o,t,hk,hr⟩
 cases e with
 | exit id' =>
  simp only [Exit.inBlock,blkK] at hk ⊢
  split at hk
  ·rename_i hid; rw [if_pos hid]; exact ⟨o,t,hk,hr⟩
  ·rename_i hid; rw [if_neg hid]; exact ⟨o,t,hk,hr⟩
 | _ => exact ⟨o,t,hk,hr⟩
theorem WP.loop {c:Code} (J:Nat → List OB → List AV → Prop) (n:Nat) (h0:J n objs tm)
  (round:∀ n objs tm,J n objs tm → WP P C c (zdf (fun o t => ∃ m,m < n ∧ J m o t) K) objs tm):WP P C (.loop c) K objs tm:=by
 intro a w hr
 refine zgE (fun n a w => ∃ o t,J n o t ∧ Rel C o t a w) ?_ n a w ⟨objs,tm,h0,hr⟩
 rintro n a w ⟨o,t,hj,hr⟩
 refine wp_mono (round n o t hj a w hr) ?_
 rintro e a w ⟨o,t,hk,hr⟩
 cases e with
 | normal =>
  obtain ⟨m,hm,hj⟩:=hk
  exact ⟨m,hm,o,t,hj,hr⟩
 | _ => exact ⟨o,t,hk,hr⟩
def ziX:Value → AV
 | .string s => .s s.data.toList
 | .int k n => .i k n
 | .bool x => .b x
 | .slice none 0 0 => .nil
 | v => .o v
def zeM:Value → AV
 | .agg vs => if vs.toList.all (·.oneCell')=true then .agg (vs.toList.map ziX) else .o (.agg vs)
 | v => ziX v
theorem zea (G:Gh) (I:Imm) (v:Value):Den G I (ziX v) v:=by
 unfold ziX
 split
 ·simp [Den]
 ·simp [Den]
 ·simp [Den]
 ·simp [Den]
 ·simp [Den]
theorem zc8 (G:Gh) (I:Imm):∀ l:List Value,zac G I (l.map ziX) l
 | [] => by simp [zac]
 | v :: l => by
  rw [List.map_cons]
  simp only [zac]
  exact ⟨v,l,rfl,zea G I v,zc8 G I l⟩
theorem zcg (G:Gh) (I:Imm) (v:Value):Den G I (zeM v) v:=by
 unfold zeM
 split
 ·rename_i vs
  split
  ·rename_i h
   simp only [Den]
   exact ⟨vs.toList,by simp,zc8 G I _,fun u hu => List.all_eq_true.1 h u hu⟩
  ·simp [Den]
 ·exact zea G I _
inductive SV where
 | t (n:Nat)
 | c (v:AV)
def zad:Operand → SV
 | .tmp t => .t t
 | .const v => .c (zeM v)
 | .global g => .c (.o (.pointer (some ⟨g,0,none⟩)))
 | .func f => .c (.fn f [] [])
def SV.ev (tm:List AV):SV → AV
 | .t n => (tm[n]?).getD .u
 | .c v => v
theorem zaa {G:Gh} {I:Imm} {a:Act} (h:zac G I tm a.tmps.toList) (x:Operand):Den G I ((zad x).ev tm) (a.eval x):=by
 cases x with
 | tmp t =>
  simp only [zad,SV.ev,Act.eval]
  cases ht:tm[t]? with
  | none => simp [Den]
  | some v =>
   obtain ⟨y,h1,h2⟩:=zac.get t h ht
   simp only [Option.getD_some,Array.getD_eq_getD_getElem?]
   rw [Array.getElem?_toList] at h1
   rw [h1]; exact h2
 | const v => exact zcg _ _ _
 | global g => simp [zad,SV.ev,Act.eval,Den]
 | func f => simp only [zad,SV.ev,Act.eval,Den]; exact ⟨[],[],rfl,by simp [zac],by simp [zac]⟩
theorem WP.cond {c:Operand} {x y:Code} {t:Bool} (hc:(zad c).ev tm=.b t) (ht:t=true → WP P C x K objs tm) (hf:t=false → WP P C y K objs tm):WP P C (.cond c x y) K objs tm:=by
 intro a w hr
 have hr':=hr
 obtain ⟨G,I,_,_,hd,_⟩:=hr'
 have h1:=zaa hd c
 rw [hc] at h1
 simp only [Den] at h1
 exact wp_cond_split h1 (fun h => ht h a w hr) (fun h => hf h a w hr)
end
def AV.one:AV → Bool
 | .agg _ | .tup _ | .u => false
 | .o v => v.oneCell'
 | _ => true
def AV.cells:AV → List AV
 | .agg cs => cs
 | v => [v]
def AV.flat:AV → Bool
 | .agg _ => true
 | v => v.one
theorem ziQ {G:Gh} {I:Imm} {x:AV} {y:Value} (h:Den G I x y) (h1:x.one=true):y.oneCell'=true:=by
 cases x with
 | s l => simp only [Den] at h; subst h; rfl
 | i k n => simp only [Den] at h; subst h; rfl
 | b x => simp only [Den] at h; subst h; rfl
 | agg cs => simp [AV.one] at h1
 | tup cs => simp [AV.one] at h1
 | p b off => simp only [Den] at h; obtain ⟨_,_,rfl⟩:=h; rfl
 | row n xs => simp only [Den] at h; obtain ⟨_,_,_,rfl,_⟩:=h; rfl
 | prow xs j => simp only [Den] at h; obtain ⟨_,_,_,rfl,_⟩:=h; rfl
 | crow n xs => simp only [Den] at h; obtain ⟨_,_,rfl,_⟩:=h; rfl
 | orow b gen => simp only [Den] at h; obtain ⟨_,_,_,_,_,h⟩:=h; exact h
 | porow b gen j => simp only [Den] at h; obtain ⟨_,_,_,_,_,rfl,_⟩:=h; rfl
 | bsl b off n => simp only [Den] at h; obtain ⟨_,_,_,rfl,_⟩:=h; rfl
 | m b => simp only [Den] at h; obtain ⟨_,_,rfl⟩:=h; rfl
 | zn b => simp only [Den] at h; obtain ⟨_,_,rfl,_⟩:=h; rfl
 | nil => simp only [Den] at h; subst h; rfl
 | fn f fs cs => simp only [Den] at h; obtain ⟨_,_,rfl,_⟩:=h; rfl
 | o v => simp only [Den] at h; subst h; exact h1
 | u => simp [AV.one] at h1
theorem zbK {G:Gh} {I:Imm} {x:AV} {y:Value} (h:Den G I x y) (h1:x.flat=true):zac G I x.cells y.cells.toList ∧ ∀ u ∈ y.cells.toList,u.oneCell'=true:=by
 cases x with
 | agg cs =>
  simp only [Den] at h
  obtain ⟨ys,rfl,h2,h3⟩:=h
  exact ⟨h2,h3⟩
 | _ =>
  have ho:=ziQ h h1
  have hc:y.cells=#[y]:=by cases y <;> first | rfl | (simp [Value.oneCell'] at ho)
  rw [hc]
  exact ⟨zac.cons h zac.nil,by simpa using ho⟩
def zat (P:Program) (C:Cx) (o:Op) (type:TypeId) (objs:List OB) (tm:List AV) (K:List OB → AV → Prop):Prop :=
 ∀ G I a w,In C G I w → MemOk G I objs w → zac G I tm a.tmps.toList → ∀ (op:Oper) (next:Act → World → Prop) (Q:Exit → Act → World → Prop),op.op=o → op.type=type →
  (∀ objs' v y G' I' w',K objs' v → G.le G' → Imm.le I I' → In C G' I' w' → MemOk G' I' objs' w' → Den G' I' v y → next (a.put op.dst y) w') → op.wp P a w next Q
theorem Imm.le.refl (I:Imm):Imm.le I I:=fun _ _ _ h => h
theorem zar {P:Program} {op:Oper} {a:Act} {w w':World} {next:Act → World → Prop} {Q:Exit → Act → World → Prop} {y:Value}
  (h:(execOp a.eval op).run P w=.ok (.value y) w') (hn:next (a.put op.dst y) w'):op.wp P a w next Q:=by
 unfold Oper.wp; rw [h]; exact hn
theorem zdb {P:Program} {op:Oper} {a:Act} {w w':World} {next:Act → World → Prop} {Q:Exit → Act → World → Prop}
  (h:(execOp a.eval op).run P w=.ok .skip w') (hn:next (a.put op.dst undef) w'):op.wp P a w next Q:=by
 unfold Oper.wp; rw [h]; exact hn
theorem zab {P:Program} {C:Cx} {o:Op} {type:TypeId} {objs:List OB} {tm:List AV} {K:List OB → AV → Prop} (v:AV) (hk:K objs v)
  (h:∀ (G:Gh) (I:Imm) (a:Act) (w:World),MemOk G I objs w → zac G I tm a.tmps.toList → ∀ op:Oper,op.op=o → op.type=type → ∃ y,(execOp a.eval op).run P w=.ok (.value y) w ∧ Den G I v y):zat P C o type objs tm K:=by
 intro G I a w hin hm hd op next Q ho ht hn
 obtain ⟨y,hr,hy⟩:=h G I a w hm hd op ho ht
 exact zar hr (hn objs v y G I w hk (Gh.le.refl G) (Imm.le.refl I) hin hm hy)
def Gh.box (G:Gh) (b g:Nat):Gh:=⟨fun x => if x=b then some g else G.blk x,G.cur⟩
def Gh.row (G:Gh) (b n:Nat) (v:Value):Gh:=⟨G.blk,fun x => if x=b then some (n,v) else G.cur x⟩
theorem Gh.box_own (G:Gh) (b g x:Nat):(G.box b g).own x=if x=b then some g else G.own x:=by
 by_cases h:x=b
 ·simp [Gh.own,Gh.box,h]
 ·simp only [Gh.own,Gh.box,h,if_false]
theorem Gh.row_own (G:Gh) (b n:Nat) (v:Value) (hb:G.blk b=none) (x:Nat):(G.row b n v).own x=if x=b then v.ownBlock else G.own x:=by
 by_cases h:x=b
 ·subst h; simp [Gh.own,Gh.row,hb]
 ·simp only [Gh.own,Gh.row,h,if_false]
theorem In.alloc {C:Cx} {G:Gh} {I:Imm} {w:World} (h:In C G I w) (o:Obj):In C G I (w.alloc o) :=
 ⟨h.os,h.tape,h.output,by simp; have:=h.size; omega,fun k hk hn => (Below.heap_alloc w o k (Nat.lt_of_lt_of_le hk h.size)).trans (h.block k hk hn),h.imm,h.news,h.blk,h.gh⟩
theorem MemOk.alloc {G:Gh} {I:Imm} {objs:List OB} {w:World} (h:MemOk G I objs w) (o:Obj):MemOk G I objs (w.alloc o):=by
 refine ⟨fun g o' v hi => ?_,fun b T cs hb => ?_,fun b E sz gen n xs hb => ?_,fun b es hb => ?_,h.inj,fun b g hb => by simp; have:=h.lt b g hb; omega,h.apart,h.fresh⟩
 ·have h1:=h.imm g o' v hi
  rw [World.cell?_alloc_lt (h:=World.block_lt_of_cell? (h:=h1))]; exact h1
 ·obtain ⟨g,ys,h1,h2,h3,h4⟩:=h.box b T cs hb
  exact ⟨g,ys,h1,(Below.heap_alloc w o g (h.lt b g (zai h1))).trans h2,h3,h4⟩
 ·obtain ⟨v,ys,h1,h2,h3⟩:=h.row b E sz gen n xs hb
  exact ⟨v,ys,h1,World.ownsRow.alloc h2 o,h3⟩
 ·obtain ⟨g,en,ck,h1,h2,h3⟩:=h.map b es hb
  exact ⟨g,en,ck,h1,(Below.heap_alloc w o g (h.lt b g (zai h1))).trans h2,h3⟩
theorem In.ghost {C:Cx} {G G':Gh} {I:Imm} {w:World} (h:In C G I w) (hle:G.le G') (hb:∀ b g,G'.own b=some g → C.own g ∨ C.w.heap.size ≤ g):In C G' I w :=
 ⟨h.os,h.tape,h.output,h.size,h.block,h.imm,h.news,hb,h.gh.trans hle⟩
theorem Gh.box_le {G:Gh} {b g:Nat} (h:G.blk b=none):G.le (G.box b g):=by
 refine ⟨fun x y hx => ?_,fun x n v hx => ⟨n,v,hx,.inl ⟨rfl,rfl⟩⟩⟩
 show (if x=b then _ else _)=_
 rw [if_neg (by rintro rfl; rw [h] at hx; cases hx)]; exact hx
theorem Gh.row_le {G:Gh} {b n:Nat} {v:Value} (h:∀ m u,G.cur b=some (m,u) → m < n):G.le (G.row b n v):=by
 refine ⟨fun x y hx => hx,fun x m u hx => ?_⟩
 by_cases e:x=b
 ·subst e
  exact ⟨n,v,by simp [Gh.row],.inr (h m u hx)⟩
 ·exact ⟨m,u,by show (if x=b then _ else _)=_; rw [if_neg e]; exact hx,.inl ⟨rfl,rfl⟩⟩
theorem newbox {C:Cx} {G:Gh} {I:Imm} {objs:List OB} {w:World} (hin:In C G I w) (h:MemOk G I objs w) (T:TypeId) (cs:List AV) (ys:Array Value) (hd:zac G I cs ys.toList) (h1:∀ u ∈ ys.toList,u.oneCell'=true) :
  ∃ G',G.le G' ∧ In C G' I (w.alloc (.cells ys T)) ∧ MemOk G' I (objs ++ [.box T cs]) (w.alloc (.cells ys T)) ∧ Den G' I (.p objs.length 0) (.pointer (some ⟨w.heap.size,0,none⟩)):=by
 have hf:=h.fresh objs.length (Nat.le_refl _)
 have hle:G.le (G.box objs.length w.heap.size):=Gh.box_le hf.1
 have ha:=h.alloc (.cells ys T)
 have hbl:∀ x y,(G.box objs.length w.heap.size).own x=some y → (x=objs.length ∧ y=w.heap.size) ∨ (x ≠ objs.length ∧ G.own x=some y):=by
  intro x y hx
  rw [Gh.box_own] at hx
  split at hx
  ·rename_i e; injection hx with hx; exact .inl ⟨e,hx.symm⟩
  ·rename_i e; exact .inr ⟨e,hx⟩
 refine ⟨_,hle,(hin.alloc _).ghost hle ?_,⟨ha.imm,?_,?_,?_,?_,?_,?_,?_⟩,?_⟩
 ·intro b g hb
  rcases hbl b g hb with ⟨rfl,rfl⟩ | ⟨_,hb⟩
  ·exact .inr hin.size
  ·exact hin.blk b g hb
 ·intro b T' cs' hb
  rcases Nat.lt_or_ge b objs.length with hlt | hge
  ·rw [List.getElem?_append_left hlt] at hb
   obtain ⟨g,zs,k1,k2,k3,k4⟩:=ha.box b T' cs' hb
   exact ⟨g,zs,hle.blk b g k1,k2,zac.mono hle (Imm.le.refl I) _ _ k3,k4⟩
  ·rw [List.getElem?_append_right hge] at hb
   have hb0:b=objs.length:=by
    rcases Nat.eq_zero_or_pos (b - objs.length) with h0 | h0
    ·omega
    ·rw [List.getElem?_eq_none (by simp; omega)] at hb; cases hb
   subst hb0
   simp at hb
   obtain ⟨rfl,rfl⟩:=hb
   exact ⟨w.heap.size,ys.toList,by simp [Gh.box],by simpa using heap_alloc_new w (.cells ys T),zac.mono hle (Imm.le.refl I) _ _ hd,h1⟩
 ·intro b E sz gen n xs hb
  rcases Nat.lt_or_ge b objs.length with hlt | hge
  ·rw [List.getElem?_append_left hlt] at hb
   obtain ⟨v,zs,k1,k2,k3,k4,k5⟩:=ha.row b E sz gen n xs hb
   refine ⟨v,zs,k1,k2,zac.mono hle (Imm.le.refl I) _ _ k3,k4,?_⟩
   show (if b=objs.length then _ else _)=_; rw [if_neg (by omega)]; exact k5
  ·rw [List.getElem?_append_right hge] at hb
   rcases Nat.eq_zero_or_pos (b - objs.length) with h0 | h0
   ·rw [h0] at hb; simp at hb
   ·rw [List.getElem?_eq_none (by simp; omega)] at hb; cases hb
 ·intro b es hb
  rcases Nat.lt_or_ge b objs.length with hlt | hge
  ·rw [List.getElem?_append_left hlt] at hb
   obtain ⟨g,en,ck,k1,k2,k3⟩:=ha.map b es hb
   exact ⟨g,en,ck,hle.blk b g k1,k2,k3.mono hle (Imm.le.refl I)⟩
  ·rw [List.getElem?_append_right hge] at hb
   rcases Nat.eq_zero_or_pos (b - objs.length) with h0 | h0
   ·rw [h0] at hb; simp at hb
   ·rw [List.getElem?_eq_none (by simp; omega)] at hb; cases hb
 ·intro b b' g hb hb'
  rcases hbl b g hb with ⟨rfl,rfl⟩ | ⟨_,hb⟩ <;> rcases hbl b' _ hb' with ⟨rfl,e⟩ | ⟨_,hb'⟩
  ·rfl
  ·have:=h.lt b' _ hb'; omega
  ·have:=h.lt b _ hb; omega
  ·exact h.inj b b' g hb hb'
 ·intro b g hb
  rcases hbl b g hb with ⟨rfl,rfl⟩ | ⟨_,hb⟩
  ·simp
  ·exact ha.lt b g hb
 ·intro b g o v hb hi
  rcases hbl b g hb with ⟨rfl,rfl⟩ | ⟨_,hb⟩
  ·have:=World.block_lt_of_cell? (h:=h.imm _ _ _ hi)
   simp at this
  ·exact h.apart b g o v hb hi
 ·intro b hb
  simp at hb
  have:=h.fresh b (by omega)
  refine ⟨?_,this.2⟩
  show (if b=objs.length then _ else _)=_
  rw [if_neg (by omega)]; exact this.1
 ·simp only [Den]; exact ⟨w.heap.size,by simp [Gh.box],rfl⟩
theorem newimm {C:Cx} {G:Gh} {I:Imm} {objs:List OB} {w:World} (hin:In C G I w) (h:MemOk G I objs w) (E:TypeId) (xs:List AV) (ys:Array Value) (n:Nat) (hd:zac G I xs ys.toList) (h1:∀ u ∈ ys.toList,u.oneCell'=true) :
  ∃ I',Imm.le I I' ∧ In C G I' (w.alloc (.cells ys E)) ∧ MemOk G I' objs (w.alloc (.cells ys E)) ∧ Den G I' (.row n xs) (.slice (some ⟨w.heap.size,0,none⟩) n n):=by
 have ha:=h.alloc (.cells ys E)
 have hia:=hin.alloc (.cells ys E)
 let I':Imm:=fun g o v => I g o v ∨ (g=w.heap.size ∧ ys.toList[o]? = some v)
 have hle:Imm.le I I':=fun _ _ _ hi => .inl hi
 refine ⟨I',hle,⟨hia.os,hia.tape,hia.output,hia.size,hia.block,fun g o v hi => .inl (hin.imm g o v hi),?_,hia.blk,hia.gh⟩,⟨?_,?_,?_,?_,ha.inj,ha.lt,?_,ha.fresh⟩,?_⟩
 ·rintro g o v (hi | ⟨rfl,_⟩)
  ·exact hin.news g o v hi
  ·exact .inr (.inr hin.size)
 ·rintro g o v (hi | ⟨rfl,hy⟩)
  ·exact ha.imm g o v hi
  ·rw [World.cell?_alloc_new]; simpa using hy
 ·intro b T cs hb
  obtain ⟨g,zs,k1,k2,k3,k4⟩:=ha.box b T cs hb
  exact ⟨g,zs,k1,k2,zac.mono (Gh.le.refl G) hle _ _ k3,k4⟩
 ·intro b E' sz gen m us hb
  obtain ⟨v,zs,k1,k2,k3,k4,k5⟩:=ha.row b E' sz gen m us hb
  exact ⟨v,zs,k1,k2,zac.mono (Gh.le.refl G) hle _ _ k3,k4,k5⟩
 ·intro b es hb
  obtain ⟨g,en,ck,k1,k2,k3⟩:=ha.map b es hb
  exact ⟨g,en,ck,k1,k2,k3.mono (Gh.le.refl G) hle⟩
 ·rintro b g o v hb (hi | ⟨rfl,_⟩)
  ·exact h.apart b g o v hb hi
  ·have:=h.lt b _ hb; omega
 ·simp only [Den]
  refine ⟨some ⟨w.heap.size,0,none⟩,n,ys.toList,rfl,⟨Nat.le_refl _,by rintro _ ⟨⟩ _; rfl⟩,zac.mono (Gh.le.refl G) hle _ _ hd,h1,fun j u hj => ⟨w.heap.size,0,rfl,.inr ⟨rfl,by simpa using hj⟩⟩⟩
theorem zbd (b:Nat) (T:TypeId):∀ (vs:List Value) (o:Nat) (w:World) (cur:List Value),w.heap[b]? = some (.cells cur.toArray T (0,0)) → o + vs.length ≤ cur.length →
  (w.setCells b o vs).heap[b]? = some (.cells (cur.take o ++ vs ++ cur.drop (o + vs.length)).toArray T (0,0)) ∧ (∀ k,k ≠ b → (w.setCells b o vs).heap[k]? = w.heap[k]?) ∧ (w.setCells b o vs).heap.size=w.heap.size ∧ (w.setCells b o vs).os=w.os ∧ (w.setCells b o vs).tape=w.tape ∧ (w.setCells b o vs).output=w.output
 | [],o,w,cur,h,hl => by simpa [World.setCells] using h
 | v :: r,o,w,cur,h,hl => by
  have hs:(w.setCell ⟨b,o,none⟩ v).heap[b]? = some (.cells (cur.set o v).toArray T (0,0)):=by
   simp [World.setCell,Array.getElem?_modify,h]
  simp only [List.length_cons] at hl
  obtain ⟨h1,h2,h3,h4,h5,h6⟩:=zbd b T r (o + 1) (w.setCell ⟨b,o,none⟩ v) (cur.set o v) hs (by simp; omega)
  rw [World.setCells]
  refine ⟨?_,fun k hk => ?_,?_,h4,h5,h6⟩
  ·rw [h1]
   congr 3
   have e1:(cur.set o v).take (o + 1)=cur.take o ++ [v]:=by
    rw [List.take_succ_eq_append_getElem (by simp; omega),List.getElem_set_self,List.take_set_of_le (Nat.le_refl _)]
   have e2:(cur.set o v).drop (o + 1 + r.length)=cur.drop (o + (v :: r).length):=by
    rw [List.drop_set_of_lt (by omega),List.length_cons,show o + 1 + r.length=o + (r.length + 1) by omega]
   rw [e1,e2]; simp
  ·rw [h2 k hk]; exact Below.heap_setCell w _ v k hk
  ·rw [h3]; simp [World.setCell]
def zas {α:Type} (cs:List α) (o:Nat) (vs:List α):List α:=cs.take o ++ vs ++ cs.drop (o + vs.length)
theorem setbox {C:Cx} {G:Gh} {I:Imm} {objs:List OB} {w:World} (hin:In C G I w) (h:MemOk G I objs w) (b g o:Nat) (T:TypeId) (cs vs:List AV) (us:List Value) (hb:objs[b]? = some (.box T cs)) (hg:G.blk b=some g)
  (hd:zac G I vs us) (h1:∀ u ∈ us,u.oneCell'=true) (hl:o + vs.length ≤ cs.length) :
  In C G I (w.setCells g o us) ∧ MemOk G I (objs.set b (.box T (zas cs o vs))) (w.setCells g o us):=by
 obtain ⟨g',ys,k1,k2,k3,k4⟩:=h.box b T cs hb
 obtain rfl:g=g':=Option.some.inj (hg.symm.trans k1)
 have hl1:=k3.length
 have hl2:=hd.length
 obtain ⟨s1,s2,s3,s4,s5,s6⟩:=zbd g T us o w ys k2 (by omega)
 have hblt:b < objs.length:=by
  rcases Nat.lt_or_ge b objs.length with h0 | h0
  ·exact h0
  ·rw [List.getElem?_eq_none h0] at hb; cases hb
 refine ⟨⟨s4.trans hin.os,s5.trans hin.tape,s6.trans hin.output,by rw [s3]; exact hin.size,fun k hk hn => ?_,hin.imm,hin.news,hin.blk,hin.gh⟩,⟨?_,?_,?_,?_,h.inj,fun b' g' hb' => by rw [s3]; exact h.lt b' g' hb',h.apart,?_⟩⟩
 ·rcases hin.blk b g (zai hg) with ho | ho
  ·rw [s2 k (by rintro rfl; exact hn ho)]; exact hin.block k hk hn
  ·rw [s2 k (by omega)]; exact hin.block k hk hn
 ·intro g' o' v hi
  rw [← h.imm g' o' v hi]
  simp only [World.cell?]
  rw [s2 g' (by rintro rfl; exact h.apart b _ o' v (zai hg) hi)]
 ·intro b' T' cs' hb'
  by_cases e:b'=b
  ·subst e
   rw [List.getElem?_set_self hblt] at hb'
   obtain ⟨rfl,rfl⟩:T=T' ∧ zas cs o vs=cs':=by simpa using hb'
   refine ⟨g,_,k1,s1,?_,?_⟩
   ·unfold zas
    rw [hl2]
    exact zac.append (zac.append (zac.take o k3) hd) (zac.drop _ k3)
   ·intro u hu
    rcases List.mem_append.1 hu with hu | hu
    ·rcases List.mem_append.1 hu with hu | hu
     ·exact k4 u (List.mem_of_mem_take hu)
     ·exact h1 u hu
    ·exact k4 u (List.mem_of_mem_drop hu)
  ·rw [List.getElem?_set_ne (fun e' => e e'.symm)] at hb'
   obtain ⟨g2,zs,m1,m2,m3,m4⟩:=h.box b' T' cs' hb'
   exact ⟨g2,zs,m1,(s2 g2 (by rintro rfl; exact e (h.inj _ _ _ (zai m1) (zai hg)))).trans m2,m3,m4⟩
 ·intro b' E sz gen n xs hb'
  by_cases e:b'=b
  ·subst e
   rw [List.getElem?_set_self hblt] at hb'
   simp at hb'
  ·rw [List.getElem?_set_ne (fun e' => e e'.symm)] at hb'
   obtain ⟨v,zs,m1,m2,m3,m4,m5⟩:=h.row b' E sz gen n xs hb'
   refine ⟨v,zs,m1,?_,m3,m4,m5⟩
   obtain ⟨q1,q2⟩:=m2
   refine ⟨q1,?_⟩
   rcases q2 with q2 | ⟨g3,cap,cur,rfl,q3,q4,q5⟩
   ·exact .inl q2
   ·refine .inr ⟨g3,cap,cur,rfl,q3,(s2 g3 ?_).trans q4,q5⟩
    rintro rfl
    refine e (h.inj _ _ _ ?_ (zai hg))
    rw [zaG m5 m1]; rfl
 ·intro b' es hb'
  by_cases e:b'=b
  ·subst e
   rw [List.getElem?_set_self hblt] at hb'
   simp at hb'
  ·rw [List.getElem?_set_ne (fun e' => e e'.symm)] at hb'
   obtain ⟨g2,en,ck,m1,m2,m3⟩:=h.map b' es hb'
   exact ⟨g2,en,ck,m1,(s2 g2 (by rintro rfl; exact e (h.inj _ _ _ (zai m1) (zai hg)))).trans m2,m3⟩
 ·intro b' hb'
  rw [List.length_set] at hb'
  exact h.fresh b' hb'
theorem setrow {C:Cx} {G:Gh} {I:Imm} {objs:List OB} {w:World} (hin:In C G I w) (h:MemOk G I objs w) (b g o:Nat) (E sz gen n cap:Nat) (xs vs:List AV) (us:List Value) (hb:objs[b]? = some (.orow E sz gen n xs)) (hg:G.cur b=some (gen,.slice (some ⟨g,0,none⟩) n cap))
  (hd:zac G I vs us) (h1:∀ u ∈ us,u.oneCell'=true) (hl:o + vs.length ≤ xs.length) :
  In C G I (w.setCells g o us) ∧ MemOk G I (objs.set b (.orow E sz gen n (zas xs o vs))) (w.setCells g o us):=by
 obtain ⟨v,ys,k1,k2,k3,k4,k5⟩:=h.row b E sz gen n xs hb
 obtain rfl:v=.slice (some ⟨g,0,none⟩) n cap:=by rw [hg] at k1; injection k1 with k1; injection k1 with _ k1; exact k1.symm
 have hown:G.own b=some g:=by rw [zaG k5 hg]; rfl
 have hl1:=k3.length
 have hl2:=hd.length
 obtain ⟨q1,q2⟩:=k2
 rcases q2 with ⟨q2,_⟩ | ⟨g',cap',cur,q2,q3,q4,q5,q6,q7,q8⟩
 ·cases q2
 injection q2 with q2 _ q9; injection q2 with q2; injection q2 with q2; subst q2 q9
 have hcl:n * sz ≤ cur.size:=by rw [q7]; exact Nat.mul_le_mul_right _ q5
 have q4':w.heap[g]? = some (.cells cur.toList.toArray E (0,0)):=by simpa using q4
 have hcl':cur.toList.length=cur.size:=by simp
 obtain ⟨s1,s2,s3,s4,s5,s6⟩:=zbd g E us o w cur.toList q4' (by omega)
 have hblt:b < objs.length:=by
  rcases Nat.lt_or_ge b objs.length with h0 | h0
  ·exact h0
  ·rw [List.getElem?_eq_none h0] at hb; cases hb
 refine ⟨⟨s4.trans hin.os,s5.trans hin.tape,s6.trans hin.output,by rw [s3]; exact hin.size,fun k hk hn => ?_,hin.imm,hin.news,hin.blk,hin.gh⟩,⟨?_,?_,?_,?_,h.inj,fun b' g' hb' => by rw [s3]; exact h.lt b' g' hb',h.apart,?_⟩⟩
 ·rcases hin.blk b g hown with ho | ho
  ·rw [s2 k (by rintro rfl; exact hn ho)]; exact hin.block k hk hn
  ·rw [s2 k (by omega)]; exact hin.block k hk hn
 ·intro g' o' v hi
  rw [← h.imm g' o' v hi]
  simp only [World.cell?]
  rw [s2 g' (by rintro rfl; exact h.apart b _ o' v hown hi)]
 ·intro b' T' cs' hb'
  have e:b' ≠ b:=by
   rintro rfl
   rw [List.getElem?_set_self hblt] at hb'
   simp at hb'
  rw [List.getElem?_set_ne (fun e' => e e'.symm)] at hb'
  obtain ⟨g2,zs,m1,m2,m3,m4⟩:=h.box b' T' cs' hb'
  exact ⟨g2,zs,m1,(s2 g2 (by rintro rfl; exact e (h.inj _ _ _ (zai m1) hown))).trans m2,m3,m4⟩
 ·intro b' E' sz' gen' n' xs' hb'
  by_cases e:b'=b
  ·subst e
   rw [List.getElem?_set_self hblt] at hb'
   simp only [Option.some.injEq,OB.orow.injEq] at hb'
   obtain ⟨rfl,rfl,rfl,rfl,rfl⟩:=hb'
   have hsp:(zas ys o us).length=ys.length:=by
    unfold zas
    simp only [List.length_append,List.length_take,List.length_drop]
    omega
   refine ⟨_,zas ys o us,hg,⟨by rw [hsp]; exact q1,.inr ⟨g,cap,_,rfl,q3,s1,q5,q6,?_,?_⟩⟩,?_,?_,k5⟩
   ·rw [← q7]
    simp only [List.size_toArray,List.length_append,List.length_take,List.length_drop]
    omega
   ·rw [List.toList_toArray]
    unfold zas
    have e1:cur.toList.take o=ys.take o:=by rw [← q8,List.take_take,Nat.min_eq_left (by omega)]
    have e2:ys.drop (o + us.length)=(cur.toList.drop (o + us.length)).take (n * sz - (o + us.length)):=by rw [← q8,List.drop_take]
    rw [List.take_append,List.length_append,List.length_take,e2,e1]
    rw [List.take_of_length_le (by simp only [List.length_append,List.length_take]; omega)]
    rw [show n * sz - (min o cur.toList.length + us.length)=n * sz - (o + us.length) by omega]
   ·unfold zas
    rw [hl2]
    exact zac.append (zac.append (zac.take o k3) hd) (zac.drop _ k3)
   ·intro u hu
    unfold zas at hu
    rcases List.mem_append.1 hu with hu | hu
    ·rcases List.mem_append.1 hu with hu | hu
     ·exact k4 u (List.mem_of_mem_take hu)
     ·exact h1 u hu
    ·exact k4 u (List.mem_of_mem_drop hu)
  ·rw [List.getElem?_set_ne (fun e' => e e'.symm)] at hb'
   obtain ⟨v,zs,m1,m2,m3,m4,m5⟩:=h.row b' E' sz' gen' n' xs' hb'
   refine ⟨v,zs,m1,?_,m3,m4,m5⟩
   obtain ⟨q1',q2'⟩:=m2
   refine ⟨q1',?_⟩
   rcases q2' with q2' | ⟨g3,cap',cur',rfl,q3',q4'',q5'⟩
   ·exact .inl q2'
   ·refine .inr ⟨g3,cap',cur',rfl,q3',(s2 g3 ?_).trans q4'',q5'⟩
    rintro rfl
    refine e (h.inj _ _ _ ?_ hown)
    rw [zaG m5 m1]; rfl
 ·intro b' es hb'
  have e:b' ≠ b:=by
   rintro rfl
   rw [List.getElem?_set_self hblt] at hb'
   simp at hb'
  rw [List.getElem?_set_ne (fun e' => e e'.symm)] at hb'
  obtain ⟨g2,en,ck,m1,m2,m3⟩:=h.map b' es hb'
  exact ⟨g2,en,ck,m1,(s2 g2 (by rintro rfl; exact e (h.inj _ _ _ (zai m1) hown))).trans m2,m3⟩
 ·intro b' hb'
  rw [List.length_set] at hb'
  exact h.fresh b' hb'
theorem newmap {C:Cx} {G:Gh} {I:Imm} {objs:List OB} {w:World} (hin:In C G I w) (h:MemOk G I objs w) :
  ∃ G',G.le G' ∧ In C G' I (w.alloc (.map #[] 0)) ∧ MemOk G' I (objs ++ [.mp []]) (w.alloc (.map #[] 0)) ∧ Den G' I (.m objs.length) (.map (some w.heap.size)):=by
 have hf:=h.fresh objs.length (Nat.le_refl _)
 have hle:G.le (G.box objs.length w.heap.size):=Gh.box_le hf.1
 have ha:=h.alloc (.map #[] 0)
 have hbl:∀ x y,(G.box objs.length w.heap.size).own x=some y → (x=objs.length ∧ y=w.heap.size) ∨ (x ≠ objs.length ∧ G.own x=some y):=by
  intro x y hx
  rw [Gh.box_own] at hx
  split at hx
  ·rename_i e; injection hx with hx; exact .inl ⟨e,hx.symm⟩
  ·rename_i e; exact .inr ⟨e,hx⟩
 have hold:∀ (b:Nat) (ob:OB),(objs ++ [OB.mp []])[b]? = some ob → (b < objs.length ∧ objs[b]? = some ob) ∨ (b=objs.length ∧ ob=.mp []):=by
  intro b ob hb
  rcases Nat.lt_or_ge b objs.length with hlt | hge
  ·rw [List.getElem?_append_left hlt] at hb; exact .inl ⟨hlt,hb⟩
  ·rw [List.getElem?_append_right hge] at hb
   rcases Nat.eq_zero_or_pos (b - objs.length) with h0 | h0
   ·rw [h0] at hb; simp at hb; exact .inr ⟨by omega,hb.symm⟩
   ·rw [List.getElem?_eq_none (by simp; omega)] at hb; cases hb
 refine ⟨_,hle,(hin.alloc _).ghost hle ?_,⟨ha.imm,?_,?_,?_,?_,?_,?_,?_⟩,?_⟩
 ·intro b g hb
  rcases hbl b g hb with ⟨rfl,rfl⟩ | ⟨_,hb⟩
  ·exact .inr hin.size
  ·exact hin.blk b g hb
 ·intro b T' cs' hb
  rcases hold b _ hb with ⟨hlt,hb⟩ | ⟨_,hb⟩
  ·obtain ⟨g,zs,k1,k2,k3,k4⟩:=ha.box b T' cs' hb
   exact ⟨g,zs,hle.blk b g k1,k2,zac.mono hle (Imm.le.refl I) _ _ k3,k4⟩
  ·cases hb
 ·intro b E sz gen n xs hb
  rcases hold b _ hb with ⟨hlt,hb⟩ | ⟨_,hb⟩
  ·obtain ⟨v,zs,k1,k2,k3,k4,k5⟩:=ha.row b E sz gen n xs hb
   refine ⟨v,zs,k1,k2,zac.mono hle (Imm.le.refl I) _ _ k3,k4,?_⟩
   show (if b=objs.length then _ else _)=_; rw [if_neg (by omega)]; exact k5
  ·cases hb
 ·intro b es hb
  rcases hold b _ hb with ⟨hlt,hb⟩ | ⟨rfl,hb⟩
  ·obtain ⟨g,en,ck,k1,k2,k3⟩:=ha.map b es hb
   exact ⟨g,en,ck,hle.blk b g k1,k2,k3.mono hle (Imm.le.refl I)⟩
  ·have hb:es=[]:=by simpa using hb
   subst hb
   exact ⟨w.heap.size,#[],0,by simp [Gh.box],by simpa using heap_alloc_new w (.map #[] 0),by simp [Ents,zac]⟩
 ·intro b b' g hb hb'
  rcases hbl b g hb with ⟨rfl,rfl⟩ | ⟨_,hb⟩ <;> rcases hbl b' _ hb' with ⟨rfl,e⟩ | ⟨_,hb'⟩
  ·rfl
  ·have:=h.lt b' _ hb'; omega
  ·have:=h.lt b _ hb; omega
  ·exact h.inj b b' g hb hb'
 ·intro b g hb
  rcases hbl b g hb with ⟨rfl,rfl⟩ | ⟨_,hb⟩
  ·simp
  ·exact ha.lt b g hb
 ·intro b g o v hb hi
  rcases hbl b g hb with ⟨rfl,rfl⟩ | ⟨_,hb⟩
  ·have:=World.block_lt_of_cell? (h:=h.imm _ _ _ hi)
   simp at this
  ·exact h.apart b g o v hb hi
 ·intro b hb
  simp at hb
  have:=h.fresh b (by omega)
  refine ⟨?_,this.2⟩
  show (if b=objs.length then _ else _)=_
  rw [if_neg (by omega)]; exact this.1
 ·simp only [Den]; exact ⟨w.heap.size,by simp [Gh.box],rfl⟩
section
variable {P:Program} {C:Cx} {type:TypeId} {objs:List OB} {tm:List AV} {K:List OB → AV → Prop}
theorem ok_move (x:Operand) (h:K objs ((zad x).ev tm)):zat P C (.move x) type objs tm K :=
 zab _ h fun G I a w hm hd op ho ht => ⟨a.eval x,by unfold execOp; rw [ho]; rfl,zaa hd x⟩
theorem zhC (x:Operand) (h:K objs ((zad x).ev tm)):zat P C (.assign x) type objs tm K :=
 zab _ h fun G I a w hm hd op ho ht => ⟨a.eval x,by unfold execOp; rw [ho]; rfl,zaa hd x⟩
theorem ok_pick (c x y:Operand) (t:Bool) (hc:(zad c).ev tm=.b t) (h1:t=true → K objs ((zad x).ev tm)) (h2:t=false → K objs ((zad y).ev tm)):zat P C (.pick c x y) type objs tm K:=by
 cases t with
 | true =>
  refine zab _ (h1 rfl) fun G I a w hm hd op ho ht => ?_
  have:=zaa hd c
  rw [hc] at this; simp only [Den] at this
  exact ⟨a.eval x,by unfold execOp; rw [ho]; simp [this,asBool],zaa hd x⟩
 | false =>
  refine zab _ (h2 rfl) fun G I a w hm hd op ho ht => ?_
  have:=zaa hd c
  rw [hc] at this; simp only [Den] at this
  exact ⟨a.eval y,by unfold execOp; rw [ho]; simp [this,asBool],zaa hd y⟩
theorem zba (G:Gh) (I:Imm):∀ ys:List Value,zac G I (ys.map zeM) ys
 | [] => zac.nil
 | y :: ys => zac.cons (zcg G I y) (zba G I ys)
theorem ok_alloc (T:TypeId) (i:TypeInfo) (z:Value) (hi:P.info? T=some i) (hz:i.zero=some z) (h1:(z.cells.toList.all (·.oneCell'))=true)
  (h:K (objs ++ [.box T (z.cells.toList.map zeM)]) (.p objs.length 0)):zat P C (.alloc T) type objs tm K:=by
 intro G I a w hin hm hd op next Q ho ht hn
 obtain ⟨G',k1,k2,k3,k4⟩:=newbox hin hm T (z.cells.toList.map zeM) z.cells (zba G I _) (fun u hu => (List.all_eq_true.1 h1) u hu)
 refine zar (w':=w.alloc (.cells z.cells T)) (y:=.pointer (some ⟨w.heap.size,0,none⟩)) ?_ (hn _ _ _ _ _ _ h k1 (Imm.le.refl I) k2 k3 k4)
 unfold execOp; rw [ho]
 simp [Instr.alloc,zeroValue,typeInfo,hi,hz,newVar,newRow]
theorem ok_box (T:TypeId) (x:Operand) (h1:((zad x).ev tm).flat=true) (h:K (objs ++ [.box T ((zad x).ev tm).cells]) (.p objs.length 0)):zat P C (.box T x) type objs tm K:=by
 intro G I a w hin hm hd op next Q ho ht hn
 obtain ⟨d1,d2⟩:=zbK (zaa hd x) h1
 obtain ⟨G',k1,k2,k3,k4⟩:=newbox hin hm T _ (a.eval x).cells d1 d2
 refine zar (w':=w.alloc (.cells (a.eval x).cells T)) (y:=.pointer (some ⟨w.heap.size,0,none⟩)) ?_ (hn _ _ _ _ _ _ h k1 (Imm.le.refl I) k2 k3 k4)
 unfold execOp; rw [ho]
 simp [Instr.box,newVar,newRow]
theorem zak (g j:Nat) (o:Nat):(⟨g,o,none⟩:Addr).add j=⟨g,o + j,none⟩:=Addr.add_mid g o j
theorem ok_load1 (T:TypeId) (x:Operand) (d:TypeDesc) (hu:P.underlying T=some d) (hr:d.isRow=false) (b off:Nat) (B:TypeId) (cs:List AV) (v:AV) (hx:(zad x).ev tm=.p b off) (hb:objs[b]? = some (.box B cs)) (hc:cs[off]? = some v)
  (h:K objs v):zat P C (.load T x) type objs tm K :=
 zab _ h fun G I a w hm hd op ho ht => by
  have h1:=zaa hd x; rw [hx] at h1; simp only [Den] at h1
  obtain ⟨g,hg,he⟩:=h1
  obtain ⟨g',ys,k1,k2,k3,k4⟩:=hm.box b B cs hb
  obtain rfl:g=g':=Option.some.inj (hg.symm.trans k1)
  obtain ⟨y,hy,hyd⟩:=zac.get off k3 hc
  refine ⟨y,?_,hyd⟩
  have hcell:w.cell? ⟨g,off,none⟩=some y:=by rw [cell_of_row w g off _ B (0,0) k2]; simpa using hy
  unfold execOp; rw [ho]
  have hagg:(isAgg T).run P w=.ok false w:=by
   unfold isAgg
   rw [Sem.run_bind,run_underlying hu w]
   cases d <;> simp_all
  simp [Instr.loadAt,Instr.sureAddr,he,loadVar,hagg,load,Sem.run,hcell]
theorem ok_loadn (T:TypeId) (x:Operand) (d:TypeDesc) (hu:P.underlying T=some d) (hr:d.isRow=true) (sz:Nat) (hs:(P.info? T).map (·.size)=some sz) (b off:Nat) (B:TypeId) (cs:List AV) (hx:(zad x).ev tm=.p b off) (hb:objs[b]? = some (.box B cs)) (hc:off + sz ≤ cs.length)
  (h:K objs (.agg ((cs.drop off).take sz))):zat P C (.load T x) type objs tm K :=
 zab _ h fun G I a w hm hd op ho ht => by
  have h1:=zaa hd x; rw [hx] at h1; simp only [Den] at h1
  obtain ⟨g,hg,he⟩:=h1
  obtain ⟨g',ys,k1,k2,k3,k4⟩:=hm.box b B cs hb
  obtain rfl:g=g':=Option.some.inj (hg.symm.trans k1)
  have hl:=k3.length
  refine ⟨.agg ((ys.drop off).take sz).toArray,?_,?_⟩
  ·unfold execOp; rw [ho]
   have:=run_loadAt_mid (P:=P) w g off T ((ys.drop off).take sz) d ?_ hu hr (by rw [hs]; simp; omega)
   ·simp [he,this]
   ·intro j v hj
    rw [cell_of_row w g (off + j) _ B (0,0) k2]
    rw [List.getElem?_take] at hj
    split at hj
    ·simpa [List.getElem?_drop] using hj
    ·cases hj
  ·simp only [Den]
   exact ⟨_,rfl,zac.take sz (zac.drop off k3),fun u hu => k4 u (List.mem_of_mem_drop (List.mem_of_mem_take hu))⟩
theorem zhy (T:TypeId) (x:Operand) (d:TypeDesc) (hu:P.underlying T=some d) (hr:d.isRow=false) (xs:List AV) (j:Nat) (v:AV) (hx:(zad x).ev tm=.prow xs j) (hc:xs[j]? = some v)
  (h:K objs v):zat P C (.load T x) type objs tm K :=
 zab _ h fun G I a w hm hd op ho ht => by
  have h1:=zaa hd x; rw [hx] at h1; simp only [Den] at h1
  obtain ⟨g,off,ys,he,k3,k4,k5⟩:=h1
  obtain ⟨y,hy,hyd⟩:=zac.get j k3 hc
  refine ⟨y,?_,hyd⟩
  have hcell:=hm.imm _ _ _ (k5 j y hy)
  unfold execOp; rw [ho]
  have hagg:(isAgg T).run P w=.ok false w:=by
   unfold isAgg
   rw [Sem.run_bind,run_underlying hu w]
   cases d <;> simp_all
  simp [Instr.loadAt,Instr.sureAddr,he,loadVar,hagg,load,Sem.run,hcell]
theorem zhw (T:TypeId) (x:Operand) (d:TypeDesc) (hu:P.underlying T=some d) (hr:d.isRow=true) (sz:Nat) (hs:(P.info? T).map (·.size)=some sz) (xs:List AV) (j:Nat) (hx:(zad x).ev tm=.prow xs j) (hc:j + sz ≤ xs.length)
  (h:K objs (.agg ((xs.drop j).take sz))):zat P C (.load T x) type objs tm K :=
 zab _ h fun G I a w hm hd op ho ht => by
  have h1:=zaa hd x; rw [hx] at h1; simp only [Den] at h1
  obtain ⟨g,off,ys,he,k3,k4,k5⟩:=h1
  have hl:=k3.length
  refine ⟨.agg ((ys.drop j).take sz).toArray,?_,?_⟩
  ·unfold execOp; rw [ho]
   have:=run_loadAt_mid (P:=P) w g (off + j) T ((ys.drop j).take sz) d ?_ hu hr (by rw [hs]; simp; omega)
   ·simp [he,this]
   ·intro i v hi
    rw [List.getElem?_take] at hi
    split at hi
    ·rw [List.getElem?_drop] at hi
     rw [Nat.add_assoc]
     exact hm.imm _ _ _ (k5 (j + i) v hi)
    ·cases hi
  ·simp only [Den]
   exact ⟨_,rfl,zac.take sz (zac.drop j k3),fun u hu => k4 u (List.mem_of_mem_drop (List.mem_of_mem_take hu))⟩
theorem ok_store (T:TypeId) (x y:Operand) (sz:Nat) (hs:(P.info? T).map (·.size)=some sz) (b off:Nat) (B:TypeId) (cs:List AV) (hx:(zad x).ev tm=.p b off) (hb:objs[b]? = some (.box B cs)) (hf:((zad y).ev tm).flat=true) (hv:((zad y).ev tm).cells.length=sz) (hc:off + sz ≤ cs.length)
  (h:K (objs.set b (.box B (zas cs off ((zad y).ev tm).cells))) .u):zat P C (.store T x y) type objs tm K:=by
 intro G I a w hin hm hd op next Q ho ht hn
 obtain ⟨d1,d2⟩:=zbK (zaa hd y) hf
 have h1:=zaa hd x; rw [hx] at h1; simp only [Den] at h1
 obtain ⟨g,hg,he⟩:=h1
 obtain ⟨k1,k2⟩:=setbox hin hm b g off B cs _ _ hb hg d1 d2 (by rw [hv]; exact hc)
 obtain ⟨g',ys,m1,m2,m3,m4⟩:=hm.box b B cs hb
 obtain rfl:g=g':=Option.some.inj (hg.symm.trans m1)
 have hl:=d1.length
 have hl2:=m3.length
 have hst:=run_storeCells_cells (P:=P) g off (a.eval y).cells.toList 0 w (fun j hj => by
   rw [cell_of_row w g (off + 0 + j) _ B (0,0) m2]; simp; omega) (fun j hj => by simp [World.frozen?,m2]) d2
 refine zdb (w':=w.setCells g off (a.eval y).cells.toList) ?_ (hn _ .u undef G I _ h (Gh.le.refl G) (Imm.le.refl I) k1 k2 (by simp [Den]))
 unfold execOp; rw [ho]
 cases hi:P.info? T with
 | none => rw [hi] at hs; cases hs
 | some i =>
  rw [hi] at hs
  have hsz:i.size=sz:=by simpa using hs
  have hz:(a.eval y).cells.size=i.size:=by rw [hsz,← hv,hl]; simp
  simp [Instr.storeAt,Instr.sureAddr,he,storeVar,sizeOf,typeInfo,hi,hz]
  simp at hst
  simp [hst]
theorem zdm {G:Gh} {I:Imm} {objs:List OB} {w:World} (hm:MemOk G I objs w) {b gen j E sz n:Nat} {xs:List AV} {y:Value} (hb:objs[b]? = some (.orow E sz gen n xs)) (h:Den G I (.porow b gen j) y) :
  ∃ g cap ys,y=.pointer (some ⟨g,j,none⟩) ∧ G.cur b=some (gen,.slice (some ⟨g,0,none⟩) n cap) ∧ zac G I xs ys ∧ (∀ u ∈ ys,u.oneCell'=true) ∧ (∀ i u,ys[i]? = some u → w.cell? ⟨g,i,none⟩=some u) ∧ ∃ cur,w.heap[g]? = some (.cells cur E (0,0)) ∧ n * sz ≤ cur.size ∧ ys.length=n * sz:=by
 simp only [Den] at h
 obtain ⟨g',v,g,k1,k2,rfl,k3⟩:=h
 obtain ⟨v',ys,m1,m2,m3,m4,m5⟩:=hm.row b E sz gen n xs hb
 rw [k1] at m1; injection m1 with m1; injection m1 with m1 m6
 subst m1 m6
 obtain ⟨n',c,rfl⟩:=k3 rfl
 have m2':=m2
 obtain ⟨q1,q2⟩:=m2
 rcases q2 with ⟨q2,_⟩ | ⟨g',cap',cur,q2,q3,q4,q5,q6,q7,q8⟩
 ·cases q2
 injection q2 with q2 q10 q9; injection q2 with q2; injection q2 with q2; subst q2 q9 q10
 refine ⟨g,c,ys,rfl,k1,m3,m4,fun i u hi => ?_,cur,q4,by rw [q7]; exact Nat.mul_le_mul_right _ q5,q1⟩
 have:=m2'.cells (g:=g) rfl i u hi
 rwa [zak,Nat.zero_add] at this
theorem zhz (T:TypeId) (x:Operand) (d:TypeDesc) (hu:P.underlying T=some d) (hr:d.isRow=false) (b gen j E sz n:Nat) (xs:List AV) (v:AV) (hx:(zad x).ev tm=.porow b gen j) (hb:objs[b]? = some (.orow E sz gen n xs)) (hc:xs[j]? = some v)
  (h:K objs v):zat P C (.load T x) type objs tm K :=
 zab _ h fun G I a w hm hd op ho ht => by
  have h1:=zaa hd x; rw [hx] at h1
  obtain ⟨g,cap,ys,he,k2,k3,k4,k5,_⟩:=zdm hm hb h1
  obtain ⟨y,hy,hyd⟩:=zac.get j k3 hc
  refine ⟨y,?_,hyd⟩
  have hcell:=k5 j y hy
  unfold execOp; rw [ho]
  have hagg:(isAgg T).run P w=.ok false w:=by
   unfold isAgg
   rw [Sem.run_bind,run_underlying hu w]
   cases d <;> simp_all
  simp [Instr.loadAt,Instr.sureAddr,he,loadVar,hagg,load,Sem.run,hcell]
theorem zhx (T:TypeId) (x:Operand) (d:TypeDesc) (hu:P.underlying T=some d) (hr:d.isRow=true) (s:Nat) (hs:(P.info? T).map (·.size)=some s) (b gen j E sz n:Nat) (xs:List AV) (hx:(zad x).ev tm=.porow b gen j) (hb:objs[b]? = some (.orow E sz gen n xs)) (hc:j + s ≤ xs.length)
  (h:K objs (.agg ((xs.drop j).take s))):zat P C (.load T x) type objs tm K :=
 zab _ h fun G I a w hm hd op ho ht => by
  have h1:=zaa hd x; rw [hx] at h1
  obtain ⟨g,cap,ys,he,k2,k3,k4,k5,_⟩:=zdm hm hb h1
  have hl:=k3.length
  refine ⟨.agg ((ys.drop j).take s).toArray,?_,?_⟩
  ·unfold execOp; rw [ho]
   have:=run_loadAt_mid (P:=P) w g j T ((ys.drop j).take s) d ?_ hu hr (by rw [hs]; simp; omega)
   ·simp [he,this]
   ·intro i v hi
    rw [List.getElem?_take] at hi
    split at hi
    ·rw [List.getElem?_drop] at hi
     exact k5 (j + i) v hi
    ·cases hi
  ·simp only [Den]
   exact ⟨_,rfl,zac.take s (zac.drop j k3),fun u hu => k4 u (List.mem_of_mem_drop (List.mem_of_mem_take hu))⟩
theorem zhv (T:TypeId) (x y:Operand) (s:Nat) (hs:(P.info? T).map (·.size)=some s) (b gen j E sz n:Nat) (xs:List AV) (hx:(zad x).ev tm=.porow b gen j) (hb:objs[b]? = some (.orow E sz gen n xs)) (hf:((zad y).ev tm).flat=true) (hv:((zad y).ev tm).cells.length=s) (hc:j + s ≤ xs.length)
  (h:K (objs.set b (.orow E sz gen n (zas xs j ((zad y).ev tm).cells))) .u):zat P C (.store T x y) type objs tm K:=by
 intro G I a w hin hm hd op next Q ho ht hn
 obtain ⟨d1,d2⟩:=zbK (zaa hd y) hf
 have h1:=zaa hd x; rw [hx] at h1
 obtain ⟨g,cap,ys,he,hg,k3,k4,k5,cur,hcur,hcs,hys⟩:=zdm hm hb h1
 obtain ⟨k1,k2⟩:=setrow hin hm b g j E sz gen n cap xs _ _ hb hg d1 d2 (by rw [hv]; exact hc)
 have hl:=d1.length
 have hl2:=k3.length
 have hst:=run_storeCells_cells (P:=P) g j (a.eval y).cells.toList 0 w (fun i hi => by
   have hi':j + i < cur.size:=by omega
   rw [show j + 0 + i=j + i by omega,cell_of_row w g (j + i) cur E (0,0) hcur]; simp [hi']) (fun i hi => by simp [World.frozen?,hcur]) d2
 refine zdb (w':=w.setCells g j (a.eval y).cells.toList) ?_ (hn _ .u undef G I _ h (Gh.le.refl G) (Imm.le.refl I) k1 k2 (by simp [Den]))
 unfold execOp; rw [ho]
 cases hi:P.info? T with
 | none => rw [hi] at hs; cases hs
 | some i =>
  rw [hi] at hs
  have hsz:i.size=s:=by simpa using hs
  have hz:(a.eval y).cells.size=i.size:=by rw [hsz,← hv,hl]; simp
  simp [Instr.storeAt,Instr.sureAddr,he,storeVar,sizeOf,typeInfo,hi,hz]
  simp at hst
  simp [hst]
theorem zfg (x:Operand) (h:K objs ((zad x).ev tm)) (hx:(∃ b o,(zad x).ev tm=.p b o) ∨ (∃ xs j,(zad x).ev tm=.prow xs j) ∨ (∃ f fs cs,(zad x).ev tm=.fn f fs cs) ∨ (∃ b gen j,(zad x).ev tm=.porow b gen j)):zat P C (.nilCheck x) type objs tm K :=
 zab _ h fun G I a w hm hd op ho ht => by
  have h1:=zaa hd x
  refine ⟨a.eval x,?_,h1⟩
  rcases hx with ⟨b,o,e⟩ | ⟨xs,j,e⟩ | ⟨f,fs,cs,e⟩ | ⟨b,gen,j,e⟩
  ·rw [e] at h1; simp only [Den] at h1
   obtain ⟨g,_,he⟩:=h1
   unfold execOp; rw [ho]; simp [he]
  ·rw [e] at h1; simp only [Den] at h1
   obtain ⟨g,off,ys,he,_⟩:=h1
   unfold execOp; rw [ho]; simp [he]
  ·rw [e] at h1; simp only [Den] at h1
   obtain ⟨us,ys,he,_⟩:=h1
   unfold execOp; rw [ho]; simp [he]
  ·rw [e] at h1; simp only [Den] at h1
   obtain ⟨_,_,g,_,_,he,_⟩:=h1
   unfold execOp; rw [ho]; simp [he]
theorem zev (f:FuncId) (fs cs:Array Operand) (h:K objs (.fn f (fs.toList.map fun x => (zad x).ev tm) (cs.toList.map fun x => (zad x).ev tm))):zat P C (.makeFunc (.func f) fs cs) type objs tm K :=
 zab _ h fun G I a w hm hd op ho ht => by
  refine ⟨.func (.func f) (fs.map a.eval) (cs.map a.eval),by unfold execOp; rw [ho]; simp [Instr.makeFunc],?_⟩
  have key:∀ l:List Operand,zac G I (l.map fun x => (zad x).ev tm) (l.map a.eval):=by
   intro l
   induction l with
   | nil => exact zac.nil
   | cons x l ih => exact zac.cons (zaa hd x) ih
  simp only [Den]
  exact ⟨(fs.map a.eval).toList,(cs.map a.eval).toList,by rw [Array.toArray_toList,Array.toArray_toList],by simpa using key fs.toList,by simpa using key cs.toList⟩
theorem zgr (x:Operand) (k:Nat) (cs:List AV) (v:AV) (hx:(zad x).ev tm=.tup cs) (hk:cs[k]? = some v) (h:K objs v):zat P C (.extract x k) type objs tm K :=
 zab _ h fun G I a w hm hd op ho ht => by
  have h1:=zaa hd x; rw [hx] at h1; simp only [Den] at h1
  obtain ⟨ys,he,k3⟩:=h1
  obtain ⟨y,hy,hyd⟩:=zac.get k k3 hk
  exact ⟨y,by unfold execOp; rw [ho]; simp [he,Instr.extract,hy],hyd⟩
theorem ok_not (T:TypeId) (x:Operand) (t:Bool) (hx:(zad x).ev tm=.b t) (h:K objs (.b (!t))):zat P C (.unOp .not T x) type objs tm K :=
 zab _ h fun G I a w hm hd op ho ht => by
  have h1:=zaa hd x; rw [hx] at h1; simp only [Den] at h1
  exact ⟨.bool (!t),by unfold execOp; rw [ho]; simp [h1,Op.unary],by simp [Den]⟩
theorem ok_neg (T:TypeId) (x:Operand) (k:IntKind) (n:Int) (hx:(zad x).ev tm=.i k n) (h:K objs (.i k (k.wrap (0 - n)))):zat P C (.unOp .neg T x) type objs tm K :=
 zab _ h fun G I a w hm hd op ho ht => by
  have h1:=zaa hd x; rw [hx] at h1; simp only [Den] at h1
  exact ⟨.int k (k.wrap (0 - n)),by unfold execOp; rw [ho]; simp [h1,Op.unary,Op.intArith],by simp [Den]⟩
theorem ok_cvi (src dst:TypeId) (x:Operand) (k j:IntKind) (n:Int) (hs:(P.underlying src).isSome=true) (hu:P.underlying dst=some (.int k)) (hx:(zad x).ev tm=.i j n) (h:K objs (.i k (k.wrap n))):zat P C (.convert src dst x) type objs tm K :=
 zab _ h fun G I a w hm hd op ho ht => by
  have h1:=zaa hd x; rw [hx] at h1; simp only [Den] at h1
  exact ⟨.int k (k.wrap n),by
   have hk:P.intKind dst=k:=by simp [Program.intKind,hu]
   have hr:=run_convert_int (P:=P) w src dst j n hs (by rw [hk]; exact hu)
   rw [hk] at hr
   unfold execOp; rw [ho]; simp only [h1]; simp [hr],by simp [Den]⟩
theorem ok_cvs (src dst:TypeId) (x:Operand) (l:List UInt8) (hs:P.underlying src=some .string) (hu:P.underlying dst=some .string) (hx:(zad x).ev tm=.s l) (h:K objs (.s l)):zat P C (.convert src dst x) type objs tm K :=
 zab _ h fun G I a w hm hd op ho ht => by
  have h1:=zaa hd x; rw [hx] at h1; simp only [Den] at h1
  exact ⟨.string ⟨l.toArray⟩,by unfold execOp; rw [ho]; simp [h1,convert,run_underlying hs,run_underlying hu],by simp [Den]⟩
end
def cmpZ:BinOp → Int → Int → Option Bool
 | .eql,x,y => some (decide (x=y))
 | .neq,x,y => some (decide (¬ x=y))
 | .lss,x,y => some (decide (x < y))
 | .leq,x,y => some (decide (x ≤ y))
 | .gtr,x,y => some (decide (y < x))
 | .geq,x,y => some (decide (y ≤ x))
 | _,_,_ => none
def arZ:BinOp → Int → Int → Option Int
 | .add,x,y => some (x + y)
 | .sub,x,y => some (x - y)
 | .mul,x,y => some (x * y)
 | _,_,_ => none
theorem beqd {α:Type} [DecidableEq α] (x y:α):(x == y)=decide (x=y):=by by_cases h:x=y <;> simp [h]
def svb (tm:List AV) (d:Int):Option Operand → Option Int
 | none => some d
 | some x => match (zad x).ev tm with
  | .i _ n => some n
  | _ => none
theorem zi3 (l:List UInt8) (i j:Nat):(⟨l.toArray⟩:ByteArray).extract i j=⟨((l.take j).drop i).toArray⟩:=by
 have:((⟨l.toArray⟩:ByteArray).extract i j).data=((l.take j).drop i).toArray:=by
  rw [ByteArray.data_extract]
  apply Array.ext'
  simp only [Array.toList_extract,List.extract_eq_take_drop]
  rw [List.drop_take]
 exact congrArg ByteArray.mk this
theorem zdz (l:List UInt8):(⟨l.toArray⟩:ByteArray).size=l.length:=by simp [ByteArray.size]
section
variable {P:Program} {C:Cx} {type:TypeId} {objs:List OB} {tm:List AV} {K:List OB → AV → Prop}
theorem zcY (op:BinOp) (T T':TypeId) (x y:Operand) (k:IntKind) (m n:Int) (r:Bool) (hx:(zad x).ev tm=.i k m) (hy:(zad y).ev tm=.i k n) (hr:cmpZ op m n=some r) (h:K objs (.b r)):zat P C (.binOp op T x y T') type objs tm K :=
 zab _ h fun G I a w hm hd o ho ht => by
  have h1:=zaa hd x; rw [hx] at h1; simp only [Den] at h1
  have h2:=zaa hd y; rw [hy] at h2; simp only [Den] at h2
  refine ⟨.bool r,?_,by simp [Den]⟩
  unfold execOp; rw [ho]
  cases op <;> simp only [cmpZ,Option.some.injEq,reduceCtorEq] at hr <;> subst hr <;> simp [h1,h2,eqGuard,binOp,Op.intCmp,bne,beqd]
theorem zhD (op:BinOp) (T T':TypeId) (x y:Operand) (k:IntKind) (m n r:Int) (hx:(zad x).ev tm=.i k m) (hy:(zad y).ev tm=.i k n) (hr:arZ op m n=some r) (h:K objs (.i k (k.wrap r))):zat P C (.binOp op T x y T') type objs tm K :=
 zab _ h fun G I a w hm hd o ho ht => by
  have h1:=zaa hd x; rw [hx] at h1; simp only [Den] at h1
  have h2:=zaa hd y; rw [hy] at h2; simp only [Den] at h2
  refine ⟨.int k (k.wrap r),?_,by simp [Den]⟩
  unfold execOp; rw [ho]
  cases op <;> simp only [arZ,Option.some.injEq,reduceCtorEq] at hr <;> subst hr <;> simp [h1,h2,eqGuard,binOp,Op.intArith]
theorem ok_quo (T T':TypeId) (x y:Operand) (k:IntKind) (m n:Int) (hx:(zad x).ev tm=.i k m) (hy:(zad y).ev tm=.i k n) (hn:n ≠ 0) (h:K objs (.i k (k.wrap (m.tdiv n)))):zat P C (.binOp .quo T x y T') type objs tm K :=
 zab _ h fun G I a w hm hd o ho ht => by
  have h1:=zaa hd x; rw [hx] at h1; simp only [Den] at h1
  have h2:=zaa hd y; rw [hy] at h2; simp only [Den] at h2
  refine ⟨.int k (k.wrap (m.tdiv n)),?_,by simp [Den]⟩
  unfold execOp; rw [ho]; simp [h1,h2,eqGuard,binOp,Op.intDiv,hn]
theorem ok_rem (T T':TypeId) (x y:Operand) (k:IntKind) (m n:Int) (hx:(zad x).ev tm=.i k m) (hy:(zad y).ev tm=.i k n) (hn:n ≠ 0) (h:K objs (.i k (m.tmod n))):zat P C (.binOp .rem T x y T') type objs tm K :=
 zab _ h fun G I a w hm hd o ho ht => by
  have h1:=zaa hd x; rw [hx] at h1; simp only [Den] at h1
  have h2:=zaa hd y; rw [hy] at h2; simp only [Den] at h2
  refine ⟨.int k (m.tmod n),?_,by simp [Den]⟩
  unfold execOp; rw [ho]; simp [h1,h2,eqGuard,binOp,Op.intDiv,hn]
theorem ok_cat (T T':TypeId) (x y:Operand) (l m:List UInt8) (hx:(zad x).ev tm=.s l) (hy:(zad y).ev tm=.s m) (hl:l.length + m.length ≤ 9223372036854775807) (h:K objs (.s (l ++ m))):zat P C (.binOp .add T x y T') type objs tm K :=
 zab _ h fun G I a w hm hd o ho ht => by
  have h1:=zaa hd x; rw [hx] at h1; simp only [Den] at h1
  have h2:=zaa hd y; rw [hy] at h2; simp only [Den] at h2
  refine ⟨.string ⟨(l ++ m).toArray⟩,?_,by simp [Den]⟩
  unfold execOp; rw [ho]
  have hs:=run_string_add_sum (P:=P) w ⟨l.toArray⟩ ⟨m.toArray⟩ (by rw [zdz,zdz]; exact hl)
  have e:(⟨l.toArray⟩ ++ ⟨m.toArray⟩:ByteArray)=⟨(l ++ m).toArray⟩:=by
   apply ByteArray.ext; simp [ByteArray.data_append]
  rw [e] at hs
  simp [h1,h2,eqGuard,binOp,hs]
theorem ok_seq (op:BinOp) (T T':TypeId) (x y:Operand) (l m:List UInt8) (r:Bool) (hx:(zad x).ev tm=.s l) (hy:(zad y).ev tm=.s m) (hr:(op=.eql ∧ r=decide (l=m)) ∨ (op=.neq ∧ r=decide (¬ l=m))) (h:K objs (.b r)):zat P C (.binOp op T x y T') type objs tm K :=
 zab _ h fun G I a w hm hd o ho ht => by
  have h1:=zaa hd x; rw [hx] at h1; simp only [Den] at h1
  have h2:=zaa hd y; rw [hy] at h2; simp only [Den] at h2
  refine ⟨.bool r,?_,by simp [Den]⟩
  unfold execOp; rw [ho]
  have e1:(⟨l.toArray⟩:ByteArray).toList=l:=by rw [ByteArray.toList_eq]
  have e2:(⟨m.toArray⟩:ByteArray).toList=m:=by rw [ByteArray.toList_eq]
  rcases hr with ⟨rfl,rfl⟩ | ⟨rfl,rfl⟩ <;> (simp [h1,h2,eqGuard,binOp,Op.stringOp,e1,e2,beqd]; try (by_cases hh:l=m <;> simp [hh]))
theorem ok_beq (op:BinOp) (T T':TypeId) (x y:Operand) (l m r:Bool) (hu:P.underlying T=some .bool) (hx:(zad x).ev tm=.b l) (hy:(zad y).ev tm=.b m) (hr:(op=.eql ∧ r=(l == m)) ∨ (op=.neq ∧ r=!(l == m))) (h:K objs (.b r)):zat P C (.binOp op T x y T') type objs tm K :=
 zab _ h fun G I a w hm hd o ho ht => by
  have h1:=zaa hd x; rw [hx] at h1; simp only [Den] at h1
  have h2:=zaa hd y; rw [hy] at h2; simp only [Den] at h2
  refine ⟨.bool r,?_,by simp [Den]⟩
  unfold execOp; rw [ho]
  have hs:=run_equal_bool (P:=P) w T l m hu
  rcases hr with ⟨rfl,rfl⟩ | ⟨rfl,rfl⟩ <;> simp [h1,h2,eqGuard,binOp,hs]
theorem ok_idx (T:TypeId) (x y:Operand) (l:List UInt8) (k:IntKind) (n:Int) (hu:P.underlying T=some .string) (hx:(zad x).ev tm=.s l) (hy:(zad y).ev tm=.i k n) (h0:0 ≤ n) (h1:n < l.length) (h:K objs (.i .u8 ((l.getD n.toNat 0).toNat:Int))):zat P C (.index T x y) type objs tm K :=
 zab _ h fun G I a w hm hd o ho ht => by
  have e1:=zaa hd x; rw [hx] at e1; simp only [Den] at e1
  have e2:=zaa hd y; rw [hy] at e2; simp only [Den] at e2
  refine ⟨.int .u8 ((l.getD n.toNat 0).toNat:Int),?_,by simp [Den]⟩
  unfold execOp; rw [ho]
  have hlt:n.toNat < l.length:=by omega
  have hg:(⟨l.toArray⟩:ByteArray)[n.toNat]? = some (l.getD n.toNat 0):=by
   rw [getElem?_pos _ _ (by rw [zdz]; exact hlt)]
   rw [List.getD_eq_getElem?_getD,List.getElem?_eq_getElem hlt]; rfl
  simp [e1,e2,Instr.index,asIntOf,run_underlying hu,h0,hg]
theorem ok_slcs (T:TypeId) (x:Operand) (lo hi:Option Operand) (l:List UInt8) (i j:Int) (hu:P.underlying T=some .string) (hx:(zad x).ev tm=.s l) (hlo:svb tm 0 lo=some i) (hhi:svb tm l.length hi=some j) (h0:0 ≤ i) (h1:i ≤ j) (h2:j ≤ l.length)
  (h:K objs (.s ((l.take j.toNat).drop i.toNat))):zat P C (.slice T x lo hi none) type objs tm K :=
 zab _ h fun G I a w hm hd o ho ht => by
  have e1:=zaa hd x; rw [hx] at e1; simp only [Den] at e1
  refine ⟨.string ⟨((l.take j.toNat).drop i.toNat).toArray⟩,?_,by simp [Den]⟩
  unfold execOp; rw [ho]
  have hsl:=zdz l
  have hb:∀ (d:Int) (z:Option Operand) (q:Int),svb tm d z=some q → z=none ∧ q=d ∨ ∃ u k,z=some u ∧ a.eval u=.int k q:=by
   intro d z q hz
   cases z with
   | none => simp [svb] at hz; exact .inl ⟨rfl,hz.symm⟩
   | some u =>
    simp only [svb] at hz
    split at hz
    ·rename_i k n hn
     have e:=zaa hd u; rw [hn] at e; simp only [Den] at e
     injection hz with hz; subst hz
     exact .inr ⟨u,k,rfl,e⟩
    ·cases hz
  rw [← zi3]
  rcases hb _ _ _ hlo with ⟨rfl,rfl⟩ | ⟨u,k,rfl,e2⟩ <;> rcases hb _ _ _ hhi with ⟨rfl,rfl⟩ | ⟨v,k',rfl,e3⟩
  ·simp [e1,run_sliceAt_string w T _ _ _ _ hu,run_slice_string_all w T _ hu,hsl]
  ·have:=run_slice_string_h (P:=P) w T ⟨l.toArray⟩ hu k' j (by omega) (by rw [hsl]; exact h2)
   simp [e1,e3,run_sliceAt_string w T _ _ _ _ hu,this]
  ·have:=run_slice_string_l (P:=P) w T ⟨l.toArray⟩ hu k i (by omega) (by rw [hsl]; omega)
   simp [e1,e2,run_sliceAt_string w T _ _ _ _ hu,this,hsl]
  ·have:=run_slice_string (P:=P) w T ⟨l.toArray⟩ k k' i j hu h0 h1 (by rw [hsl]; exact h2)
   simp [e1,e2,e3,run_sliceAt_string w T _ _ _ _ hu,this]
theorem ok_lens (T:TypeId) (ty:TypeId) (x:Operand) (l:List UInt8) (hu:P.underlying T=some .string) (hx:(zad x).ev tm=.s l) (h:K objs (.i .i64 l.length)):zat P C (.call { callee:=.builtin .len,args:=#[x],argTypes:=#[T] }) ty objs tm K :=
 zab _ h fun G I a w hm hd o ho ht => by
  have e1:=zaa hd x; rw [hx] at e1; simp only [Den] at e1
  refine ⟨.int .i64 l.length,?_,by simp [Den]⟩
  unfold execOp; rw [ho]
  simp [resolve,invoke,builtin,Builtin.len_,e1,run_underlying hu,goInt,zdz]
theorem zdp (T:TypeId) (ty:TypeId) (x:Operand) (e:TypeId) (n:Nat) (hu:P.underlying T=some (.slice e))
  (hx:(∃ xs,(zad x).ev tm=.row n xs) ∨ ((zad x).ev tm=.nil ∧ n=0) ∨ (∃ z,(zad x).ev tm=.zn z ∧ n=0) ∨ (∃ b gen E sz xs,(zad x).ev tm=.orow b gen ∧ objs[b]? = some (.orow E sz gen n xs))) (h:K objs (.i .i64 n)):zat P C (.call { callee:=.builtin .len,args:=#[x],argTypes:=#[T] }) ty objs tm K :=
 zab _ h fun G I a w hm hd o ho ht => by
  have e1:=zaa hd x
  refine ⟨.int .i64 n,?_,by simp [Den]⟩
  have hv:∃ q c,a.eval x=.slice q n c:=by
   rcases hx with ⟨xs,hx⟩ | ⟨hx,rfl⟩ | ⟨z,hx,rfl⟩ | ⟨b,gen,E,sz,xs,hx,hb⟩
   ·rw [hx] at e1; simp only [Den] at e1
    obtain ⟨q,c,ys,e,_⟩:=e1; exact ⟨q,c,e⟩
   ·rw [hx] at e1; simp only [Den] at e1; exact ⟨none,0,e1⟩
   ·rw [hx] at e1; simp only [Den] at e1; obtain ⟨q,c,e,_⟩:=e1; exact ⟨q,c,e⟩
   ·rw [hx] at e1; simp only [Den] at e1
    obtain ⟨g',v,k1,k2,k3,_⟩:=e1
    obtain ⟨v',ys,m1,m2,_⟩:=hm.row b E sz gen n xs hb
    rw [k1] at m1; injection m1 with m1; injection m1 with m1 m3
    have:=k3 m1.symm
    subst m3
    rcases m2.2 with ⟨rfl,rfl⟩ | ⟨g,cap,cur,rfl,_⟩
    ·exact ⟨none,0,this⟩
    ·exact ⟨_,cap,this⟩
  obtain ⟨q,c,hv⟩:=hv
  unfold execOp; rw [ho]
  simp [resolve,invoke,builtin,Builtin.len_,hv,run_underlying hu,goInt]
theorem zhA (T:TypeId) (x:Operand) (k:Nat) (fs:Array Field) (f:Field) (fz:Nat) (v:AV) (hu:P.underlying T=some (.struct fs)) (hf:fs[k]? = some f) (hz:(P.info? f.type).map (·.size)=some fz) (h0:fz ≠ 0)
  (hv:(∃ b off,(zad x).ev tm=.p b off ∧ v=.p b (off + f.offset)) ∨ (∃ xs j,(zad x).ev tm=.prow xs j ∧ v=.prow xs (j + f.offset)) ∨ (∃ b gen j,(zad x).ev tm=.porow b gen j ∧ v=.porow b gen (j + f.offset))) (h:K objs v):zat P C (.fieldAddr T x k) type objs tm K :=
 zab _ h fun G I a w hm hd o ho ht => by
  have e1:=zaa hd x
  have hp:∀ g o':Nat,(fieldPlace ⟨g,o',none⟩ f).run P w=.ok ⟨g,o' + f.offset,none⟩ w:=by
   intro g o'
   cases hi:P.info? f.type with
   | none => rw [hi] at hz; cases hz
   | some i =>
    rw [hi] at hz
    have:i.size ≠ 0:=by simp at hz; omega
    simp [fieldPlace,sizeOf,typeInfo,hi,this,zak]
  rcases hv with ⟨b,off,hx,rfl⟩ | ⟨xs,j,hx,rfl⟩ | ⟨b,gen,j,hx,rfl⟩
  ·rw [hx] at e1; simp only [Den] at e1
   obtain ⟨g,hg,he⟩:=e1
   refine ⟨.pointer (some ⟨g,off + f.offset,none⟩),?_,by simp only [Den]; exact ⟨g,hg,rfl⟩⟩
   unfold execOp; rw [ho]
   simp [Instr.fieldAt,run_underlying hu,hf,he,Instr.sureAddr,hp]
  ·rw [hx] at e1; simp only [Den] at e1
   obtain ⟨g,off,ys,he,k3,k4,k5⟩:=e1
   refine ⟨.pointer (some ⟨g,off + (j + f.offset),none⟩),?_,by simp only [Den]; exact ⟨g,off,ys,rfl,k3,k4,k5⟩⟩
   unfold execOp; rw [ho]
   simp [Instr.fieldAt,run_underlying hu,hf,he,Instr.sureAddr,hp,Nat.add_assoc]
  ·rw [hx] at e1; simp only [Den] at e1
   obtain ⟨g',v,g,hg,hle,he,hn⟩:=e1
   refine ⟨.pointer (some ⟨g,j + f.offset,none⟩),?_,by simp only [Den]; exact ⟨g',v,g,hg,hle,rfl,hn⟩⟩
   unfold execOp; rw [ho]
   simp [Instr.fieldAt,run_underlying hu,hf,he,Instr.sureAddr,hp]
theorem zbp {T:TypeId} {d:TypeDesc} (hu:P.underlying T=some d) (w:World):(isAgg T).run P w=.ok d.isRow w:=by
 unfold isAgg
 rw [Sem.run_bind,run_underlying hu w]
 cases d <;> simp_all
theorem ok_fld1 (T:TypeId) (x:Operand) (k:Nat) (fs:Array Field) (f:Field) (d:TypeDesc) (cs:List AV) (v:AV) (hu:P.underlying T=some (.struct fs)) (hf:fs[k]? = some f) (hd':P.underlying f.type=some d) (hr:d.isRow=false) (hx:(zad x).ev tm=.agg cs) (hc:cs[f.offset]? = some v) (h:K objs v) :
  zat P C (.field T x k) type objs tm K :=
 zab _ h fun G I a w hm hd o ho ht => by
  have e1:=zaa hd x; rw [hx] at e1; simp only [Den] at e1
  obtain ⟨ys,he,k3,k4⟩:=e1
  obtain ⟨y,hy,hyd⟩:=zac.get f.offset k3 hc
  refine ⟨y,?_,hyd⟩
  unfold execOp; rw [ho]
  simp [Instr.field,run_underlying hu,hf,he,asAgg,part,zbp hd',hr,hy]
theorem ok_fldn (T:TypeId) (x:Operand) (k:Nat) (fs:Array Field) (f:Field) (d:TypeDesc) (sz:Nat) (cs:List AV) (hu:P.underlying T=some (.struct fs)) (hf:fs[k]? = some f) (hd':P.underlying f.type=some d) (hr:d.isRow=true) (hs:(P.info? f.type).map (·.size)=some sz) (hx:(zad x).ev tm=.agg cs) (h:K objs (.agg ((cs.drop f.offset).take sz))) :
  zat P C (.field T x k) type objs tm K :=
 zab _ h fun G I a w hm hd o ho ht => by
  have e1:=zaa hd x; rw [hx] at e1; simp only [Den] at e1
  obtain ⟨ys,he,k3,k4⟩:=e1
  refine ⟨.agg ((ys.drop f.offset).take sz).toArray,?_,?_⟩
  ·unfold execOp; rw [ho]
   cases hi:P.info? f.type with
   | none => rw [hi] at hs; cases hs
   | some i =>
    rw [hi] at hs
    have hsz:i.size=sz:=by simpa using hs
    have e:(ys.toArray.extract f.offset (f.offset + sz))=((ys.drop f.offset).take sz).toArray:=by
     apply Array.ext'
     simp [List.extract_eq_take_drop]
    simp [Instr.field,run_underlying hu,hf,he,asAgg,part,zbp hd',hr,sizeOf,typeInfo,hi,hsz]
  ·simp only [Den]
   exact ⟨_,rfl,zac.take sz (zac.drop _ k3),fun u hu => k4 u (List.mem_of_mem_drop (List.mem_of_mem_take hu))⟩
theorem ok_iada (T:TypeId) (x y:Operand) (e:TypeId) (sz len b off:Nat) (k:IntKind) (i:Int) (hu:P.underlying T=some (.array len e)) (hs:(P.info? e).map (·.size)=some sz) (hx:(zad x).ev tm=.p b off) (hy:(zad y).ev tm=.i k i) (h0:0 ≤ i) (h1:i < len) (hz:0 < sz)
  (h:K objs (.p b (off + i.toNat * sz))):zat P C (.indexAddr T x y) type objs tm K :=
 zab _ h fun G I a w hm hd o ho ht => by
  have e1:=zaa hd x; rw [hx] at e1; simp only [Den] at e1
  have e2:=zaa hd y; rw [hy] at e2; simp only [Den] at e2
  obtain ⟨g,hg,he⟩:=e1
  refine ⟨.pointer (some ⟨g,off + i.toNat * sz,none⟩),?_,?_⟩
  ·unfold execOp; rw [ho]
   cases hi:P.info? e with
   | none => rw [hi] at hs; cases hs
   | some inf =>
    rw [hi] at hs
    have hsz:inf.size=sz:=by simpa using hs
    simp [e2,he,Instr.indexAt,asIntOf,run_underlying hu,h0,h1,sizeOf,typeInfo,hi,hsz,zak,Instr.sureAddr]
  ·simp only [Den]
   exact ⟨g,hg,rfl⟩
theorem ok_iad (T:TypeId) (x y:Operand) (e:TypeId) (sz n:Nat) (xs:List AV) (k:IntKind) (i:Int) (hu:P.underlying T=some (.slice e)) (hs:(P.info? e).map (·.size)=some sz) (hx:(zad x).ev tm=.row n xs) (hy:(zad y).ev tm=.i k i) (h0:0 ≤ i) (h1:i < n) (hl:n * sz ≤ xs.length) (hz:0 < sz)
  (h:K objs (.prow xs (i.toNat * sz))):zat P C (.indexAddr T x y) type objs tm K :=
 zab _ h fun G I a w hm hd o ho ht => by
  have e1:=zaa hd x; rw [hx] at e1; simp only [Den] at e1
  have e2:=zaa hd y; rw [hy] at e2; simp only [Den] at e2
  obtain ⟨q,c,ys,he,hnc,k3,k4,k5⟩:=e1
  have hlen:=k3.length
  have hpos:0 < n * sz:=Nat.mul_pos (by omega) hz
  have hy0:ys[0]? = some (ys[0]'(by omega)):=List.getElem?_eq_getElem (by omega)
  obtain ⟨g,off,rfl,_⟩:=k5 0 _ hy0
  refine ⟨.pointer (some ⟨g,off + i.toNat * sz,none⟩),?_,?_⟩
  ·unfold execOp; rw [ho]
   cases hi:P.info? e with
   | none => rw [hi] at hs; cases hs
   | some inf =>
    rw [hi] at hs
    have hsz:inf.size=sz:=by simpa using hs
    simp [e2,he,Instr.indexAt,asIntOf,run_underlying hu,h0,h1,sizeOf,typeInfo,hi,hsz,zak]
  ·simp only [Den]
   refine ⟨g,off,ys,rfl,k3,k4,fun j u hj => ?_⟩
   obtain ⟨g',off',e,hi⟩:=k5 j u hj
   injection e with e; injection e with e4 e5; subst e4 e5
   exact hi
theorem ok_iado (T:TypeId) (x y:Operand) (e:TypeId) (sz n b gen E:Nat) (xs:List AV) (k:IntKind) (i:Int) (hu:P.underlying T=some (.slice e)) (hs:(P.info? e).map (·.size)=some sz) (hx:(zad x).ev tm=.orow b gen) (hb:objs[b]? = some (.orow E sz gen n xs)) (hy:(zad y).ev tm=.i k i) (h0:0 ≤ i) (h1:i < n)
  (h:K objs (.porow b gen (i.toNat * sz))):zat P C (.indexAddr T x y) type objs tm K :=
 zab _ h fun G I a w hm hd o ho ht => by
  have e1:=zaa hd x; rw [hx] at e1; simp only [Den] at e1
  have e2:=zaa hd y; rw [hy] at e2; simp only [Den] at e2
  obtain ⟨g',v,k1,k2,k3,_⟩:=e1
  obtain ⟨v',ys,m1,m2,m3,m4,m5⟩:=hm.row b E sz gen n xs hb
  rw [k1] at m1; injection m1 with m1; injection m1 with m1 m6
  have hv:=k3 m1.symm
  subst m1 m6
  rcases m2.2 with ⟨rfl,h0'⟩ | ⟨g,cap,cur,rfl,q3,q4,q5,q6,q7,q8⟩
  ·omega
  refine ⟨.pointer (some ⟨g,i.toNat * sz,none⟩),?_,?_⟩
  ·unfold execOp; rw [ho]
   cases hi:P.info? e with
   | none => rw [hi] at hs; cases hs
   | some inf =>
    rw [hi] at hs
    have hsz:inf.size=sz:=by simpa using hs
    simp [e2,hv,Instr.indexAt,asIntOf,run_underlying hu,h0,h1,sizeOf,typeInfo,hi,hsz,zak]
  ·simp only [Den]
   exact ⟨_,_,g,k1,Nat.le_refl _,rfl,fun _ => ⟨n,cap,rfl⟩⟩
end
end Go.Proofs.YtoefobpnkoifhaaGreatDoor.Sx
