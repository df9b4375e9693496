/- The texts that the proofs of these statements reach, in their order, as few files. -/
import Derived.Shelf.Strings.Builder1
import Derived.Shelf.Strings.Builder2
import Derived.Shelf.Strings.OnBuilder
import Derived.Shelf.Small.Strs
import Derived.Shelf.Small.Wraps
import Derived.Shelf.Strings.BuilderF
import Derived.Shelf.Strings.BuilderK
import Derived.Shelf.Utf8.RuneCount
import Derived.Shelf.Strings.Builder2Cap
import Derived.Shelf.Strconv.Itoa0
import Derived.Shelf.Strconv.Itoa1
import Derived.Shelf.LaysM
import Derived.Shelf.Strconv.Itoa2
import Derived.Shelf.Strconv.Itoa3
import Derived.Shelf.Strings.Search1
import Derived.Shelf.Strings.Search2
import Derived.Shelf.Strings.Search3
import Derived.Shelf.Strings.Cut
import Derived.Shelf.Strings.Count
import Derived.Shelf.Strings.Shaped
import Derived.Shelf.Strings.LastIndex
import Derived.Shelf.Strings.Prefix
import Derived.Shelf.Strings.Split
import Derived.Shelf.Strings.Replace
import Derived.Shelf.Strings.SplitShaped
import Derived.Shelf.Unicode.Decode
import Derived.Shelf.Strings.RuneCount
import Derived.Shelf.Unicode.DecodeSlow
import Derived.Shelf.Unicode.DecodeAny
import Derived.Shelf.Strings.BuilderCap
import Derived.Shelf.Slices.Turned
import Derived.Ground.Names2Prog
import Derived.Shelf.Slices.Clone
import Derived.Ground.PaProg
import Derived.Shelf.Path.Small
import Derived.Test.YtbgaknpnkcdbfaaGreatDoorProg
import Derived.WalkKit
import Derived.WalkLawsBesides
import Derived.WalkSmall
import Derived.WalkSpells
import Derived.Lib.Hide
import Derived.Lib.IndexAny
import Derived.ShutString
import Derived.Lib.Strings
import Derived.Deep.QuietTactic
import Derived.BigQuiet
import Derived.Laws.BytesArg
import Derived.Laws.IdiomStrings
import Derived.Lib.ConvBytes
import Derived.Lib.AppendStr
import Derived.Deep.RegionLaw
import Derived.RangeFuncBox
import Derived.RangeFuncLeaves
import Derived.RangeFuncCalls
import Derived.Shelf.Abstract
import Derived.Shelf.RegionOpen
import Derived.OwnWalkIn
import Derived.TacticsInMore
import Derived.LoopNIn
import Derived.LoopIn
import Derived.Maps.AppendAt
import Derived.Orders
import Derived.Deep.MidRow
import Derived.Laws.IdiomCopy
import Derived.Laws.StructEq
import Derived.Laws.Slices
/-
 DERIVED: THE SHELF's CONTRACTS AT THIS DUMP,IN PLAIN WORDS (tools/lay-plain.mjs out of 'TryzShelf.lean',which tools/lay-shelf.mjs wrote): THE SAME DECLARATIONS UNDER THE SAME NAMES: 'import','namespace','open','def','theorem' AND NOTHING ELSE: no command of the shelf's: FOR A HAND-IN. Each laying: the table of numbers ('.._ren') and one theorem,a field a fact of the dump's own or the kernel's comparison;each contract: ONE APPLICATION.
-/
set_option linter.unusedVariables false
set_option linter.unusedSimpArgs false
set_option maxRecDepth 100000
namespace Go.Proofs
open Go.Shelf
open Lib renaming hasPrefix->zj, indexByte->jk
def Tryz.lays156_ren:Go.Shelf.Ren:=⟨fun|156=>145|165=>180|166=>181|169=>182|240=>198|241=>199|276=>210|277=>211|n=>n,fun|31=>27|9=>9|3=>3|4=>4|0=>0|20=>20|72=>185|76=>189|70=>183|37=>124|75=>188|127=>200|164=>209|5=>5|80=>191|n=>n,fun|n=>n⟩
theorem Tryz.lays156:Go.Proofs.Lays.n156 Tryz.prog Tryz.lays156_ren:={
 mixed:=by kernel_rfl
 f156:=Tryz.func145.trans (congrArg some (by kernel_rfl))
 f165:=Tryz.func180.trans (congrArg some (by kernel_rfl))
 f166:=Tryz.func181.trans (congrArg some (by kernel_rfl))
 f169:=Tryz.func182.trans (congrArg some (by kernel_rfl))
 f240:=Tryz.func198.trans (congrArg some (by kernel_rfl))
 f241:=Tryz.func199.trans (congrArg some (by kernel_rfl))
 f276:=Tryz.func210.trans (congrArg some (by kernel_rfl))
 f277:=Tryz.func211.trans (congrArg some (by kernel_rfl))
 t0:=Tryz.underlying0
 a0:=Tryz.isAgg0
 z0:=Tryz.sizeOf0
 v0:=Tryz.zeroValue0
 t3:=Tryz.underlying3
 a3:=Tryz.isAgg3
 z3:=Tryz.sizeOf3
 v3:=Tryz.zeroValue3
 t4:=Tryz.underlying4
 a4:=Tryz.isAgg4
 z4:=Tryz.sizeOf4
 v4:=Tryz.zeroValue4
 t9:=Tryz.underlying9
 a9:=Tryz.isAgg9
 z9:=Tryz.sizeOf9
 v9:=Tryz.zeroValue9
 t20:=Tryz.underlying20
 a20:=Tryz.isAgg20
 z20:=Tryz.sizeOf20
 v20:=Tryz.zeroValue20
 t31:=Tryz.underlying27
 a31:=Tryz.isAgg27
 z31:=Tryz.sizeOf27
 v31:=Tryz.zeroValue27
 t37:=Tryz.underlying124
 a37:=Tryz.isAgg124
 z37:=Tryz.sizeOf124
 v37:=Tryz.zeroValue124
 t70:=Tryz.underlying183
 a70:=Tryz.isAgg183
 z70:=Tryz.sizeOf183
 v70:=Tryz.zeroValue183
 t72:=Tryz.underlying185
 a72:=Tryz.isAgg185
 z72:=Tryz.sizeOf185
 v72:=Tryz.zeroValue185
 t75:=Tryz.underlying188
 a75:=Tryz.isAgg188
 z75:=Tryz.sizeOf188
 v75:=Tryz.zeroValue188
 t76:=Tryz.underlying189
 a76:=Tryz.isAgg189
 z76:=Tryz.sizeOf189
 v76:=Tryz.zeroValue189
 t127:=Tryz.underlying200
 a127:=Tryz.isAgg200
 z127:=Tryz.sizeOf200
 v127:=Tryz.zeroValue200
 t164:=Tryz.underlying209
 a164:=Tryz.isAgg209
 z164:=Tryz.sizeOf209
 v164:=Tryz.zeroValue209 }
theorem Tryz.Builder_Extra_156:Builder.Extra Tryz.prog Tryz.lays156_ren:={
 sizeBuilder:=by kernel_rfl
 liesBuilder:=by kernel_rfl
 t5:=Tryz.underlying5
 a5:=Tryz.isAgg5
 z5:=Tryz.sizeOf5
 v5:=Tryz.zeroValue5
 infoByte:=by kernel_rfl
 cellsByte:=by kernel_rfl
 sizeByte:=by kernel_rfl
 neB5:=by decide }
open Go.RowKit in
/-- No element: the empty string; the world is as it was. (Whatever the slice's address and capacity: a nil slice too.) (LAID: no walk: one application.) -/
theorem Tryz.strings_Join_none (a:Option Addr) (c:Nat) (sep:ByteArray) (w:World) :
  Calls Tryz.prog 145 #[.slice a 0 c,.string sep] w fun e w'=>e=.returned (.string ⟨#[]⟩)/\w'=w:=Any.strings_Join_none Tryz.lays156 Tryz.Builder_Extra_156 a c sep w
open Go.RowKit in
/-- strings.Join: "Join concatenates the elements of its first argument to create a single string. The separator string sep is placed between elements in the resulting string.": HOWEVER MANY ELEMENTS. Below the heap's end the world is as it was. (LAID: no walk: one application.) -/
theorem Tryz.strings_Join (bk o c:Nat) (xs:List ByteArray) (sep:ByteArray) (w:World) (hcells:∀(j:Nat) x,xs[j]? = some x->w.cell? ⟨bk,o+j,none⟩=some (.string x)) (hbk:bk<w.heap.size) (hN:xs.length<=140737488355328) (hcap:xs.length<=c) (hlen:(Lib.join (xs.map (·.data.toList)) sep.data.toList).length<=140737488355328) :
  Calls Tryz.prog 145 #[.slice (some ⟨bk,o,none⟩) xs.length c,.string sep] w fun e w'=>e=.returned (.string ⟨(Lib.join (xs.map (·.data.toList)) sep.data.toList).toArray⟩)/\Below w.heap.size w w':=Any.strings_Join Tryz.lays156 Tryz.Builder_Extra_156 bk o c xs sep w hcells hbk hN hcap hlen
def Tryz.lays137_ren:Go.Shelf.Ren:=⟨fun|137=>84|217=>130|266=>171|n=>n,fun|9=>9|5=>5|3=>3|n=>n,fun|n=>n⟩
theorem Tryz.lays137:Go.Proofs.Lays.n137 Tryz.prog Tryz.lays137_ren:={
 mixed:=by kernel_rfl
 f137:=Tryz.func84.trans (congrArg some (by kernel_rfl))
 f217:=Tryz.func130.trans (congrArg some (by kernel_rfl))
 f266:=Tryz.func171.trans (congrArg some (by kernel_rfl))
 t3:=Tryz.underlying3
 a3:=Tryz.isAgg3
 z3:=Tryz.sizeOf3
 v3:=Tryz.zeroValue3
 t5:=Tryz.underlying5
 a5:=Tryz.isAgg5
 z5:=Tryz.sizeOf5
 v5:=Tryz.zeroValue5
 t9:=Tryz.underlying9
 a9:=Tryz.isAgg9
 z9:=Tryz.sizeOf9
 v9:=Tryz.zeroValue9 }
open Go.RowKit in
/-- strings.IndexByte: "IndexByte returns the index of the first instance of c in s, or -1 if c is not present in s.": IT RETURNS 'Lib.indexByte s c'; the world is as it was. (LAID: no walk: one application.) -/
theorem Tryz.strings_IndexByte (s:ByteArray) (c:Int) (w:World) :
  Calls Tryz.prog 84 #[.string s,.int .u8 c] w fun e w'=>e=.returned (.int .i64 (jk s.data.toList c.toNat.toUInt8))/\w'=w:=Any.strings_IndexByte Tryz.lays137 s c w
def Tryz.lays103_ren:Go.Shelf.Ren:=⟨fun|103=>87|210=>133|206=>172|n=>n,fun|9=>9|4=>4|24=>55|3=>3|n=>n,fun|n=>n⟩
theorem Tryz.lays103:Go.Proofs.Lays.n103 Tryz.prog Tryz.lays103_ren:={
 mixed:=by kernel_rfl
 f103:=Tryz.func87.trans (congrArg some (by kernel_rfl))
 f206:=Tryz.func172.trans (congrArg some (by kernel_rfl))
 f210:=Tryz.func133.trans (congrArg some (by kernel_rfl))
 t3:=Tryz.underlying3
 a3:=Tryz.isAgg3
 z3:=Tryz.sizeOf3
 v3:=Tryz.zeroValue3
 t4:=Tryz.underlying4
 a4:=Tryz.isAgg4
 z4:=Tryz.sizeOf4
 v4:=Tryz.zeroValue4
 t9:=Tryz.underlying9
 a9:=Tryz.isAgg9
 z9:=Tryz.sizeOf9
 v9:=Tryz.zeroValue9
 t24:=Tryz.underlying55
 a24:=Tryz.isAgg55
 z24:=Tryz.sizeOf55
 v24:=Tryz.zeroValue55 }
open Go.RowKit in
/-- strings.CutPrefix: "CutPrefix returns s without the provided leading prefix string and reports whether it found the prefix. If s doesn't start with prefix, CutPrefix returns s, false. If prefix is the empty string, CutPrefix returns s, true.": IT RETURNS '(Lib.trimPrefix s p, Lib.hasPrefix s p)'; the world is as it was. (LAID: no walk: one application.) -/
theorem Tryz.strings_CutPrefix (s p:ByteArray) (w:World) :
  Calls Tryz.prog 87 #[.string s,.string p] w fun e w'=>e=.returned (.tuple #[.string ⟨(Lib.trimPrefix s.data.toList p.data.toList).toArray⟩,.bool (zj s.data.toList p.data.toList)])/\w'=w:=Any.strings_CutPrefix Tryz.lays103 s p w
def Tryz.laysM171_ren:Go.Shelf.Ren:=⟨fun|171=>97|243=>146|246=>183|283=>200|284=>201|285=>202|286=>203|129=>213|317=>212|318=>214|319=>215|320=>216|337=>220|338=>221|n=>n,fun|3=>3|9=>9|2=>2|4=>4|171=>201|0=>0|53=>129|37=>124|5=>5|173=>204|212=>213|51=>193|20=>20|213=>214|46=>155|232=>221|233=>222|n=>n,fun|17=>1|18=>4|19=>5|n=>n⟩
theorem Tryz.laysM171:Go.Proofs.LaysM.n171 Tryz.prog Tryz.laysM171_ren:={
 mixed:=by kernel_rfl
 f129:=Tryz.func213.trans (congrArg some (by kernel_rfl))
 f171:=Tryz.func97.trans (congrArg some (by kernel_rfl))
 f243:=Tryz.func146.trans (congrArg some (by kernel_rfl))
 f246:=Tryz.func183.trans (congrArg some (by kernel_rfl))
 f283:=Tryz.func200.trans (congrArg some (by kernel_rfl))
 f284:=Tryz.func201.trans (congrArg some (by kernel_rfl))
 f285:=Tryz.func202.trans (congrArg some (by kernel_rfl))
 f286:=Tryz.func203.trans (congrArg some (by kernel_rfl))
 f317:=Tryz.func212.trans (congrArg some (by kernel_rfl))
 f318:=Tryz.func214.trans (congrArg some (by kernel_rfl))
 f319:=Tryz.func215.trans (congrArg some (by kernel_rfl))
 f320:=Tryz.func216.trans (congrArg some (by kernel_rfl))
 f337:=Tryz.func220.trans (congrArg some (by kernel_rfl))
 f338:=Tryz.func221.trans (congrArg some (by kernel_rfl))
 t0:=Tryz.underlying0
 a0:=Tryz.isAgg0
 z0:=Tryz.sizeOf0
 v0:=Tryz.zeroValue0
 t2:=Tryz.underlying2
 a2:=Tryz.isAgg2
 z2:=Tryz.sizeOf2
 v2:=Tryz.zeroValue2
 t3:=Tryz.underlying3
 a3:=Tryz.isAgg3
 z3:=Tryz.sizeOf3
 v3:=Tryz.zeroValue3
 t4:=Tryz.underlying4
 a4:=Tryz.isAgg4
 z4:=Tryz.sizeOf4
 v4:=Tryz.zeroValue4
 t5:=Tryz.underlying5
 a5:=Tryz.isAgg5
 z5:=Tryz.sizeOf5
 v5:=Tryz.zeroValue5
 t9:=Tryz.underlying9
 a9:=Tryz.isAgg9
 z9:=Tryz.sizeOf9
 v9:=Tryz.zeroValue9
 t20:=Tryz.underlying20
 a20:=Tryz.isAgg20
 z20:=Tryz.sizeOf20
 v20:=Tryz.zeroValue20
 t37:=Tryz.underlying124
 a37:=Tryz.isAgg124
 z37:=Tryz.sizeOf124
 v37:=Tryz.zeroValue124
 t46:=Tryz.underlying155
 a46:=Tryz.isAgg155
 z46:=Tryz.sizeOf155
 v46:=Tryz.zeroValue155
 t51:=Tryz.underlying193
 a51:=Tryz.isAgg193
 z51:=Tryz.sizeOf193
 v51:=Tryz.zeroValue193
 t53:=Tryz.underlying129
 a53:=Tryz.isAgg129
 z53:=Tryz.sizeOf129
 v53:=Tryz.zeroValue129
 t171:=Tryz.underlying201
 a171:=Tryz.isAgg201
 z171:=Tryz.sizeOf201
 v171:=Tryz.zeroValue201
 t173:=Tryz.underlying204
 a173:=Tryz.isAgg204
 z173:=Tryz.sizeOf204
 v173:=Tryz.zeroValue204
 t212:=Tryz.underlying213
 a212:=Tryz.isAgg213
 z212:=Tryz.sizeOf213
 v212:=Tryz.zeroValue213
 t213:=Tryz.underlying214
 a213:=Tryz.isAgg214
 z213:=Tryz.sizeOf214
 t232:=Tryz.underlying221
 a232:=Tryz.isAgg221
 z232:=Tryz.sizeOf221
 v232:=Tryz.zeroValue221
 t233:=Tryz.underlying222
 a233:=Tryz.isAgg222
 z233:=Tryz.sizeOf222
 v233:=Tryz.zeroValue222
 g17:=by kernel_rfl
 g18:=by kernel_rfl
 g19:=by kernel_rfl
 i0:=by kernel_rfl
 i2:=by kernel_rfl
 i3:=by kernel_rfl
 i4:=by kernel_rfl
 i5:=by kernel_rfl
 i9:=by kernel_rfl
 i20:=by kernel_rfl
 i37:=by kernel_rfl
 i46:=by kernel_rfl
 i51:=by kernel_rfl
 i53:=by kernel_rfl
 i171:=by kernel_rfl
 i173:=by kernel_rfl
 i212:=by kernel_rfl
 i232:=by kernel_rfl
 i233:=by kernel_rfl
 m17:=by kernel_rfl
 m18:=by kernel_rfl
 m19:=by kernel_rfl }
open Go.RowKit Go.Sort Go.Lib in
/-- strconv.Itoa: "Itoa is equivalent to FormatInt(int64(i), 10).": i's DECIMAL NUMERAL ('Lib.itoa': a '-' where i is negative, then the digits), FOR EVERY int. The world behind the call: the world before it, new blocks behind the heap (the library's 'var a [24]byte'), draws. (LAID: no walk: one application.) -/
theorem Tryz.strconv_Itoa (n : Int) (h0 : -9223372036854775808 ≤ n) (h1 : n ≤ 9223372036854775807) (w : World) (htab : Lib.TabIs Tryz.prog w "internal/strconv.uint64pow10" .u64 Lib.pow10Tab) :
  Calls Tryz.prog 97 #[.int .i64 n] w fun e w'=>e=.returned (.string ⟨(Lib.itoa n).toArray⟩)/\∃k os,w'=grow (w.drewN k) os:=Any.strconv_Itoa Tryz.laysM171 n h0 h1 w htab
def Tryz.lays219_ren:Go.Shelf.Ren:=⟨fun|219=>118|217=>130|225=>159|224=>160|267=>161|266=>171|314=>190|n=>n,fun|9=>9|3=>3|4=>4|5=>5|46=>155|146=>194|51=>193|n=>n,fun|1=>0|n=>n⟩
theorem Tryz.lays219:Go.Proofs.Lays.n219 Tryz.prog Tryz.lays219_ren:={
 mixed:=by kernel_rfl
 f217:=Tryz.func130.trans (congrArg some (by kernel_rfl))
 f219:=Tryz.func118.trans (congrArg some (by kernel_rfl))
 f224:=Tryz.func160.trans (congrArg some (by kernel_rfl))
 f225:=Tryz.func159.trans (congrArg some (by kernel_rfl))
 f266:=Tryz.func171.trans (congrArg some (by kernel_rfl))
 f267:=Tryz.func161.trans (congrArg some (by kernel_rfl))
 f314:=Tryz.func190.trans (congrArg some (by kernel_rfl))
 t3:=Tryz.underlying3
 a3:=Tryz.isAgg3
 z3:=Tryz.sizeOf3
 v3:=Tryz.zeroValue3
 t4:=Tryz.underlying4
 a4:=Tryz.isAgg4
 z4:=Tryz.sizeOf4
 v4:=Tryz.zeroValue4
 t5:=Tryz.underlying5
 a5:=Tryz.isAgg5
 z5:=Tryz.sizeOf5
 v5:=Tryz.zeroValue5
 t9:=Tryz.underlying9
 a9:=Tryz.isAgg9
 z9:=Tryz.sizeOf9
 v9:=Tryz.zeroValue9
 t46:=Tryz.underlying155
 a46:=Tryz.isAgg155
 z46:=Tryz.sizeOf155
 v46:=Tryz.zeroValue155
 t51:=Tryz.underlying193
 a51:=Tryz.isAgg193
 z51:=Tryz.sizeOf193
 v51:=Tryz.zeroValue193
 t146:=Tryz.underlying194
 a146:=Tryz.isAgg194
 z146:=Tryz.sizeOf194
 v146:=Tryz.zeroValue194
 g1:=by kernel_rfl }
open Go.RowKit Go.Lib in
/-- internal/stringslite.Index (what strings.Index calls) AT A substr OF ONE BYTE c: IT RETURNS 'Lib.indexByte s c'; the world is as it was. (LAID: no walk: one application.) -/
theorem Tryz.stringslite_Index_one (s:ByteArray) (c:UInt8) (w:World) :
  Calls Tryz.prog 118 #[.string s,.string ⟨#[c]⟩] w fun e w'=>e=.returned (.int .i64 (jk s.data.toList c))/\w'=w:=Any.stringslite_Index_one Tryz.lays219 s c w
def Tryz.lays144_ren:Go.Shelf.Ren:=⟨fun|144=>89|143=>134|219=>118|217=>130|225=>159|224=>160|267=>161|266=>171|314=>190|n=>n,fun|9=>9|4=>4|3=>3|5=>5|46=>155|146=>194|51=>193|n=>n,fun|1=>0|n=>n⟩
theorem Tryz.lays144:Go.Proofs.Lays.n144 Tryz.prog Tryz.lays144_ren:={
 mixed:=by kernel_rfl
 f143:=Tryz.func134.trans (congrArg some (by kernel_rfl))
 f144:=Tryz.func89.trans (congrArg some (by kernel_rfl))
 f217:=Tryz.func130.trans (congrArg some (by kernel_rfl))
 f219:=Tryz.func118.trans (congrArg some (by kernel_rfl))
 f224:=Tryz.func160.trans (congrArg some (by kernel_rfl))
 f225:=Tryz.func159.trans (congrArg some (by kernel_rfl))
 f266:=Tryz.func171.trans (congrArg some (by kernel_rfl))
 f267:=Tryz.func161.trans (congrArg some (by kernel_rfl))
 f314:=Tryz.func190.trans (congrArg some (by kernel_rfl))
 t3:=Tryz.underlying3
 a3:=Tryz.isAgg3
 z3:=Tryz.sizeOf3
 v3:=Tryz.zeroValue3
 t4:=Tryz.underlying4
 a4:=Tryz.isAgg4
 z4:=Tryz.sizeOf4
 v4:=Tryz.zeroValue4
 t5:=Tryz.underlying5
 a5:=Tryz.isAgg5
 z5:=Tryz.sizeOf5
 v5:=Tryz.zeroValue5
 t9:=Tryz.underlying9
 a9:=Tryz.isAgg9
 z9:=Tryz.sizeOf9
 v9:=Tryz.zeroValue9
 t46:=Tryz.underlying155
 a46:=Tryz.isAgg155
 z46:=Tryz.sizeOf155
 v46:=Tryz.zeroValue155
 t51:=Tryz.underlying193
 a51:=Tryz.isAgg193
 z51:=Tryz.sizeOf193
 v51:=Tryz.zeroValue193
 t146:=Tryz.underlying194
 a146:=Tryz.isAgg194
 z146:=Tryz.sizeOf194
 v146:=Tryz.zeroValue194
 g1:=by kernel_rfl }
open Go.RowKit Go.Lib in
/-- strings.Contains: "Contains reports whether substr is within s.": AT A substr OF ONE BYTE c: IT RETURNS 'decide (0 ≤ Lib.indexByte s c)'; the world is as it was. (LAID: no walk: one application.) -/
theorem Tryz.strings_Contains_one (s:ByteArray) (c:UInt8) (w:World) :
  Calls Tryz.prog 89 #[.string s,.string ⟨#[c]⟩] w fun e w'=>e=.returned (.bool (decide (0<=jk s.data.toList c)))/\w'=w:=Any.strings_Contains_one Tryz.lays144 s c w
def Tryz.lays149_ren:Go.Shelf.Ren:=⟨fun|149=>143|222=>179|n=>n,fun|9=>9|5=>5|3=>3|4=>4|n=>n,fun|n=>n⟩
theorem Tryz.lays149:Go.Proofs.Lays.n149 Tryz.prog Tryz.lays149_ren:={
 mixed:=by kernel_rfl
 f149:=Tryz.func143.trans (congrArg some (by kernel_rfl))
 f222:=Tryz.func179.trans (congrArg some (by kernel_rfl))
 t3:=Tryz.underlying3
 a3:=Tryz.isAgg3
 z3:=Tryz.sizeOf3
 v3:=Tryz.zeroValue3
 t4:=Tryz.underlying4
 a4:=Tryz.isAgg4
 z4:=Tryz.sizeOf4
 v4:=Tryz.zeroValue4
 t5:=Tryz.underlying5
 a5:=Tryz.isAgg5
 z5:=Tryz.sizeOf5
 v5:=Tryz.zeroValue5
 t9:=Tryz.underlying9
 a9:=Tryz.isAgg9
 z9:=Tryz.sizeOf9
 v9:=Tryz.zeroValue9 }
open Go.RowKit Go.Lib in
/-- strings.LastIndexByte: "LastIndexByte returns the index of the last instance of c in s, or -1 if c is not present in s." (LAID: no walk: one application.) -/
theorem Tryz.strings_LastIndexByte (s:ByteArray) (c:Int) (hs:s.size<4611686018427387904) (w:World) :
  Calls Tryz.prog 143 #[.string s,.int .u8 c] w fun e w'=>e=.returned (.int .i64 (Lib.lastIndexByte s c))/\w'=w:=Any.strings_LastIndexByte Tryz.lays149 s c hs w
def Tryz.lays99_ren:Go.Shelf.Ren:=⟨fun|99=>141|206=>172|n=>n,fun|9=>9|4=>4|3=>3|n=>n,fun|n=>n⟩
theorem Tryz.lays99:Go.Proofs.Lays.n99 Tryz.prog Tryz.lays99_ren:={
 mixed:=by kernel_rfl
 f99:=Tryz.func141.trans (congrArg some (by kernel_rfl))
 f206:=Tryz.func172.trans (congrArg some (by kernel_rfl))
 t3:=Tryz.underlying3
 a3:=Tryz.isAgg3
 z3:=Tryz.sizeOf3
 v3:=Tryz.zeroValue3
 t4:=Tryz.underlying4
 a4:=Tryz.isAgg4
 z4:=Tryz.sizeOf4
 v4:=Tryz.zeroValue4
 t9:=Tryz.underlying9
 a9:=Tryz.isAgg9
 z9:=Tryz.sizeOf9
 v9:=Tryz.zeroValue9 }
open Go.RowKit Go.Lib in
/-- strings.HasPrefix: "HasPrefix reports whether the string s begins with prefix.": IT RETURNS 'Lib.hasPrefix s prefix'; the world is as it was. (LAID: no walk: one application.) -/
theorem Tryz.strings_HasPrefix (s p:ByteArray) (w:World) :
  Calls Tryz.prog 141 #[.string s,.string p] w fun e w'=>e=.returned (.bool (zj s.data.toList p.data.toList))/\w'=w:=Any.strings_HasPrefix Tryz.lays99 s p w
def Tryz.laysM155_ren:Go.Shelf.Ren:=⟨fun|155=>169|154=>193|138=>207|165=>180|143=>134|166=>181|197=>208|169=>182|195=>217|218=>218|240=>198|241=>199|219=>118|260=>219|276=>210|277=>211|217=>130|225=>159|224=>160|267=>161|266=>171|314=>190|n=>n,fun|9=>9|3=>3|4=>4|72=>185|0=>0|76=>189|105=>206|21=>21|5=>5|70=>183|20=>20|37=>124|75=>188|127=>200|164=>209|46=>155|119=>217|139=>220|138=>219|146=>194|51=>193|80=>191|n=>n,fun|1=>0|3=>2|4=>3|n=>n⟩
theorem Tryz.laysM155:Go.Proofs.LaysM.n155 Tryz.prog Tryz.laysM155_ren:={
 mixed:=by kernel_rfl
 f138:=Tryz.func207.trans (congrArg some (by kernel_rfl))
 f143:=Tryz.func134.trans (congrArg some (by kernel_rfl))
 f154:=Tryz.func193.trans (congrArg some (by kernel_rfl))
 f155:=Tryz.func169.trans (congrArg some (by kernel_rfl))
 f165:=Tryz.func180.trans (congrArg some (by kernel_rfl))
 f166:=Tryz.func181.trans (congrArg some (by kernel_rfl))
 f169:=Tryz.func182.trans (congrArg some (by kernel_rfl))
 f195:=Tryz.func217.trans (congrArg some (by kernel_rfl))
 f197:=Tryz.func208.trans (congrArg some (by kernel_rfl))
 f217:=Tryz.func130.trans (congrArg some (by kernel_rfl))
 f218:=Tryz.func218.trans (congrArg some (by kernel_rfl))
 f219:=Tryz.func118.trans (congrArg some (by kernel_rfl))
 f224:=Tryz.func160.trans (congrArg some (by kernel_rfl))
 f225:=Tryz.func159.trans (congrArg some (by kernel_rfl))
 f240:=Tryz.func198.trans (congrArg some (by kernel_rfl))
 f241:=Tryz.func199.trans (congrArg some (by kernel_rfl))
 f260:=Tryz.func219.trans (congrArg some (by kernel_rfl))
 f266:=Tryz.func171.trans (congrArg some (by kernel_rfl))
 f267:=Tryz.func161.trans (congrArg some (by kernel_rfl))
 f276:=Tryz.func210.trans (congrArg some (by kernel_rfl))
 f277:=Tryz.func211.trans (congrArg some (by kernel_rfl))
 f314:=Tryz.func190.trans (congrArg some (by kernel_rfl))
 t0:=Tryz.underlying0
 a0:=Tryz.isAgg0
 z0:=Tryz.sizeOf0
 v0:=Tryz.zeroValue0
 t3:=Tryz.underlying3
 a3:=Tryz.isAgg3
 z3:=Tryz.sizeOf3
 v3:=Tryz.zeroValue3
 t4:=Tryz.underlying4
 a4:=Tryz.isAgg4
 z4:=Tryz.sizeOf4
 v4:=Tryz.zeroValue4
 t5:=Tryz.underlying5
 a5:=Tryz.isAgg5
 z5:=Tryz.sizeOf5
 v5:=Tryz.zeroValue5
 t9:=Tryz.underlying9
 a9:=Tryz.isAgg9
 z9:=Tryz.sizeOf9
 v9:=Tryz.zeroValue9
 t20:=Tryz.underlying20
 a20:=Tryz.isAgg20
 z20:=Tryz.sizeOf20
 v20:=Tryz.zeroValue20
 t21:=Tryz.underlying21
 a21:=Tryz.isAgg21
 z21:=Tryz.sizeOf21
 v21:=Tryz.zeroValue21
 t37:=Tryz.underlying124
 a37:=Tryz.isAgg124
 z37:=Tryz.sizeOf124
 v37:=Tryz.zeroValue124
 t46:=Tryz.underlying155
 a46:=Tryz.isAgg155
 z46:=Tryz.sizeOf155
 v46:=Tryz.zeroValue155
 t51:=Tryz.underlying193
 a51:=Tryz.isAgg193
 z51:=Tryz.sizeOf193
 v51:=Tryz.zeroValue193
 t70:=Tryz.underlying183
 a70:=Tryz.isAgg183
 z70:=Tryz.sizeOf183
 v70:=Tryz.zeroValue183
 t72:=Tryz.underlying185
 a72:=Tryz.isAgg185
 z72:=Tryz.sizeOf185
 v72:=Tryz.zeroValue185
 t75:=Tryz.underlying188
 a75:=Tryz.isAgg188
 z75:=Tryz.sizeOf188
 v75:=Tryz.zeroValue188
 t76:=Tryz.underlying189
 a76:=Tryz.isAgg189
 z76:=Tryz.sizeOf189
 v76:=Tryz.zeroValue189
 t105:=Tryz.underlying206
 a105:=Tryz.isAgg206
 z105:=Tryz.sizeOf206
 v105:=Tryz.zeroValue206
 t119:=Tryz.underlying217
 a119:=Tryz.isAgg217
 z119:=Tryz.sizeOf217
 t127:=Tryz.underlying200
 a127:=Tryz.isAgg200
 z127:=Tryz.sizeOf200
 v127:=Tryz.zeroValue200
 t138:=Tryz.underlying219
 a138:=Tryz.isAgg219
 z138:=Tryz.sizeOf219
 v138:=Tryz.zeroValue219
 t139:=Tryz.underlying220
 a139:=Tryz.isAgg220
 z139:=Tryz.sizeOf220
 v139:=Tryz.zeroValue220
 t146:=Tryz.underlying194
 a146:=Tryz.isAgg194
 z146:=Tryz.sizeOf194
 v146:=Tryz.zeroValue194
 t164:=Tryz.underlying209
 a164:=Tryz.isAgg209
 z164:=Tryz.sizeOf209
 v164:=Tryz.zeroValue209
 g1:=by kernel_rfl
 g3:=by kernel_rfl
 g4:=by kernel_rfl
 t80:=Tryz.underlying191
 a80:=Tryz.isAgg191
 z80:=Tryz.sizeOf191
 v80:=Tryz.zeroValue191
 i0:=by kernel_rfl
 i3:=by kernel_rfl
 i4:=by kernel_rfl
 i5:=by kernel_rfl
 i9:=by kernel_rfl
 i20:=by kernel_rfl
 i21:=by kernel_rfl
 i37:=by kernel_rfl
 i46:=by kernel_rfl
 i51:=by kernel_rfl
 i70:=by kernel_rfl
 i72:=by kernel_rfl
 i75:=by kernel_rfl
 i76:=by kernel_rfl
 i80:=by kernel_rfl
 i105:=by kernel_rfl
 i127:=by kernel_rfl
 i138:=by kernel_rfl
 i139:=by kernel_rfl
 i146:=by kernel_rfl
 i164:=by kernel_rfl
 m1:=by kernel_rfl
 s1_3:=fun w h=>Go.Proofs.cell_of_shapedOpen_int (zero:=#[.int .i64 0]) (t:=3) h (of_decide_eq_true (by kernel_rfl)) (by kernel_rfl) rfl (by kernel_rfl) (by kernel_rfl) Tryz.underlying3
 m3:=by kernel_rfl
 m4:=by kernel_rfl }
theorem Tryz.Builder_Extra_M155:Builder.Extra Tryz.prog Tryz.laysM155_ren:={
 sizeBuilder:=by kernel_rfl
 liesBuilder:=by kernel_rfl
 t5:=Tryz.underlying5
 a5:=Tryz.isAgg5
 z5:=Tryz.sizeOf5
 v5:=Tryz.zeroValue5
 infoByte:=by kernel_rfl
 cellsByte:=by kernel_rfl
 sizeByte:=by kernel_rfl
 neB5:=by decide }
open Go.RowKit Go.Lib in
/-- strings.ReplaceAll, old not empty. (LAID: no walk: one application.) -/
theorem Tryz.strings_ReplaceAll_shaped (s old new:ByteArray) (w:World) (h:w.ShapedOpen Tryz.prog) (hs:s.size<4294967281) (h1:1<=old.size) (hlen:s.size+Lib.countB s old*new.size<=140737488355328) :
  Calls Tryz.prog 169 #[.string s,.string old,.string new] w fun e w'=>
   e=.returned (.string ⟨(Lib.replaceAll s.data.toList old.data.toList new.data.toList).toArray⟩)/\Below w.heap.size w w':=Any.strings_ReplaceAll_shaped Tryz.laysM155 Tryz.Builder_Extra_M155 s old new w h hs h1 hlen
end Go.Proofs
namespace Go.Proofs.YtbgaknpnkcdbfaaGreatDoor
open Go.RowKit
open Int renaming toNat_natCast->zt
open Lib renaming hid->zb, indexByte->jk
open List renaming append_assoc->zu, append_nil->qm, cons_append->ja, dropWhile_cons->yc, drop_of_length_le->xg, eq_nil_of_length_eq_zero->qz, getD_eq_getElem?_getD->jz, getElem?_eq_getElem->zk, length->jd, length_append->zg, length_drop->zr, length_map->qk, length_set->zh, length_take->zq, map_append->ji, map_cons->zl, replicate->qw, take_of_length_le->jm, take_succ_eq_append_getElem->xk
open Nat renaming le_refl->ze, sub_self->xf, zero_le->zd
theorem Bi {a b:Bool} (h:a=b):Ending.returned (.bool a)=.returned (.bool b):=by rw[h]
theorem EP {k:IntKind} {a b:Int} (h:a=b):Ending.returned (.int k a)=.returned (.int k b):=by rw[h]
theorem NW {a b:ByteArray} (h:a=b):Ending.returned (.string a)=.returned (.string b):=by rw[h]
theorem OP {a b:List UInt8} (h:a=b):Ending.returned (.string ⟨a.toArray⟩)=.returned (.string ⟨b.toArray⟩):=by rw[h]
theorem dd {p q:Prop} [Decidable p] [Decidable q] (h:p↔q):decide p=decide q:=decide_eq_decide.2 h
theorem dt {q:Prop} [Decidable q] (h:q):true=decide q:=(decide_eq_true h).symm
theorem df {q:Prop} [Decidable q] (h:¬q):false=decide q:=(decide_eq_false h).symm
abbrev S (l:List UInt8):ByteArray:=⟨l.toArray⟩
theorem AL (l:List UInt8):(S l).size=l.length:=size_of_list l
theorem AO (l:List UInt8):(S l).data.toList=l:=rfl
theorem Ir (s:ByteArray):S s.data.toList=s:=rfl
theorem Ay (s:ByteArray):s.data.toList.length=s.size:=rfl
theorem Vv (c:UInt8):((c.toNat:Int)).toNat.toUInt8=c:=by rw[zt];exact UInt8.ofNat_toNat
theorem Km (s:ByteArray) (k:Nat) (h:k<s.size):s.data.toList[k]'(by rw[Ay];exact h)=s[k]:=rfl
theorem Ud (s:ByteArray) (k:Nat) (h:k<s.size):s.data.toList.getD k 0=s[k]:=by
 rw[jz,zk (by rw[Ay];exact h)];rfl
theorem Ic (s:ByteArray) (k:Nat) (h:k<s.size):s.data.toList.take (k+1)=s.data.toList.take k++[s[k]]:=by
 rw[xk (by simpa using h)];rfl
theorem Dv (s:ByteArray) (k:Nat) (h:k<s.size):s.data.toList.drop k=s[k]::s.data.toList.drop (k+1):=by
 rw[List.drop_eq_getElem_cons (by simpa using h)];rfl
theorem GL {s:ByteArray} (h:s.size=0):s=S []:=by
 have:s.data.toList=[]:=qz (by rw[Ay];exact h);rw[<-Ir s,this]
def Qb (w w':World):Prop:=Below w.heap.size w w'
theorem Qb.refl (w:World):Qb w w:=Below.refl _ _
theorem Qb.trans {a b c:World} (h:Qb a b) (k:Qb b c):Qb a c:=Below.trans h (Below.mono k h.size)
theorem Qb.alloc {a b:World} (h:Qb a b) (o:Obj):Qb a (b.alloc o):=Below.alloc h h.size o
theorem Qb.drew {a b:World} (h:Qb a b):Qb a b.drew:=Below.drew h
theorem Qb.drewN {a b:World} (h:Qb a b) (n:Nat):Qb a (b.drewN n):=below_drewN h n
theorem Qb.set {a b:World} (h:Qb a b) {p:Addr} (hp:a.heap.size<=p.block) (u:Value):Qb a (b.setCell p u):=Below.setCell h hp u
theorem Qb.grown {a b c:World} (h:Qb a b) {row:Option Nat} (hg:b.grownBy c row) (hr:∀k,row=some k->a.heap.size<=k):Qb a c:=Below.grown h hg h.size hr
theorem Qb.size {a b:World} (h:Qb a b):a.heap.size<=b.heap.size:=Below.size h
theorem Qb.below {a b:World} (h:Qb a b):Below a.heap.size a b:=h
def Dd (r:Int×List UInt8):Value:=.tuple #[.string (S r.2),.int .i64 r.1]
def Q9:Value->Nat | .string c=>c.size|_=>0
theorem Ek (c:ByteArray):Q9 (.string c)=c.size:=rfl
theorem size_extract (c:ByteArray) (a b:Nat) (h:b<=c.size):(c.extract a b).size=b - a:=by
 rw[ByteArray.size_extract];omega
theorem KS {P:Program} {f:FuncId} {args:Array Value} {w:World} {n:Nat} {v:Value}
  (h:Calls P f args (w.drewN n) fun e w'=>e=.returned v/\w.drewN n=w'):Calls P f args (w.drewN n) fun e w''=>e=.returned v/\∃m,w''=w.drewN m :=
 h.mono fun _ _ ⟨he,hm⟩=>⟨he,n,hm.symm⟩
def G9 (c:UInt8):Bool:=decide (65<=c.toNat/\c.toNat<=90)
def Ce (c:UInt8):Bool:=decide (97<=c.toNat/\c.toNat<=122\/65<=c.toNat/\c.toNat<=90)
def Av (c:UInt8):Bool:=decide (48<=c.toNat/\c.toNat<=57)
def A9 (c:UInt8):Bool:=decide (48<=c.toNat/\c.toNat<=57\/97<=c.toNat/\c.toNat<=102\/65<=c.toNat/\c.toNat<=70)
def AI (c:UInt8) (l:List UInt8):Bool:=l.contains c
theorem ZL (c:UInt8):AI c []=false:=rfl
theorem qS (c d:UInt8):(c==d)=(d.toNat==c.toNat):=by
 by_cases h:c=d
 ·subst h;rw[beq_self_eq_true,beq_self_eq_true]
 ·rw[beq_eq_false_iff_ne.2 h,beq_eq_false_iff_ne.2 (fun e=>h (UInt8.toNat_inj.1 e).symm)]
theorem Ue (l:List UInt8) (c d:UInt8):AI c (l++[d])=(AI c l||(d.toNat==c.toNat)):=by
 unfold AI;rw[<-qS];simp only[List.contains_append,List.contains_cons,List.contains_nil,Bool.or_false]
def M5 (c:UInt8):Bool:=Ce c||Av c
def BY (c:UInt8):Bool:=M5 c||AI c [45,46,95,126]
theorem kN (c:UInt8) (w:World) :
  Calls Tryz.prog 144 #[.int .u8 c.toNat] w fun e w'=>e=.returned (.bool (G9 c))/\w=w':=by
 go_enter Tryz.func144,Tryz.ntmps144
 go_wp2
 all_goals go_ret
 all_goals exact⟨Bi (by unfold G9;first|exact dt (by omega)|exact df (by omega)|(rw[Bool.eq_iff_iff];simp only[Bool.or_eq_true,Bool.and_eq_true,decide_eq_true_eq];omega)),rfl⟩
theorem Gq (c:UInt8) (w:World) :
  Calls Tryz.prog 131 #[.int .u8 c.toNat] w fun e w'=>e=.returned (.bool (Ce c))/\w=w':=by
 go_enter Tryz.func131,Tryz.ntmps131
 go_wp2
 all_goals go_ret
 all_goals exact⟨Bi (by unfold Ce;first|exact dt (by omega)|exact df (by omega)|(rw[Bool.eq_iff_iff];simp only[Bool.or_eq_true,Bool.and_eq_true,decide_eq_true_eq];omega)),rfl⟩
theorem Fa (c:UInt8) (w:World) :
  Calls Tryz.prog 132 #[.int .u8 c.toNat] w fun e w'=>e=.returned (.bool (Av c))/\w=w':=by
 go_enter Tryz.func132,Tryz.ntmps132
 go_wp2
 all_goals go_ret
 all_goals exact⟨Bi (by unfold Av;first|exact dt (by omega)|exact df (by omega)|(rw[Bool.eq_iff_iff];simp only[Bool.or_eq_true,Bool.and_eq_true,decide_eq_true_eq];omega)),rfl⟩
theorem dK (c:UInt8) (w:World) :
  Calls Tryz.prog 162 #[.int .u8 c.toNat] w fun e w'=>e=.returned (.bool (A9 c))/\w=w':=by
 go_enter Tryz.func162,Tryz.ntmps162
 go_wp2
 all_goals go_ret
 all_goals exact⟨Bi (by unfold A9;first|exact dt (by omega)|exact df (by omega)|(rw[Bool.eq_iff_iff];simp only[Bool.or_eq_true,Bool.and_eq_true,decide_eq_true_eq];omega)),rfl⟩
theorem jN (c:UInt8) (s:ByteArray) (w:World) :
  Calls Tryz.prog 178 #[.int .u8 c.toNat,.string s] w fun e w'=>e=.returned (.bool (AI c s.data.toList))/\w=w':=by
 go_enter Tryz.func178,Tryz.ntmps178
 go_wp2_with (go_at_call 84;refine(Tryz.strings_IndexByte _ _ _).mono ?_;rintro e w' ⟨rfl,rfl⟩)
 go_ret
 exact⟨Bi (by unfold AI;rw[Lib.contains_iff_indexByte]),rfl⟩
theorem ZP (c:UInt8) (w:World) :
  Calls Tryz.prog 177 #[.int .u8 c.toNat] w fun e w'=>e=.returned (.bool (M5 c))/\w=w':=by
 go_enter Tryz.func177,Tryz.ntmps177
 go_wp2_with (first|(go_at_call 131;refine(Gq _ _).mono ?_;rintro e w' ⟨rfl,rfl⟩)|(go_at_call 132;refine(Fa _ _).mono ?_;rintro e w' ⟨rfl,rfl⟩))
 all_goals go_ret
 all_goals exact⟨Bi (by simp_all [M5]),rfl⟩
theorem MF (c:UInt8) (w:World) :
  Calls Tryz.prog 138 #[.int .u8 c.toNat] w fun e w'=>e=.returned (.bool (BY c))/\w=w':=by
 go_enter Tryz.func138,Tryz.ntmps138
 go_wp2_with (first|(go_at_call 177;refine(ZP _ _).mono ?_;rintro e w' ⟨rfl,rfl⟩)|(go_at_call 178;refine(jN _ _ _).mono ?_;rintro e w' ⟨rfl,rfl⟩))
 all_goals go_ret
 all_goals exact⟨Bi (by simp_all [BY]),rfl⟩
def DS (c:UInt8):UInt8:=if G9 c then c+32 else c
theorem TK (c:UInt8) (w:World) :
  Calls Tryz.prog 94 #[.int .u8 c.toNat] w fun e w'=>e=.returned (.int .u8 (DS c).toNat)/\w=w':=by
 go_enter Tryz.func94,Tryz.ntmps94
 go_wp2_with (go_at_call 144;refine(kN _ _).mono ?_;rintro e w' ⟨rfl,rfl⟩)
 all_goals go_ret
 ·have h:G9 c=true:=by assumption
  exact⟨EP (by simp[DS,h,UInt8.toNat_add]),rfl⟩
 ·have h:G9 c=false:=by assumption
  exact⟨EP (by simp[DS,h]),rfl⟩
theorem FY (c:UInt8) (w:World) :
  Calls Tryz.prog 76 #[.int .u8 c.toNat] w fun e w'=>e=.returned (.bool (Ce c))/\w=w':=by
 go_enter Tryz.func76,Tryz.ntmps76
 go_wp2
 all_goals go_ret
 all_goals exact⟨Bi (by unfold Ce;first|exact dt (by omega)|exact df (by omega)|(rw[Bool.eq_iff_iff];simp only[Bool.or_eq_true,Bool.and_eq_true,decide_eq_true_eq];omega)),rfl⟩
theorem FZ (c:UInt8) (w:World) :
  Calls Tryz.prog 75 #[.int .u8 c.toNat] w fun e w'=>e=.returned (.bool (Av c))/\w=w':=by
 go_enter Tryz.func75,Tryz.ntmps75
 go_wp2
 all_goals go_ret
 all_goals exact⟨Bi (by unfold Av;first|exact dt (by omega)|exact df (by omega)|(rw[Bool.eq_iff_iff];simp only[Bool.or_eq_true,Bool.and_eq_true,decide_eq_true_eq];omega)),rfl⟩
theorem KT (c:UInt8) (w:World) :
  Calls Tryz.prog 184 #[.int .u8 c.toNat] w fun e w'=>e=.returned (.bool (A9 c))/\w=w':=by
 go_enter Tryz.func184,Tryz.ntmps184
 go_wp2
 all_goals go_ret
 all_goals exact⟨Bi (by unfold A9;first|exact dt (by omega)|exact df (by omega)|(rw[Bool.eq_iff_iff];simp only[Bool.or_eq_true,Bool.and_eq_true,decide_eq_true_eq];omega)),rfl⟩
theorem GJ (c:UInt8) (s:ByteArray) (w:World) (hs:s.size<=maxLen) :
  Calls Tryz.prog 73 #[.int .u8 c.toNat,.string s] w fun e w'=>e=.returned (.bool (AI c s.data.toList))/\w=w':=by
 unfold maxLen at hs
 go_enter Tryz.func73,Tryz.ntmps73
 go_wp2
 go_loop [5] (fun i=>∃k:Nat,k<=s.size/\i=.int .i64 k/\AI c (s.data.toList.take k)=false) (fun i=>s.size - (intOf i).toNat)
 case atStart=>exact⟨0,zd _,rfl,ZL c⟩
 case round=>
  obtain⟨k,hk,rfl,hno⟩:=hrel;have HN:=zb hno;clear hno
  by_cases hlt:k<s.size
  ·have HT:=zb (Ic s k hlt)
   go_wp2
   ·have he:(↑s[k].toNat==(↑c.toNat:Int))=true:=by assumption
    go_ret
    have h:AI c s.data.toList=true:=by
     have h1:AI c (s.data.toList.take (k+1))=true:=by
      rw[HT.out,Ue];have:s[k].toNat=c.toNat:=by have:=eq_of_beq he;omega
      simp[this]
     unfold AI at h1 ⊢;rw[List.contains_iff_mem] at h1 ⊢;exact List.mem_of_mem_take h1
    exact⟨Bi h.symm,rfl⟩
   ·have he:(↑s[k].toNat==(↑c.toNat:Int))=false:=by assumption
    go_round
    case rel=>
     refine⟨k+1,by omega,by go_num,?_⟩;rw[HT.out,Ue,HN.out];have:¬s[k].toNat=c.toNat:=by intro h;simp[h] at he
     simp[this]
    case measure=>simp[intOf];omega
  ·go_wp2
   go_ret
   exact⟨Bi (by have h:=HN.out;rw[jm (by rw[Ay];omega)] at h;rw[h]),rfl⟩
theorem KZ (c:UInt8) (w:World) :
  Calls Tryz.prog 155 #[.int .u8 c.toNat] w fun e w'=>e=.returned (.bool (BY c))/\w=w':=by
 go_enter Tryz.func155,Tryz.ntmps155
 go_wp2_with (first|(go_at_call 76;refine(FY _ _).mono ?_;rintro e w' ⟨rfl,rfl⟩)|(go_at_call 75;refine(FZ _ _).mono ?_;rintro e w' ⟨rfl,rfl⟩)|(go_at_call 73;refine(GJ _ _ _ (by decide)).mono ?_;rintro e w' ⟨rfl,rfl⟩))
 all_goals go_ret
 all_goals exact⟨Bi (by simp_all [BY,M5]),rfl⟩
theorem Kj:(Tryz.prog.info? 5).map (fun i=>(i.zero,i.size,i.bytes))=some (some (.int .u8 0),1,1):=by kernel_rfl
def bv (l:List UInt8):List Value:=l.map fun c=>.int .u8 c.toNat
theorem KP (l:List UInt8):(bv l).length=l.length:=by simp[bv]
theorem Mn (a b:List UInt8):bv (a++b)=bv a++bv b:=by simp[bv]
theorem qV (l:List UInt8) (i:Nat) (c:UInt8):(bv l).set i (.int .u8 c.toNat)=bv (l.set i c):=by simp[bv,List.map_set]
theorem qU (l:List UInt8) (i:Nat) (h:i<l.length):(bv l)[i]? = some (.int .u8 l[i].toNat):=by simp[bv,h]
def A0 (w:World) (base:Nat) (v:Value) (l:List UInt8):Prop:=w.ownsRow base 5 1 v l.length (bv l)
theorem A0.nil (w:World) (base:Nat):A0 w base (.slice none 0 0) []:=World.ownsRow_nil w base _ _
theorem A0.drew {w:World} {base:Nat} {v:Value} {l:List UInt8} (h:A0 w base v l):A0 w.drew base v l:=h
theorem A0.drewN {w:World} {base:Nat} {v:Value} {l:List UInt8} (h:A0 w base v l) (n:Nat):A0 (w.drewN n) base v l:=h
theorem A0.alloc {w:World} {base:Nat} {v:Value} {l:List UInt8} (h:A0 w base v l) (o:Obj):A0 (w.alloc o) base v l:=World.ownsRow.alloc h o
theorem A0.below {w w':World} {base:Nat} {v:Value} {l:List UInt8} (h:A0 w base v l) (hb:Qb w w'):A0 w' base v l:=by
 refine World.ownsRow.kept (row:=none) h ⟨hb.os,hb.tape,hb.output,Below.size hb,fun k hk _=>Below.block hb k hk⟩ ?_;rcases h.2 with ⟨rfl,_⟩|⟨g,cap,cur,rfl,_⟩
 ·exact .inl rfl
 ·exact .inr (by simp[Value.ownBlock])
theorem Tx:∀(l:List UInt8) (s:ByteArray),(l.map fun c=>(c.toNat:Int)).foldl (fun r n=>r.push (UInt8.ofNat n.toNat)) s=⟨s.data++l.toArray⟩
 | [],s=>by simp
 | n::ns,s=>by
  rw[zl,List.foldl_cons,Tx ns];simp[ByteArray.push]
theorem JD {w:World} {base:Nat} {v:Value} {l:List UInt8} (h:A0 w base v l) :
  (convert 124 9 v).run Tryz.prog w=.ok (.string ⟨l.toArray⟩) w:=by
 rcases h.2 with ⟨rfl,hn⟩|⟨g,cap,cur,rfl,hb,hg,hnc,hcm,hcs,htake⟩
 ·have:l=[]:=qz hn;subst this;exact run_convert_bytes_nil w 124 5 Tryz.underlying124 Tryz.underlying5 0 0 _ Tryz.underlying9
 ·have hl:(loadCells ⟨g,0,none⟩ l.length).run Tryz.prog w=.ok ((l.map fun c=>(c.toNat:Int)).map (Value.int .u8)).toArray w:=by
   have:=run_loadCells_list (P:=Tryz.prog) w ⟨g,0,none⟩ (bv l) (fun j v hj=>World.ownsRow.cells h (g:=g) rfl j v hj);rw[KP] at this;rw[this];simp[bv,Function.comp_def]
  rw[run_convert_bytes_string w _ _ 5 _ _ _ Tryz.underlying124 Tryz.underlying5 Tryz.underlying9,run_bytesToString w _ _ cap _ hl,Tx];simp[ByteArray.empty,ByteArray.emptyWithCapacity]
  rfl
def Ja (c:Nat):Array Value:=madeCells (Value.int .u8 0).cells (c*1)
theorem cI (c:Nat):(Ja c).size=c:=by unfold Ja;rw[size_madeCells];omega
theorem cH (c:Nat):(Ja c).toList=bv (qw c 0):=by
 show (madeCells #[.int .u8 0] (c*1)).toList=_;rw[toList_madeCells_one];simp[bv]
theorem Tg (n c:Nat) (hn:n<=c) (hc:c<=281474976710656) (w:World) :
  (Instr.makeSlice 124 (.int .i64 (n:Int)) (.int .i64 (c:Int))).run Tryz.prog w=.ok (.slice (some ⟨w.heap.size,0,none⟩) n c) (w.alloc (.cells (Ja c) 5)):=by
 obtain⟨i0,hi,hz0,hz1,hz2⟩:=info_parts Kj;have hb:(i0.bytes:Int)*(c:Int)<=281474976710656:=by rw[hz2];omega
 have hr:=run_make (P:=Tryz.prog) w 124 5 i0 (.int .u8 0) Tryz.underlying124 hi hz0 .i64 .i64 n c (by omega) (by omega) hb (by omega);simp only[zt,hz1] at hr;exact hr
theorem Pe (c:Nat) (hc:c<=281474976710656) (w:World) :
  (Instr.makeSlice 124 (.int .i64 0) (.int .i64 (c:Int))).run Tryz.prog w=.ok (.slice (some ⟨w.heap.size,0,none⟩) 0 c) (w.alloc (.cells (Ja c) 5)) :=
 Tg 0 c (zd _) hc w
theorem Mm (w:World) (B n c:Nat) (hB:B<=w.heap.size) (hn:n<=c) (hc:c<=281474976710656) :
  A0 (w.alloc (.cells (Ja c) 5)) B (.slice (some ⟨w.heap.size,0,none⟩) n c) (qw n 0):=by
 refine⟨by simp[KP],.inr ⟨w.heap.size,c,Ja c,by simp,hB,heap_alloc_new w _,by simpa using hn,by simp only[maxLen];omega,by rw[cI];omega,?_⟩⟩;rw[cH,List.length_replicate];simp[bv,List.take_replicate,Nat.min_eq_left hn]
theorem A0.cell {w:World} {B g n cap:Nat} {l:List UInt8} (h:A0 w B (.slice (some ⟨g,0,none⟩) n cap) l) (j:Nat) (hj:j<l.length):w.cell? ⟨g,j,none⟩=some (.int .u8 l[j].toNat):=by
 have h':=h;rcases h'.2 with ⟨e,_⟩|⟨g',cap',cur,e,_⟩
 ·simp at e
 ·simp only[Value.slice.injEq] at e;obtain⟨_,rfl,_⟩:=e;rw[World.ownsRow.cellAt (h:World.ownsRow _ _ _ _ _ _ _) j (by omega),qU l j hj]
theorem A0.frozen {w:World} {B g n cap:Nat} {l:List UInt8} (h:A0 w B (.slice (some ⟨g,0,none⟩) n cap) l) (j:Nat):w.frozen? ⟨g,j,none⟩=false:=by
 have h':=h;rcases h'.2 with ⟨e,_⟩|⟨g',cap',cur,e,_⟩
 ·simp at e
 ·simp only[Value.slice.injEq] at e;obtain⟨_,rfl,_⟩:=e;exact World.ownsRow.frozenAt (h:World.ownsRow _ _ _ _ _ _ _) j
theorem A0.stored {w:World} {B g n cap:Nat} {l:List UInt8} (h:A0 w B (.slice (some ⟨g,0,none⟩) n cap) l) (j:Nat) (c:UInt8) :
  A0 (w.setCell ⟨g,j,none⟩ (.int .u8 c.toNat)) B (.slice (some ⟨g,0,none⟩) n cap) (l.set j c):=by
 have h':=h;rcases h'.2 with ⟨e,_⟩|⟨g',cap',cur,e,_⟩
 ·simp at e
 ·simp only[Value.slice.injEq] at e;obtain⟨_,rfl,_⟩:=e;have:=(World.ownsRow.stored (h:World.ownsRow _ _ _ _ _ _ _) j (.int .u8 c.toNat)).1;unfold A0;rw[<-qV,zh];exact this
def G3 (w:World) (g:Nat) (l:List UInt8):Prop:=∀j (h:j<l.length),w.cell? ⟨g,j,none⟩=some (.int .u8 l[j].toNat)/\w.frozen? ⟨g,j,none⟩=false
theorem CG (g j:Nat):(⟨g,0,none⟩:Addr).add j=⟨g,j,none⟩:=by unfold Addr.add;split<;>simp_all
theorem G3.str {w:World} {g:Nat} {l:List UInt8} (h:G3 w g l) (n cap:Nat) (hn:n=l.length) :
  (convert 124 9 (.slice (some ⟨g,0,none⟩) n cap)).run Tryz.prog w=.ok (.string ⟨l.toArray⟩) w:=by
 subst hn;exact run_convert_bytes_back w _ _ 5 _ cap l Tryz.underlying124 Tryz.underlying5 Tryz.underlying9 (fun j hj=>by rw[CG];exact(h j hj).1)
theorem G3.stored {w:World} {g:Nat} {l:List UInt8} (h:G3 w g l) (k:Nat) (hk:k<l.length) (c:UInt8) :
  G3 (w.setCell ⟨g,k,none⟩ (.int .u8 c.toNat)) g (l.set k c):=by
 intro j hj;rw[zh] at hj;refine⟨?_,(World.frozen?_setCell _ _ _ _).trans (h j hj).2⟩
 by_cases e:k=j
 ·subst e;rw[World.cell?_setCell_same _ _ _ (h k hj).1];simp
 ·rw[World.cell?_setCell_other _ _ _ _ (fun e2=>e (by injection e2)),(h j hj).1];simp[e]
theorem jI (w:World) (s:ByteArray):G3 (Lib.bytesWorld w 5 s) w.heap.size s.data.toList:=by
 intro j hj;rw[Ay] at hj;refine⟨?_,?_⟩
 ·rw[Lib.bytesWorld_cell w _ s j hj,Ud s j hj];rfl
 ·have hs:(Lib.bytesCells w 5 s).size≠j:=by
   have:s.size<=(Lib.bytesCells w 5 s).size:=by
    simp only[Lib.bytesCells,Array.size_append,Array.size_map];exact Nat.le_add_right _ _
   omega
  simp[World.frozen?,Lib.bytesWorld_at_new];omega
theorem kZ (w:World) (e:TypeId) (s:ByteArray):Qb w (Lib.bytesWorld w e s):=by
 refine⟨rfl,rfl,rfl,by rw[Lib.bytesWorld_size];omega,fun k hk=>Lib.bytesWorld_at_old w e s k hk⟩
theorem iN (s:ByteArray) (w:World) :
  (convert 9 124 (.string s)).run Tryz.prog w=.ok (.slice (some ⟨w.heap.size,0,none⟩) s.size (grownCap w s.size 0 5)) (Lib.bytesWorld w 5 s) :=
 Lib.run_convert_string_bytes w _ _ _ s Tryz.underlying9 Tryz.underlying124 Tryz.underlying5
theorem A0.appended {w':World} {B:Nat} {v':Value} {l m:List UInt8} {xs:List Value} {n:Nat} (h:w'.ownsRow B 5 1 v' n xs) (hx:xs=bv (l++m)) (hn:n=(l++m).length):A0 w' B v' (l++m):=by
 subst hx hn;exact h
theorem Rb (vs:List UInt8):∀u∈bv vs,u.oneCell'=true:=by
 intro u hu;obtain⟨c,_,rfl⟩:=List.mem_map.1 hu
 rfl
theorem MH {w w':World} {B:Nat} {v:Value} {l:List UInt8} (h:A0 w B v l) (hB:B<=w.heap.size) (hg:w.grownBy w' v.ownBlock):Below B w w' :=
 (Below.refl B w).grown hg hB (fun k hk=>(World.ownsRow.lt h k hk).1)
theorem Ih {w:World} {ops:Array Oper} {rest:List Oper} {o:Oper} {a:Act} {Q:Exit->Act->World->Prop} (hgd:o.guard=none) (s x:Operand)
  (ho:o.op=.call { callee:=.builtin .append,args:=#[s,x],argTypes:=#[124,124] })
  (B:Nat) (v:Value) (l m:List UInt8) (hs:a.eval s=v) (hrow:A0 w B v l) (ad:Addr) (n c:Nat) (hx:a.eval x=.slice (some ad) n c) (hn:n=m.length)
  (hnews:∀j u,(bv m)[j]? = some u->w.cell? (ad.add j)=some u) (hlen:l.length+m.length<=140737488355328) (hB:B<=w.heap.size)
  (h:∀v' w',A0 w' B v' (l++m)->Below B w w'->wpList Tryz.prog ops Q rest (a.put o.dst v') w'):wpList Tryz.prog ops Q (o::rest) a w:=by
 obtain⟨i0,hi,hz0,hz1,hz2⟩:=info_parts Kj;subst hn;exact wpList_append_own w hgd s x _ ho B 5 i0 _ 1 1 Tryz.underlying124 hi hz0 hz1 hz2 rfl (by omega) v l.length (bv l) hs hrow ad m.length c (bv m) hx (by rw[KP];omega) hnews (Rb m)
  (by simp only[maxLen];omega) (by omega) hB fun v' w' h1 h2 _=>h v' w' (A0.appended h1 (Mn l m).symm (by simp)) (MH hrow hB h2)
theorem lY {w:World} {ops:Array Oper} {o:Oper} {a:Act} {K:Act->World->Prop} {Q:Exit->Act->World->Prop} {E:Prop} (hgd:o.guard=none) (s x:Operand)
  (ho:o.op=.call { callee:=.builtin .append,args:=#[s,x],argTypes:=#[124,124] })
  (B:Nat) (v:Value) (l m:List UInt8) (hs:a.eval s=v) (hrow:A0 w B v l) (ad:Addr) (n c:Nat) (hx:a.eval x=.slice (some ad) n c) (hn:n=m.length)
  (hnews:∀j u,(bv m)[j]? = some u->w.cell? (ad.add j)=some u) (hlen:l.length+m.length<=140737488355328) (hB:B<=w.heap.size)
  (h:∀v' w',A0 w' B v' (l++m)->Below B w w'->K (a.put o.dst v') w'):if Region.wanted o (yielded ops a.tmps)=true then Oper.wp Tryz.prog o a w K Q else E:=by
 have hw:Region.wanted o (yielded ops a.tmps)=true:=by simp[Region.wanted,hgd]
 rw[if_pos hw];obtain⟨i0,hi,hz0,hz1,hz2⟩:=info_parts Kj;subst hn;exact wp_append_own w s x _ ho B 5 i0 _ 1 1 Tryz.underlying124 hi hz0 hz1 hz2 rfl (by omega) v l.length (bv l) hs hrow ad m.length c (bv m) hx (by rw[KP];omega) hnews (Rb m)
  (by simp only[maxLen];omega) (by omega) hB fun v' w' h1 h2 _=>h v' w' (A0.appended h1 (Mn l m).symm (by simp)) (MH hrow hB h2)
theorem U7 (s:ByteArray):Lib.strCells s=bv s.data.toList:=by simp[Lib.strCells,bv]
theorem nH {w:World} {ops:Array Oper} {rest:List Oper} {o:Oper} {a:Act} {Q:Exit->Act->World->Prop} (hgd:o.guard=none) (sl x:Operand)
  (ho:o.op=.call { callee:=.builtin .append,args:=#[sl,x],argTypes:=#[124,9] })
  (B:Nat) (v:Value) (l:List UInt8) (hs:a.eval sl=v) (hrow:A0 w B v l) (s:ByteArray) (hx:a.eval x=.string s)
  (hlen:l.length+s.size<=140737488355328) (hB:B<=w.heap.size)
  (h:∀v' w',A0 w' B v' (l++s.data.toList)->Below B w w'->wpList Tryz.prog ops Q rest (a.put o.dst v') w'):wpList Tryz.prog ops Q (o::rest) a w:=by
 obtain⟨i0,hi,hz0,hz1,hz2⟩:=info_parts Kj;exact Lib.wpList_append_own_string w hgd sl x _ _ ho B 5 i0 Tryz.underlying124 Tryz.underlying9 hi hz0 hz1 hz2 v l.length (bv l) hs hrow s hx
  (by simp only[maxLen];omega) hlen hB fun v' w' h1 h2 _=>h v' w' (A0.appended h1 (by rw[U7,Mn]) (by rw[zg,Ay])) (MH hrow hB h2)
theorem KB (W:World) (xs:List Int) (n:Nat) (hn:n=xs.length) :
  (convert 124 9 (.slice (some ⟨W.heap.size,0,none⟩) n n)).run Tryz.prog (W.alloc (.cells (xs.map (Value.int .u8)).toArray 5))=.ok (.string (strOfNums xs)) (W.alloc (.cells (xs.map (Value.int .u8)).toArray 5)):=by
 refine run_convert_bytes_arg _ 124 5 Tryz.underlying124 Tryz.underlying5 W.heap.size 0 n n xs hn.symm ?_ _ Tryz.underlying9;intro i hi;rw[World.cell?_alloc_at _ _ _ _ rfl];have h:i<xs.length:=by omega
 simp[List.getD,zk h]
def Bw (l:List UInt8):List UInt8:=l.map DS
theorem XR (l:List UInt8) (k n:Nat) (hn:l.length=n) (hk:k<n) :
  (Bw (l.take k)++qw (n - k) 0).set k (DS (l[k]'(by omega)))=Bw (l.take (k+1))++qw (n - (k+1)) 0:=by
 have h1:(Bw (l.take k)).length=k:=by simp[Bw];omega
 rw[List.set_append_right _ _ (by omega),h1,xf,show n - k=(n - (k+1))+1 from by omega,List.replicate_succ,List.set_cons_zero,xk (by omega)];simp only[Bw,ji,zl,List.map_nil,zu,List.singleton_append]
theorem TU (s:ByteArray) (w:World) (hs:s.size<=140737488351232) :
  Calls Tryz.prog 175 #[.string s] w fun e w'=>e=.returned (.string (S (Bw s.data.toList)))/\Qb w w':=by
 have hmk:=fun W=>Tg s.size s.size (ze _) (by omega) W
 go_enter Tryz.func175,Tryz.ntmps175
 go_wp2_with fail
 clear hmk
 go_loopw [4,10] (fun _ i wr=>∃k:Nat,k<=s.size/\i=.int .i64 k/\A0 wr w.heap.size (.slice (some ⟨w.heap.size,0,none⟩) s.size s.size) (Bw (s.data.toList.take k)++qw (s.size - k) 0)/\Qb w wr) (fun _ i _=>s.size - (intOf i).toNat)
 case atStart=>exact⟨0,zd _,rfl,Mm w _ _ _ (ze _) (ze _) (by omega),(Qb.refl w).alloc _⟩
 case round=>
  obtain⟨k,hk,rfl,hrow,hq⟩:=hrel
  by_cases hlt:k<s.size
  ·have hlen:(Bw (s.data.toList.take k)++qw (s.size - k) 0).length=s.size:=by simp[Bw,Ay];omega
   obtain⟨u,hc⟩:∃u,wr.cell? ⟨w.heap.size,k,none⟩=some u:=⟨_,hrow.cell k (by omega)⟩;have hf:wr.frozen? ⟨w.heap.size,k,none⟩=false:=hrow.frozen k;have hrow':=hrow.stored k (DS s[k]);have hset:=XR s.data.toList k s.size (Ay s) hlt;rw[Km s k hlt] at hset;rw[hset] at hrow';clear hset hrow hlen;have HR:=zb hrow';clear hrow'
   go_wp2_with (go_at_call 94;refine(TK _ _).mono ?_;rintro e w' ⟨rfl,rfl⟩)
   go_roundw
   case rel=>exact⟨k+1,by omega,by go_num,HR.out,hq.set (ze _) _⟩
   case measure=>simp[intOf];omega
  ·obtain rfl:k=s.size:=by omega
   have hl:Bw (s.data.toList.take s.size)++qw (s.size - s.size) 0=Bw s.data.toList:=by
    rw[jm (by rw[Ay];omega)];simp
   rw[hl] at hrow;have hst:=JD hrow;clear hl
   go_wp2
   go_ret
   exact⟨rfl,hq⟩
def Gj (l:List UInt8):Bool:=l.all Av&&!l.isEmpty
def En (a b:List UInt8):Bool:=Bw a==Bw b
theorem FS (p:UInt8->Bool) (s:ByteArray) (k:Nat) (h:k<s.size):(s.data.toList.take (k+1)).all p=((s.data.toList.take k).all p&&p s[k]):=by
 rw[Ic s k h,List.all_append];simp
theorem Ig (p:UInt8->Bool) (l:List UInt8) (k:Nat) (h:(l.take k).all p=false):l.all p=false:=by
 rw[<-List.take_append_drop k l,List.all_append,h,Bool.false_and]
theorem Fu (s:ByteArray) (k:Nat) (h:¬k<s.size):s.data.toList.take k=s.data.toList:=jm (by rw[Ay];omega)
theorem fI (s:ByteArray) (w:World) (hs:s.size<=maxLen) :
  Calls Tryz.prog 195 #[.string s] w fun e w'=>e=.returned (.bool (Gj s.data.toList))/\w=w':=by
 unfold maxLen at hs
 go_enter Tryz.func195,Tryz.ntmps195
 go_wp2_with fail
 go_loop [3,6] (fun _ i=>∃k:Nat,k<=s.size/\i=.int .i64 k/\Hid ((s.data.toList.take k).all Av=true)) (fun _ i=>s.size - (intOf i).toNat)
 case atStart=>exact⟨0,zd _,rfl,zb rfl⟩
 case round=>
  obtain⟨k,hk,rfl,HA⟩:=hrel
  by_cases hlt:k<s.size
  ·have HT:=zb (FS Av s k hlt)
   go_wp2_with (go_at_call 132;refine(Fa _ _).mono ?_;rintro e w' ⟨rfl,rfl⟩)
   ·have hd:(!Av s[k])=true:=by assumption
    go_ret
    exact⟨Bi (by
     unfold Gj;rw[Ig Av _ (k+1) (by rw[HT.out];simpa using fun _=>hd)];rfl),rfl⟩
   ·have hd:(!Av s[k])=false:=by assumption
    go_round
    case rel=>exact⟨k+1,by omega,by go_num,zb (by rw[HT.out,HA.out];simpa using hd)⟩
    case measure=>simp[intOf];omega
  ·have HF:Hid ((s.data.toList).all Av=true):=zb (by rw[<-Fu s k hlt];exact HA.out)
   go_wp2_with fail
   go_ret
   exact⟨Bi (by rw[ByteArray.toList_eq];unfold Gj;rw[HF.out];rfl),rfl⟩
theorem Yb {a b:List UInt8} (h:a.length≠b.length):En a b=false:=by
 unfold En Bw;rw[beq_eq_false_iff_ne];intro e;exact h (by have:=congrArg jd e;simpa using this)
theorem Te (s:ByteArray) (k:Nat) (h:k<s.size):Bw (s.data.toList.take (k+1))=Bw (s.data.toList.take k)++[DS s[k]]:=by
 rw[Ic s k h];simp[Bw]
theorem tG {a b:List UInt8} {k:Nat} (h:Bw (a.take k)≠Bw (b.take k)):En a b=false:=by
 unfold En;rw[beq_eq_false_iff_ne];intro e
 apply h
 simp only[Bw,List.map_take] at e ⊢;rw[e]
theorem dJ (a b:ByteArray) (w:World) (ha:a.size<=maxLen) (hb:b.size<=maxLen) :
  Calls Tryz.prog 47 #[.string a,.string b] w fun e w'=>e=.returned (.bool (En a.data.toList b.data.toList))/\Qb w w':=by
 unfold maxLen at ha hb
 go_enter Tryz.func47,Tryz.ntmps47
 by_cases hl:a.size=b.size
 ·have HL:=zb hl;have hl1:a.size<=b.size:=by omega
  have hb1:((a.size:Int) != (b.size:Int))=false:=by simp[hl]
  clear hl
  go_wp2_with fail
  go_loopw [5,13] (fun _ i wr=>∃k:Nat,k<=a.size/\i=.int .i64 k/\Hid (Bw (a.data.toList.take k)=Bw (b.data.toList.take k))/\Qb w wr) (fun _ i _=>a.size - (intOf i).toNat)
  case atStart=>exact⟨0,zd _,rfl,zb rfl,Qb.refl w⟩
  case round=>
   obtain⟨k,hk,rfl,HA,hq⟩:=hrel
   by_cases hlt:k<a.size
   ·have hlt2:k<b.size:=by omega
    have HT:=zb (Te a k hlt);have HU:=zb (Te b k hlt2)
    go_wp2_with fail
    go_quiet ((go_at_call 94;exact KS (TK _ _)))
    go_wp2_with fail
    ·have hd:((DS a[k]).toNat:Int) != ((DS b[k]).toNat:Int):=by assumption
     go_ret
     refine⟨Bi (tG (k:=k+1) ?_).symm,hq.drewN _⟩;rw[HT.out,HU.out,HA.out];intro e;have e1:=List.append_cancel_left e;injection e1 with e1
     rw[e1] at hd;simp at hd
    ·have hd:(((DS a[k]).toNat:Int) != ((DS b[k]).toNat:Int))=false:=by assumption
     go_roundw
     case rel=>
      refine⟨k+1,by omega,by go_num,zb ?_,hq.drewN _⟩;rw[HT.out,HU.out,HA.out];have e1:(DS a[k]).toNat=(DS b[k]).toNat:=by simp only[bne_eq_false_iff_eq] at hd;omega
      rw[UInt8.toNat_inj.1 e1]
     case measure=>simp[intOf];omega
   ·go_wp2_with fail
    go_ret
    refine⟨Bi ?_,hq⟩;have h:=HA.out;rw[Fu a k hlt,Fu b k (by have:=HL.out;omega)] at h;unfold En;rw[h,beq_self_eq_true]
 ·have hb1:((a.size:Int) != (b.size:Int))=true:=by simp;omega
  have HL:=zb hl;clear hl
  go_wp2_with fail
  go_ret
  exact⟨Bi (Yb (by rw[Ay,Ay];exact HL.out)).symm,Qb.refl w⟩
theorem Td (s:ByteArray) (k:Nat) (hk:k<s.size) :
  (Bw (s.data.toList.take k)++s.data.toList.drop k).set k (DS s[k])=Bw (s.data.toList.take (k+1))++s.data.toList.drop (k+1):=by
 have h1:(Bw (s.data.toList.take k)).length=k:=by simp only[Bw,qk,zq,Ay];omega
 rw[List.set_append_right _ _ (by omega),h1,xf,Dv s k hk,List.set_cons_zero,Ic s k hk];simp only[Bw,ji,zl,List.map_nil,zu,List.singleton_append]
theorem Tc (s:ByteArray) (k:Nat) (hk:k<s.size) (h:k<(Bw (s.data.toList.take k)++s.data.toList.drop k).length) :
  (Bw (s.data.toList.take k)++s.data.toList.drop k)[k]'h=s[k]:=by
 have h1:(Bw (s.data.toList.take k)).length=k:=by simp only[Bw,qk,zq,Ay];omega
 rw[List.getElem_append_right (by omega)];simp only[h1,xf];simp only[Dv s k hk,List.getElem_cons_zero]
theorem cE {c:UInt8} (h1:65<=(c.toNat:Int)) (h2:(c.toNat:Int)<=90):((c.toNat:Int)+32) % 256=((DS c).toNat:Int):=by
 have:G9 c=true:=by unfold G9;exact decide_eq_true (by omega)
 simp[DS,this,UInt8.toNat_add]
theorem eL {c:UInt8} (h1:65<=(c.toNat:Int)) (h2:(c.toNat:Int)<=90):((c.toNat:Int)+32)=((DS c).toNat:Int):=by
 rw[<-cE h1 h2];omega
theorem Tb {c:UInt8} (h:¬(65<=(c.toNat:Int)/\(c.toNat:Int)<=90)):DS c=c:=by
 have:G9 c=false:=by unfold G9;exact decide_eq_false (by omega)
 simp[DS,this]
theorem MC (s:ByteArray) (w:World) (hs:s.size<=140737488351232) :
  Calls Tryz.prog 152 #[.string s] w fun e w'=>e=.returned (.string (S (Bw s.data.toList)))/\Qb w w':=by
 have hcv:=iN s
 go_enter Tryz.func152,Tryz.ntmps152
 go_wp2_with fail
 clear hcv
 go_loopw [4,9] (fun _ i wr=>∃k:Nat,k<=s.size/\i=.int .i64 k/\G3 wr w.heap.size (Bw (s.data.toList.take k)++s.data.toList.drop k)/\Qb w wr) (fun _ i _=>s.size - (intOf i).toNat)
 case atStart=>exact⟨0,zd _,rfl,jI w s,kZ w _ s⟩
 case round=>
  obtain⟨k,hk,rfl,hrow,hq⟩:=hrel
  by_cases hlt:k<s.size
  ·have hlen:k<(Bw (s.data.toList.take k)++s.data.toList.drop k).length:=by simp only[Bw,zg,qk,zq,zr,Ay];omega
   obtain⟨hc,hf⟩:=hrow k hlen;rw[Tc s k hlt] at hc;have hrow':=hrow.stored k hlen (DS s[k]);rw[Td s k hlt] at hrow';have hsame:DS s[k]=s[k]->G3 wr w.heap.size (Bw (s.data.toList.take (k+1))++s.data.toList.drop (k+1)):=fun e=>by
    rw[<-Td s k hlt,e,<-Tc s k hlt hlen,List.set_getElem_self];exact hrow
   clear hrow hlen;have HR:=zb (And.intro hrow' hsame);clear hsame;clear hrow'
   go_wp2_with fail
   ·have h1:65<=(s[k].toNat:Int):=by assumption
    have h2:(s[k].toNat:Int)<=90:=by assumption
    go_roundw
    case rel=>
     refine⟨k+1,by omega,by go_num,?_,hq.set (ze _) _⟩;rw[eL h1 h2];exact HR.out.1
    case measure=>simp[intOf];omega
   ·have h2:90<(s[k].toNat:Int):=by assumption
    go_roundw
    case rel=>exact⟨k+1,by omega,by go_num,HR.out.2 (Tb (by omega)),hq⟩
    case measure=>simp[intOf];omega
   ·have h2:¬65<=(s[k].toNat:Int):=by assumption
    go_roundw
    case rel=>exact⟨k+1,by omega,by go_num,HR.out.2 (Tb (by omega)),hq⟩
    case measure=>simp[intOf];omega
  ·obtain rfl:k=s.size:=by omega
   have hl:Bw (s.data.toList.take s.size)++s.data.toList.drop s.size=Bw s.data.toList:=by
    rw[Fu s _ (by omega),xg (by rw[Ay];omega),qm]
   rw[hl] at hrow;have hst:=hrow.str s.size (grownCap w s.size 0 5) (by simp[Bw,Ay]);clear hl hrow
   go_wp2
   go_ret
   exact⟨rfl,hq⟩
theorem iW (s:ByteArray) (w:World) (hs:s.size<=maxLen) :
  Calls Tryz.prog 205 #[.string s] w fun e w'=>e=.returned (.bool (Gj s.data.toList))/\w=w':=by
 unfold maxLen at hs
 go_enter Tryz.func205,Tryz.ntmps205
 go_wp2_with fail
 go_loop [3] (fun i=>∃k:Nat,k<=s.size/\i=.int .i64 k/\Hid ((s.data.toList.take k).all Av=true)) (fun i=>s.size - (intOf i).toNat)
 case atStart=>exact⟨0,zd _,rfl,zb rfl⟩
 case round=>
  obtain⟨k,hk,rfl,HA⟩:=hrel
  by_cases hlt:k<s.size
  ·have HT:=zb (FS Av s k hlt)
   go_wp2_with (go_at_call 75;refine(FZ _ _).mono ?_;rintro e w' ⟨rfl,rfl⟩)
   ·have hd:(!Av s[k])=true:=by assumption
    go_ret
    exact⟨Bi (by
     unfold Gj;rw[Ig Av _ (k+1) (by rw[HT.out];simpa using fun _=>hd)];rfl),rfl⟩
   ·have hd:(!Av s[k])=false:=by assumption
    go_round
    case rel=>exact⟨k+1,by omega,by go_num,zb (by rw[HT.out,HA.out];simpa using hd)⟩
    case measure=>simp[intOf];omega
  ·have HF:Hid ((s.data.toList).all Av=true):=zb (by rw[<-Fu s k hlt];exact HA.out)
   go_wp2_with fail
   go_ret
   exact⟨Bi (by rw[ByteArray.toList_eq];unfold Gj;rw[HF.out];rfl),rfl⟩
def E5 (c:UInt8):Bool:=decide (c.toNat=32\/c.toNat=9)
def GW (l:List UInt8):List UInt8:=(l.reverse.dropWhile E5).reverse
def Lo (l:List UInt8):List UInt8:=GW (l.dropWhile E5)
theorem aG (l:List UInt8) (x:UInt8):GW (l++[x])=if E5 x=true then GW l else l++[x]:=by
 unfold GW;rw[List.reverse_append,List.reverse_singleton,List.singleton_append,yc]
 split<;>simp
def TP (n:Nat) (l:List UInt8) (f t:Nat):Prop :=
 ∃A M B,l=A++M++B/\(∀a∈A,E5 a=true)/\(∀b∈B,E5 b=true)/\M.dropWhile E5=M/\GW M=M /\
  ((M=[]/\f=n/\t=0)\/(M≠[]/\f=A.length/\t=A.length+M.length))
theorem TP.other {n:Nat} {l:List UInt8} {f t:Nat} {c:UInt8} (h:TP n l f t) (hc:E5 c=false) (hl:l.length<n):TP n (l++[c]) (min f l.length) (l.length+1):=by
 obtain⟨A,M,B,rfl,hA,hB,h1,h2,h3⟩:=h;rcases h3 with ⟨rfl,rfl,rfl⟩|⟨h3,rfl,rfl⟩
 ·refine⟨A++B,[c],[],by simp,?_,by simp,by simp[hc],by simp[GW,hc],.inr ⟨by simp,?_,?_⟩⟩
  ·intro a ha;rcases List.mem_append.1 ha with ha|ha
   ·exact hA a ha
   ·exact hB a ha
  ·simp at hl ⊢;omega
  ·simp
 ·refine⟨A,M++B++[c],[],by simp,hA,by simp,?_,?_,.inr ⟨by simp,?_,?_⟩⟩
  ·cases M with
   | nil=>exact absurd rfl h3
   | cons x M=>
    have hx:¬E5 x=true:=by
     intro hx;rw[yc,if_pos hx] at h1;have:=congrArg jd h1;have h4:=(List.dropWhile_sublist (p:=E5) (l:=M)).length_le;simp at this;omega
    simp only[ja];rw[yc,if_neg hx]
  ·rw[aG,if_neg (by rw[hc];exact Bool.false_ne_true)]
  ·simp
  ·simp;omega
theorem iD {B:List UInt8} (hB:∀b∈B,E5 b=true) (l:List UInt8):GW (l++B)=GW l:=by
 unfold GW;rw[List.reverse_append,List.dropWhile_append_of_pos];intro a ha;exact hB a (List.mem_reverse.1 ha)
theorem TP.done {l:List UInt8} {f t:Nat} (h:TP l.length l f t):(t<=f/\Lo l=[])\/(f<t/\t<=l.length/\Lo l=(l.drop f).take (t - f)):=by
 obtain⟨A,M,B,rfl,hA,hB,h1,h2,h3⟩:=h;have ht:Lo (A++M++B)=GW ((M++B).dropWhile E5):=by
  unfold Lo;rw[zu,List.dropWhile_append_of_pos hA]
 rcases h3 with ⟨rfl,rfl,rfl⟩|⟨h3,rfl,rfl⟩
 ·refine .inl ⟨zd _,?_⟩;rw[ht,List.nil_append,<-qm B,List.dropWhile_append_of_pos hB]
  rfl
 ·have hp:0<M.length:=List.length_pos_iff.2 h3;refine .inr ⟨by omega,by simp,?_⟩;have hm:(M++B).dropWhile E5=M++B:=by
   cases M with
   | nil=>exact absurd rfl h3
   | cons x M=>
    have hx:¬E5 x=true:=by
     intro hx;rw[yc,if_pos hx] at h1;have:=congrArg jd h1;have h4:=(List.dropWhile_sublist (p:=E5) (l:=M)).length_le;simp at this;omega
    simp only[ja];rw[yc,if_neg hx]
  rw[ht,hm,iD hB,h2,zu,List.drop_left,Nat.add_sub_cancel_left,List.take_left]
theorem hH (a b:ByteArray) (w:World) (ha:a.size<=140737488351232) (hb:b.size<=140737488351232) :
  Calls Tryz.prog 108 #[.string a,.string b] w fun e w'=>e=.returned (.bool (En a.data.toList b.data.toList))/\Qb w w':=by
 go_enter Tryz.func108,Tryz.ntmps108
 go_wp2_with fail
 refine(MC a _ ha).mono ?_;rintro e w1 ⟨rfl,hq1⟩
 go_wp2_with fail
 refine(MC b _ hb).mono ?_;rintro e w2 ⟨rfl,hq2⟩
 go_wp2_with fail
 go_ret
 exact⟨rfl,hq1.trans hq2⟩
def EW (c:UInt8):Nat:=if c.toNat<=57 then c.toNat - 48 else if c.toNat<=70 then c.toNat - 55 else c.toNat - 87
def hv (c:UInt8):UInt8:=UInt8.ofNat (EW c)
theorem O1 {c:UInt8} (h:A9 c=true):48<=c.toNat/\c.toNat<=57\/97<=c.toNat/\c.toNat<=102\/65<=c.toNat/\c.toNat<=70:=of_decide_eq_true h
theorem Et {c:UInt8} (h:A9 c=true):(hv c).toNat=EW c/\EW c<16:=by
 have:=O1 h;have h2:EW c<16:=by unfold EW;(repeat' split)<;>omega
 exact⟨by unfold hv;rw[UInt8.toNat_ofNat'];omega,h2⟩
theorem XV:∀n:Fin 256,bits .and .u8 ((n.val:Nat):Int) 223=((n.val &&& 223:Nat):Int):=by decide +kernel
theorem qQ:∀n:Fin 256,bits .and .u8 ((n.val:Nat):Int) 15=((n.val % 16:Nat):Int):=by decide +kernel
theorem XE:∀n:Fin 256,(97<=n.val/\n.val<=102\/65<=n.val/\n.val<=70)->(n.val &&& 223)=(if n.val<=70 then n.val else n.val - 32):=by decide +kernel
theorem UE (c:UInt8) (h:A9 c=true) (w:World) :
  Calls Tryz.prog 120 #[.int .u8 c.toNat] w fun e w'=>e=.returned (.int .u8 (hv c).toNat)/\w=w':=by
 have H:=zb h;clear h
 go_enter Tryz.func120,Tryz.ntmps120
 go_wp2_with (go_at_call 132;refine(Fa _ _).mono ?_;rintro e w' ⟨rfl,rfl⟩)
 ·have hd:Av c=true:=by assumption
  go_ret
  refine⟨EP ?_,rfl⟩;have h1:=Et H.out;have h2:48<=c.toNat/\c.toNat<=57:=of_decide_eq_true hd;rw[h1.1];unfold EW;rw[if_pos h2.2];omega
 ·have hd:Av c=false:=by assumption
  go_ret
  refine⟨EP ?_,rfl⟩;have h1:=Et H.out;have h2:¬(48<=c.toNat/\c.toNat<=57):=of_decide_eq_false hd;have h3:=O1 H.out;rw[h1.1,XV ⟨c.toNat,c.toNat_lt⟩,XE ⟨c.toNat,c.toNat_lt⟩ (by show _\/_;simp only;omega)];unfold EW;simp only
  split<;>split<;>(try split)<;>omega
theorem iC (c:UInt8) (h:A9 c=true) (w:World) :
  Calls Tryz.prog 185 #[.int .u8 c.toNat] w fun e w'=>e=.returned (.int .u8 (hv c).toNat)/\w=w':=by
 have h1:=Et h;have h3:=O1 h;have H:=zb (And.intro h1 h3);clear h h1 h3
 go_enter Tryz.func185,Tryz.ntmps185
 go_wp2
 all_goals go_ret
 all_goals refine⟨EP ?_,rfl⟩
 all_goals have h1:=H.out.1
 all_goals have h3:=H.out.2
 all_goals rw[h1.1]
 all_goals unfold EW
 all_goals (repeat' split)<;>omega
def Cb (n:Nat):UInt8:=[48,49,50,51,52,53,54,55,56,57,65,66,67,68,69,70].getD n 0
def BX (c:UInt8):List UInt8:=[37,Cb (c.toNat / 16),Cb (c.toNat % 16)]
theorem L5 (i:Nat) (h:i<ByteArray.size { data:=#[48,49,50,51,52,53,54,55,56,57,65,66,67,68,69,70] }) :
  ({ data:=#[48,49,50,51,52,53,54,55,56,57,65,66,67,68,69,70] }:ByteArray)[i]=Cb i:=by
 have h':i<[(48:UInt8),49,50,51,52,53,54,55,56,57,65,66,67,68,69,70].length:=h;unfold Cb;rw[jz,zk h']
 rfl
theorem rU (W:World) (a b c:Value):∀j u,[a,b,c][j]? = some u->(W.alloc (.cells #[a,b,c] 5)).cell? ((⟨W.heap.size,0,none⟩:Addr).add j)=some u:=by
 intro j u hj;rw[CG,World.cell?_alloc_at _ _ _ _ rfl];simpa using hj
theorem Hy (W:World) (a:Value):∀j u,[a][j]? = some u->(W.alloc (.cells #[a] 5)).cell? ((⟨W.heap.size,0,none⟩:Addr).add j)=some u:=by
 intro j u hj;rw[CG,World.cell?_alloc_at _ _ _ _ rfl];simpa using hj
theorem gQ (c:UInt8) (i j:Nat) (hi:i=c.toNat / 16) (hj:j=c.toNat % 16) (h1:i<ByteArray.size { data:=#[48,49,50,51,52,53,54,55,56,57,65,66,67,68,69,70] }) (h2:j<ByteArray.size { data:=#[48,49,50,51,52,53,54,55,56,57,65,66,67,68,69,70] }) :
  bv (BX c)=[.int .u8 37,.int .u8 (({ data:=#[48,49,50,51,52,53,54,55,56,57,65,66,67,68,69,70] }:ByteArray)[i]).toNat,.int .u8 (({ data:=#[48,49,50,51,52,53,54,55,56,57,65,66,67,68,69,70] }:ByteArray)[j]).toNat]:=by
 rw[L5,L5,hi,hj];rfl
theorem nB (v:Value) (l:List UInt8) (c:UInt8) (B:Nat) (w:World) (h:A0 w B v l) (hl:l.length<=1000000000) (hB:B<=w.heap.size) :
  Calls Tryz.prog 139 #[v,.int .u8 c.toNat] w fun e w'=>∃v',e=.returned v'/\A0 w' B v' (l++BX c)/\Below B w w':=by
 have hc:=c.toNat_lt;have a1:(0:Int)<=(c.toNat:Int) / 16:=by omega
 have a2:(c.toNat:Int) / 16<16:=by omega
 have b1:(0:Int)<=(c.toNat:Int) % 16:=by omega
 have b2:(c.toNat:Int) % 16<16:=by omega
 have hand:=qQ ⟨c.toNat,c.toNat_lt⟩;simp only at hand;have hcells:=zb (gQ c ((c.toNat:Int) / 16).toNat ((c.toNat:Int) % 16).toNat (by omega) (by omega) (by show _<16;omega) (by show _<16;omega))
 go_enter Tryz.func139,Tryz.ntmps139
 go_wp2_with fail
 go_region_law (first|(refine lY rfl (.tmp 5) (.tmp 12) rfl B v l (BX c) rfl (A0.drew (h.alloc _)) _ _ _ rfl rfl (by rw[hcells.out];exact rU _ _ _ _) (by simp[BX];omega) (by simp;omega) ?_;intro v1 w1 hr1 hb1)|fail)
 all_goals have hb2:Below B w w1:=(((Below.refl B w).alloc hB _).drew).trans hb1
 all_goals (try go_wp2_with fail)
 all_goals go_ret
 all_goals exact⟨_,rfl,hr1,hb2⟩
theorem qE (W:World) (x y z:UInt8):G3 ((W.alloc (.cells #[.int .u8 x.toNat,.int .u8 y.toNat,.int .u8 z.toNat] 5)).drew) W.heap.size [x,y,z]:=by
 intro j hj;refine⟨?_,World.frozen?_alloc_at _ _ _ _ rfl⟩;show (W.alloc _).cell? _=_;rw[World.cell?_alloc_at _ _ _ _ rfl]
 match j,hj with
 | 0,_=>rfl
 | 1,_=>rfl
 | 2,_=>rfl
theorem Vc (c:UInt8) (w:World) :
  Calls Tryz.prog 148 #[.int .u8 c.toNat] w fun e w'=>e=.returned (.string (S (BX c)))/\Qb w w':=by
 have hc:=c.toNat_lt;have e1:=L5 (c.toNat / 16) (by show _<16;omega);have e2:=L5 (c.toNat % 16) (by show _<16;omega);have hst:(convert 124 9 (.slice (some ⟨w.heap.size,0,none⟩) 3 3)).run Tryz.prog ((w.alloc (.cells #[.int .u8 37,.int .u8 (Cb (c.toNat / 16)).toNat,.int .u8 (Cb (c.toNat % 16)).toNat] 5)).drew)=.ok (.string ⟨[37,Cb (c.toNat / 16),Cb (c.toNat % 16)].toArray⟩) _:=(qE w 37 (Cb (c.toNat / 16)) (Cb (c.toNat % 16))).str 3 3 rfl;rw[<-e1,<-e2] at hst;have H:=zb (And.intro e1 e2);clear e1 e2;have a1:(0:Int)<=(c.toNat:Int) / 16:=by omega
 have a2:(c.toNat:Int) / 16<16:=by omega
 have b1:(0:Int)<=(c.toNat:Int) % 16:=by omega
 have b2:(c.toNat:Int) % 16<16:=by omega
 go_enter Tryz.func148,Tryz.ntmps148
 go_wp2_with fail
 go_region
 all_goals (try go_wp2_with fail)
 all_goals go_ret
 all_goals refine⟨NW ?_,((Qb.refl w).alloc _).drew⟩
 all_goals rw[H.out.1,H.out.2]
 all_goals rfl
def D3 (c:UInt8) (also:List UInt8):Bool:=BY c||(c.toNat != 37&&AI c also)
theorem MO (c:UInt8) (s:ByteArray) (w:World) :
  Calls Tryz.prog 140 #[.int .u8 c.toNat,.string s] w fun e w'=>e=.returned (.bool (D3 c s.data.toList))/\w=w':=by
 go_enter Tryz.func140,Tryz.ntmps140
 go_wp2_with (first|(go_at_call 138;refine(MF _ _).mono ?_;rintro e w' ⟨rfl,rfl⟩)|(go_at_call 84;refine(Tryz.strings_IndexByte _ _ _).mono ?_;rintro e w' ⟨rfl,rfl⟩))
 ·have h1:BY c=true:=by assumption
  go_ret
  exact⟨Bi (by unfold D3;rw[h1];rfl),rfl⟩
 ·have h1:¬BY c=true:=by assumption
  have h2:(c.toNat:Int)=37:=by assumption
  go_ret
  refine⟨Bi ?_,rfl⟩;unfold D3;have h3:c.toNat=37:=by omega
  rw[Bool.eq_false_iff.2 h1,h3];rfl
 ·have h1:¬BY c=true:=by assumption
  have h2:¬(c.toNat:Int)=37:=by assumption
  go_ret
  refine⟨Bi ?_,rfl⟩;unfold D3 AI;have h3:¬c.toNat=37:=by omega
  rw[Bool.eq_false_iff.2 h1,Lib.contains_iff_indexByte,bne_iff_ne.2 h3,bne_iff_ne.2 h2];rfl
def BF:List UInt8->Bool
 | _::a::b::_=>A9 a&&A9 b
 | _=>false
def Bj:List UInt8->UInt8
 | _::a::b::_=>UInt8.ofNat (16*EW a+EW b)
 | _=>0
theorem Np (s:ByteArray) (k:Nat) (h:k+2<s.size):s.data.toList.drop k=s[k]::s[k+1]::s[k+2]::s.data.toList.drop (k+3):=by
 rw[Dv s k (by omega),Dv s (k+1) (by omega),Dv s (k+2) (by omega)]
theorem PR (s:ByteArray) (k:Nat) (h:¬k+2<s.size):BF (s.data.toList.drop k)=false:=by
 have hl:(s.data.toList.drop k).length<=2:=by rw[zr,Ay];omega
 revert hl
 generalize s.data.toList.drop k=l;intro hl
 match l,hl with
 | [],_=>rfl
 | [_],_=>rfl
 | [_,_],_=>rfl
theorem MS (s:ByteArray) (k:Nat) (hk:k<=s.size) (hs:s.size<=maxLen) (w:World) :
  Calls Tryz.prog 119 #[.string s,.int .i64 k] w fun e w'=>e=.returned (.bool (BF (s.data.toList.drop k)))/\w=w':=by
 unfold maxLen at hs
 by_cases hlt:k+2<s.size
 ·have HD:=zb (Np s k hlt)
  go_enter Tryz.func119,Tryz.ntmps119
  go_wp2_with (go_at_call 162;refine(dK _ _).mono ?_;rintro e w' ⟨rfl,rfl⟩)
  ·have h1:A9 s[k+1]=true:=by assumption
   go_ret
   exact⟨Bi (by rw[HD.out];simp only[BF,h1,Bool.true_and]),rfl⟩
  ·have h1:¬A9 s[k+1]=true:=by assumption
   go_ret
   exact⟨Bi (by rw[HD.out];simp only[BF,Bool.eq_false_iff.2 h1,Bool.false_and]),rfl⟩
 ·have HD:=zb (PR s k hlt)
  go_enter Tryz.func119,Tryz.ntmps119
  go_wp2_with fail
  go_ret
  exact⟨Bi HD.out.symm,rfl⟩
theorem Tv {a b:UInt8} (ha:A9 a=true) (hb:A9 b=true):(UInt8.ofNat (16*EW a+EW b)).toNat=16*(hv a).toNat+(hv b).toNat:=by
 have h1:=Et ha;have h2:=Et hb;rw[UInt8.toNat_ofNat',h1.1,h2.1];omega
def Fi (l:List UInt8):UInt8:=if BF l=true then Bj l else 0
theorem N4 {l:List UInt8} (h:BF l=false):Fi l=0:=by unfold Fi;rw[if_neg (by rw[h];exact Bool.false_ne_true)]
theorem Oz {l:List UInt8} (h:BF l=true):Fi l=Bj l:=if_pos h
theorem K1 (s:ByteArray) (k:Nat) (hk:k<s.size) (hs:s.size<=140737488351232) (h37:s[k]=37) (w:World) :
  Calls Tryz.prog 147 #[.string s,.int .i64 k] w fun e w'=>e=.returned (.tuple #[.int .u8 (Fi (s.data.toList.drop k)).toNat,.bool (BF (s.data.toList.drop k))])/\Qb w w':=by
 have hne:((s[k].toNat:Int) != 37)=false:=by rw[h37];rfl
 have H37:=zb h37;clear h37
 by_cases hlt:k+2<s.size
 ·have HD:=zb (Np s k hlt);rcases ha:A9 s[k+1] with _|_
  ·have ho:BF (s.data.toList.drop k)=false:=by rw[HD.out];simp only[BF,ha,Bool.false_and]
   have hr:=N4 ho;have HO:=zb (And.intro ho hr);clear ho hr
   go_enter Tryz.func147,Tryz.ntmps147
   go_wp2_with (go_at_call 184;refine(KT _ _).mono ?_;rintro e w' ⟨rfl,rfl⟩)
   go_ret2
   exact⟨by rw[HO.out.1,HO.out.2];rfl,Qb.refl w⟩
  ·rcases hb:A9 s[k+2] with _|_
   ·have ho:BF (s.data.toList.drop k)=false:=by rw[HD.out];simp only[BF,hb,Bool.and_false]
    have hr:=N4 ho;have HO:=zb (And.intro ho hr);clear ho hr
    go_enter Tryz.func147,Tryz.ntmps147
    go_wp2_with (go_at_call 184;refine(KT _ _).mono ?_;rintro e w' ⟨rfl,rfl⟩)
    go_ret2
    exact⟨by rw[HO.out.1,HO.out.2];rfl,Qb.refl w⟩
   ·have n1:=(Et ha).2;rw[<-(Et ha).1] at n1;have n2:=(Et hb).2;rw[<-(Et hb).1] at n2;have ho:BF (s.data.toList.drop k)=true:=by rw[HD.out];simp only[BF,ha,hb,Bool.and_true]
    have hr:=Oz ho;have hv2:(Bj (s.data.toList.drop k)).toNat=16*(hv s[k+1]).toNat+(hv s[k+2]).toNat:=by
     rw[HD.out];exact Tv ha hb
    have HO:=zb (And.intro ho (And.intro hr hv2));clear ho hr hv2
    go_enter Tryz.func147,Tryz.ntmps147
    go_wp2_with (go_at_call 184;refine(KT _ _).mono ?_;rintro e w' ⟨rfl,rfl⟩)
    go_quiet ((go_at_call 185;exact KS (iC _ (by assumption) _)))
    go_wp2_with fail
    go_ret2
    exact⟨by rw[HO.out.1,HO.out.2.1,HO.out.2.2,Int.natCast_add,Int.natCast_mul];rfl,(Qb.refl w).drewN _⟩
 ·have ho:=PR s k hlt;have hr:=N4 ho;have HO:=zb (And.intro ho hr);clear ho hr
  go_enter Tryz.func147,Tryz.ntmps147
  go_wp2_with fail
  go_ret2
  exact⟨by rw[HO.out.1,HO.out.2];rfl,Qb.refl w⟩
abbrev G6:=List UInt8->UInt8->Bool->Int×List UInt8
def Ao (add:G6):Nat->List UInt8->List UInt8->Int×List UInt8
 | _,[],out=>(0,out)
 | n+1,_::l,out=>Ao add n l out
 | 0,c::l,out=>
  if c=37 then
   if BF (c::l)=true then
    if (add out (Bj (c::l)) true).1=0 then Ao add 2 l (add out (Bj (c::l)) true).2 else ((add out (Bj (c::l)) true).1,[])
   else (2,[])
  else if (add out c false).1=0 then Ao add 0 l (add out c false).2 else ((add out c false).1,[])
section
variable (add:G6) (s:ByteArray) (k:Nat) (out:List UInt8)
theorem LZ (n:Nat) (h:¬k<s.size):Ao add n (s.data.toList.drop k) out=(0,out):=by
 rw[xg (by rw[Ay];omega),Ao]
theorem SZ (m:Nat) (h:k<s.size) (hm:k<m):Ao add (m - k) (s.data.toList.drop k) out=Ao add (m - (k+1)) (s.data.toList.drop (k+1)) out:=by
 rw[Dv s k h,show m - k=(m - (k+1))+1 from by omega,Ao]
theorem LY (h:k<s.size) (hc:s[k]=37) (he:BF (s.data.toList.drop k)=false):Ao add 0 (s.data.toList.drop k) out=(2,[]):=by
 rw[Dv s k h] at he ⊢;rw[Ao,if_pos hc,if_neg (by rw[he];exact Bool.false_ne_true)]
theorem Ks (h:k<s.size) (hc:s[k]=37) (he:BF (s.data.toList.drop k)=true) (ha:(add out (Bj (s.data.toList.drop k)) true).1=0) :
  Ao add 0 (s.data.toList.drop k) out=Ao add (k+3 - (k+1)) (s.data.toList.drop (k+1)) (add out (Bj (s.data.toList.drop k)) true).2:=by
 rw[Dv s k h] at he ha;rw[show k+3 - (k+1)=2 from by omega]
 conv=>lhs;rw[Dv s k h]
 rw[Ao,if_pos hc,if_pos he,if_pos ha,<-Dv s k h]
theorem U3 (h:k<s.size) (hc:s[k]=37) (he:BF (s.data.toList.drop k)=true) (ha:(add out (Bj (s.data.toList.drop k)) true).1≠0) :
  Ao add 0 (s.data.toList.drop k) out=((add out (Bj (s.data.toList.drop k)) true).1,[]):=by
 rw[Dv s k h] at he ha ⊢;rw[Ao,if_pos hc,if_pos he,if_neg ha]
theorem LR (h:k<s.size) (hc:s[k]≠37) (ha:(add out s[k] false).1=0) :
  Ao add 0 (s.data.toList.drop k) out=Ao add (k+1 - (k+1)) (s.data.toList.drop (k+1)) (add out s[k] false).2:=by
 rw[xf]
 conv=>lhs;rw[Dv s k h]
 rw[Ao,if_neg hc,if_pos ha]
theorem P1 (h:k<s.size) (hc:s[k]≠37) (ha:(add out s[k] false).1≠0) :
  Ao add 0 (s.data.toList.drop k) out=((add out s[k] false).1,[]):=by
 conv=>lhs;rw[Dv s k h]
 rw[Ao,if_neg hc,if_neg ha]
theorem Py (he:BF (s.data.toList.drop k)=true):k+2<s.size:=by
 rcases Nat.lt_or_ge (k+2) s.size with h|h
 ·exact h
 ·rw[PR s k (by omega)] at he;cases he
theorem Ub (he:BF (s.data.toList.drop k)=true):∃h:k+2<s.size,A9 s[k+1]=true/\A9 s[k+2]=true/\(Bj (s.data.toList.drop k)).toNat=16*(hv s[k+1]).toNat+(hv s[k+2]).toNat:=by
 have h:=Py s k he;rw[Np s k h] at he ⊢;simp only[BF,Bool.and_eq_true] at he;exact⟨h,he.1,he.2,Tv he.1 he.2⟩
end
def A5:G6:=fun out x _=>(0,out++[x])
def Bb (also:List UInt8):G6:=fun out x e=>if (e&&!BY x)=true then (0,out++BX x) else if D3 x also=true then (0,out++[x]) else (1,[])
def C9 (r:Int×List UInt8) (n:Nat):Int×List UInt8:=if 16384<n then (5,[]) else r
def A6 (l:List UInt8):Int×List UInt8:=C9 (Ao A5 0 l []) l.length
def Am (l also:List UInt8):Int×List UInt8:=C9 (Ao (Bb also) 0 l []) l.length
theorem QY:∀a b:Fin 16,bits .or .u8 (((a.val*16:Nat):Int)) ((b.val:Nat):Int)=((16*a.val+b.val:Nat):Int):=by decide +kernel
def RL (r:Int×List UInt8) (B:Nat) (w:World) (en:Ending) (w':World):Prop :=
 ∃v',en=.returned (.tuple #[v',.int .i64 r.1])/\(r.1=0->A0 w' B v' r.2)/\Below B w w'
theorem Ur (v:Value) (l:List UInt8) (x:UInt8) (e:Bool) (B:Nat) (w:World) (h:A0 w B v l) (hl:l.length<=1000000000) (hB:B<=w.heap.size) :
  Calls Tryz.prog 65 #[v,.int .u8 x.toNat,.bool e] w (RL (A5 l x e) B w):=by
 go_enter Tryz.func65,Tryz.ntmps65
 go_wp2_with (at_builtin;refine Ih rfl (.tmp 8) (.tmp 10) rfl B v l [x] rfl (h.alloc _) _ _ _ rfl rfl (Hy _ _) (by simp;omega) (by simp;omega) ?_;intro v1 w1 hr1 hb1)
 go_ret2
 exact⟨v1,rfl,fun _=>hr1,((Below.refl B w).alloc hB _).trans hb1⟩
theorem JE {also l:List UInt8} {x:UInt8} (hu:BY x=false):Bb also l x true=(0,l++BX x):=by unfold Bb;rw[if_pos (by rw[hu];rfl)]
theorem Fx {also l:List UInt8} {x:UInt8} {e:Bool} (hu:(e&&!BY x)=false) (hp:D3 x also=true):Bb also l x e=(0,l++[x]):=by
 unfold Bb;rw[if_neg (by rw[hu];exact Bool.false_ne_true),if_pos hp]
theorem Mg {also l:List UInt8} {x:UInt8} {e:Bool} (hu:(e&&!BY x)=false) (hp:D3 x also=false):Bb also l x e=(1,[]):=by
 unfold Bb;rw[if_neg (by rw[hu];exact Bool.false_ne_true),if_neg (by rw[hp];exact Bool.false_ne_true)]
theorem Sw {also l:List UInt8} {x:UInt8} {e:Bool}:(Bb also l x e).2.length<=l.length+3:=by
 unfold Bb
 repeat' split
 all_goals simp[BX]
theorem Sv {l:List UInt8} {x:UInt8} {e:Bool}:(A5 l x e).2.length<=l.length+3:=by simp[A5]
theorem U9 (v:Value) (l:List UInt8) (x:UInt8) (e:Bool) (B g:Nat) (also:ByteArray) (w:World) (h:A0 w B v l) (hl:l.length<=1000000000) (hB:B<=w.heap.size) (hc:w.cell? ⟨g,0,none⟩=some (.string also)) :
  Calls Tryz.prog 137 #[v,.int .u8 x.toNat,.bool e,.pointer (some ⟨g,0,none⟩)] w (RL (Bb also.data.toList l x e) B w):=by
 rcases hu:(e&&!BY x) with _|_
 ·rcases hp:D3 x also.data.toList with _|_
  ·rw[Mg hu hp]
   cases e
   ·clear hu
    go_enter Tryz.func137,Tryz.ntmps137
    go_wp2_with (go_at_call 140;refine(MO _ _ _).mono ?_;rintro e w' ⟨rfl,rfl⟩)
    go_ret2
    exact⟨_,rfl,fun h=>absurd h (by decide),Below.refl _ _⟩
   ·have hu':BY x=true:=by simpa using hu
    clear hu
    go_enter Tryz.func137,Tryz.ntmps137
    go_wp2_with (first|(go_at_call 138;refine(MF _ _).mono ?_;rintro e w' ⟨rfl,rfl⟩)|(go_at_call 140;refine(MO _ _ _).mono ?_;rintro e w' ⟨rfl,rfl⟩))
    go_ret2
    exact⟨_,rfl,fun h=>absurd h (by decide),Below.refl _ _⟩
  ·rw[Fx hu hp]
   cases e
   ·clear hu
    go_enter Tryz.func137,Tryz.ntmps137
    go_wp2_with (first|(go_at_call 140;refine(MO _ _ _).mono ?_;rintro e w' ⟨rfl,rfl⟩)|(at_builtin;refine Ih rfl (.tmp 23) (.tmp 25) rfl B v l [x] rfl (h.alloc _) _ _ _ rfl rfl (Hy _ _) (by simp;omega) (by simp;omega) ?_;intro v1 w1 hr1 hb1))
    go_ret2
    exact⟨v1,rfl,fun _=>hr1,((Below.refl B _).alloc hB _).trans hb1⟩
   ·have hu':BY x=true:=by simpa using hu
    clear hu
    go_enter Tryz.func137,Tryz.ntmps137
    go_wp2_with (first|(go_at_call 138;refine(MF _ _).mono ?_;rintro e w' ⟨rfl,rfl⟩)|(go_at_call 140;refine(MO _ _ _).mono ?_;rintro e w' ⟨rfl,rfl⟩)|(at_builtin;refine Ih rfl (.tmp 23) (.tmp 25) rfl B v l [x] rfl (h.alloc _) _ _ _ rfl rfl (Hy _ _) (by simp;omega) (by simp;omega) ?_;intro v1 w1 hr1 hb1))
    go_ret2
    exact⟨v1,rfl,fun _=>hr1,((Below.refl B _).alloc hB _).trans hb1⟩
 ·have he:e=true:=by cases e<;>simp_all
  subst he;have hu':BY x=false:=by simpa using hu
  clear hu;rw[JE hu']
  go_enter Tryz.func137,Tryz.ntmps137
  go_wp2_with (first|(go_at_call 138;refine(MF _ _).mono ?_;rintro e w' ⟨rfl,rfl⟩)|(go_at_call 139;refine(nB v l x B _ h hl hB).mono ?_;rintro e w1 ⟨v1,rfl,hr1,hb1⟩))
  go_ret2
  exact⟨v1,rfl,fun _=>hr1,hb1⟩
set_option maxHeartbeats 800000 in
theorem jZ (s:ByteArray) (w:World) (hs:s.size<=16384) :
  Calls Tryz.prog 64 #[.string s,.func (.func 65) #[] #[]] w fun e w'=>e=.returned (Dd (Ao A5 0 s.data.toList []))/\Qb w w':=by
 have hmk:=fun W=>Pe s.size (by omega) W
 go_enter Tryz.func64,Tryz.ntmps64
 go_wp2_with fail
 clear hmk
 go_loopw [6,7,8,9,10,11,20] (fun v m _ _ _ _ i wr=>∃k j:Nat,∃l,k<=s.size/\k<=j/\j<=s.size/\m=.int .i64 j/\i=.int .i64 k/\A0 wr w.heap.size v l/\l.length<=3*k/\Hid (Ao A5 0 s.data.toList []=Ao A5 (j - k) (s.data.toList.drop k) l)/\Qb w wr) (fun _ _ _ _ _ _ i _=>s.size - (intOf i).toNat)
 case atStart=>exact⟨0,0,[],zd _,ze _,zd _,rfl,rfl,Mm w _ 0 _ (ze _) (zd _) (by omega),zd _,zb rfl,(Qb.refl w).alloc _⟩
 case round=>
  obtain⟨k,j,l,hk,hkj,hj,rfl,rfl,hrow,hlen,HR,hq⟩:=hrel
  by_cases hlt:k<s.size
  ·by_cases hskip:k<j
   ·have HS:=zb (SZ A5 s k l j hlt hskip)
    go_wp2_with fail
    go_roundw
    case rel=>exact⟨k+1,j,l,by omega,by omega,hj,rfl,by go_num,hrow,by omega,zb (HR.out.trans HS.out),hq⟩
    case measure=>simp[intOf];omega
   ·obtain rfl:k=j:=by omega
    rw[xf] at HR;have hB:w.heap.size<=wr.heap.size:=hq.size
    by_cases hc:s[k]=37
    ·have h37:((s[k].toNat:Int)==37)=true:=by rw[hc];rfl
     have HC:=zb hc;clear hc;rcases he:BF (s.data.toList.drop k) with _|_
     ·have HE:=zb (LY A5 s k l hlt HC.out he)
      go_wp2_with (go_at_call 119;refine(MS s k (by omega) (by unfold maxLen;omega) _).mono ?_;rintro e w' ⟨rfl,rfl⟩)
      go_ret2
      exact⟨by rw[HR.out,HE.out];rfl,hq⟩
     ·obtain⟨h2,ha,hb,hv2⟩:=Ub s k he;have n1:=(Et ha).2;rw[<-(Et ha).1] at n1;have n2:=(Et hb).2;rw[<-(Et hb).1] at n2;have hor:bits .or .u8 (((hv s[k+1]).toNat:Int)*16) ((hv s[k+2]).toNat:Int)=((Bj (s.data.toList.drop k)).toNat:Int):=by
       rw[hv2,<-QY ⟨_,n1⟩ ⟨_,n2⟩];rfl
      have HV:=zb hor;have HE0:=zb he;clear hv2 hor;have q1:IntKind.i64.wrap ((k:Int)+1)=(k:Int)+1:=IntWalk.i64_in _ (by omega);have q2:(0:Int)<=(k:Int)+1:=by omega
      have q3:((k:Int)+1).toNat=k+1:=by omega
      have q4:(k:Int)+1<s.size:=by omega
      have q5:IntKind.i64.wrap ((k:Int)+2)=(k:Int)+2:=IntWalk.i64_in _ (by omega);have q6:(0:Int)<=(k:Int)+2:=by omega
      have q7:((k:Int)+2).toNat=k+2:=by omega
      have q8:(k:Int)+2<s.size:=by omega
      go_wp2_with (go_at_call 119;refine(MS s k (by omega) (by unfold maxLen;omega) _).mono ?_;rintro e w' ⟨rfl,rfl⟩)
      go_quiet ((go_at_call 120;exact KS (UE _ (by assumption) _)))
      clear he
      go_wp2_with fail
      rw[HV.out];refine(Ur _ l (Bj (s.data.toList.drop k)) true w.heap.size _ (by exact hrow) (by omega) (by exact hB)).mono ?_;rintro en w2 ⟨v2,rfl,hr2,hb2⟩;have hq2:Qb w w2:=Below.trans (hq.drewN _) hb2;have hl2:=Sv (l:=l) (x:=Bj (s.data.toList.drop k)) (e:=true)
      by_cases h0:(A5 l (Bj (s.data.toList.drop k)) true).1=0
      ·have hr3:=hr2 h0;have HE:=zb (Ks A5 s k l hlt HC.out HE0.out h0);clear hr2;generalize hout:(A5 l (Bj (s.data.toList.drop k)) true).2=l2 at *;have HO:=zb hout;clear hout
       go_wp2_with fail
       go_roundw
       case rel=>exact⟨k+1,k+3,l2,by omega,by omega,by omega,by go_num,by go_num,hr3,by omega,zb (HR.out.trans HE.out),hq2⟩
       case measure=>simp[intOf];omega
      ·have HE:=zb (U3 A5 s k l hlt HC.out HE0.out h0);have h1:(((A5 l (Bj (s.data.toList.drop k)) true).1) != 0)=true:=bne_iff_ne.2 h0;clear h0 hr2
       go_wp2_with fail
       go_ret2
       exact⟨by rw[HR.out,HE.out];rfl,hq2⟩
    ·have h37:((s[k].toNat:Int)==37)=false:=by
      rw[beq_eq_false_iff_ne];intro e;exact hc (UInt8.toNat_inj.1 (show s[k].toNat=37 from by omega))
     have HC:=zb hc;clear hc
     all_goals
      go_wp2_with fail
      refine(Ur _ l (s[k]) false w.heap.size _ (by exact hrow) (by omega) (by exact hB)).mono ?_;rintro en w2 ⟨v2,rfl,hr2,hb2⟩;have hq2:Qb w w2:=Below.trans hq hb2;have hl2:=Sv (l:=l) (x:=s[k]) (e:=false)
      by_cases h0:(A5 l (s[k]) false).1=0
      ·have hr3:=hr2 h0;have HE:=zb (LR A5 s k l hlt HC.out h0);clear hr2;generalize hout:(A5 l (s[k]) false).2=l2 at *;have HO:=zb hout;clear hout
       go_wp2_with fail
       go_roundw
       case rel=>exact⟨k+1,k+1,l2,by omega,by omega,by omega,by go_num,by go_num,hr3,by omega,zb (HR.out.trans HE.out),hq2⟩
       case measure=>simp[intOf];omega
      ·have HE:=zb (P1 A5 s k l hlt HC.out h0);have h1:(((A5 l (s[k]) false).1) != 0)=true:=bne_iff_ne.2 h0;clear h0 hr2
       go_wp2_with fail
       go_ret2
       exact⟨by rw[HR.out,HE.out];rfl,hq2⟩
  ·have HE:=zb (LZ A5 s k l (j - k) hlt);have hst:=JD hrow
   go_wp2_with fail
   go_ret2
   exact⟨by rw[HR.out,HE.out];rfl,hq⟩
set_option maxHeartbeats 800000 in
theorem kA (s:ByteArray) (g:Nat) (also:ByteArray) (w:World) (hs:s.size<=16384) (hg:g<w.heap.size) (hc0:w.cell? ⟨g,0,none⟩=some (.string also)) :
  Calls Tryz.prog 64 #[.string s,.func (.func 137) #[] #[.pointer (some ⟨g,0,none⟩)]] w fun e w'=>e=.returned (Dd (Ao (Bb also.data.toList) 0 s.data.toList []))/\Qb w w':=by
 have hmk:=fun W=>Pe s.size (by omega) W
 go_enter Tryz.func64,Tryz.ntmps64
 go_wp2_with fail
 clear hmk
 go_loopw [6,7,8,9,10,11,20] (fun v m _ _ _ _ i wr=>∃k j:Nat,∃l,k<=s.size/\k<=j/\j<=s.size/\m=.int .i64 j/\i=.int .i64 k/\A0 wr w.heap.size v l/\l.length<=3*k/\Hid (Ao (Bb also.data.toList) 0 s.data.toList []=Ao (Bb also.data.toList) (j - k) (s.data.toList.drop k) l)/\Qb w wr) (fun _ _ _ _ _ _ i _=>s.size - (intOf i).toNat)
 case atStart=>exact⟨0,0,[],zd _,ze _,zd _,rfl,rfl,Mm w _ 0 _ (ze _) (zd _) (by omega),zd _,zb rfl,(Qb.refl w).alloc _⟩
 case round=>
  obtain⟨k,j,l,hk,hkj,hj,rfl,rfl,hrow,hlen,HR,hq⟩:=hrel
  by_cases hlt:k<s.size
  ·by_cases hskip:k<j
   ·have HS:=zb (SZ (Bb also.data.toList) s k l j hlt hskip)
    go_wp2_with fail
    go_roundw
    case rel=>exact⟨k+1,j,l,by omega,by omega,hj,rfl,by go_num,hrow,by omega,zb (HR.out.trans HS.out),hq⟩
    case measure=>simp[intOf];omega
   ·obtain rfl:k=j:=by omega
    rw[xf] at HR;have hB:w.heap.size<=wr.heap.size:=hq.size;have hcw:wr.cell? ⟨g,0,none⟩=some (.string also):=(hq.below.cell (p:=⟨g,0,none⟩) hg).trans hc0
    by_cases hc:s[k]=37
    ·have h37:((s[k].toNat:Int)==37)=true:=by rw[hc];rfl
     have HC:=zb hc;clear hc;rcases he:BF (s.data.toList.drop k) with _|_
     ·have HE:=zb (LY (Bb also.data.toList) s k l hlt HC.out he)
      go_wp2_with (go_at_call 119;refine(MS s k (by omega) (by unfold maxLen;omega) _).mono ?_;rintro e w' ⟨rfl,rfl⟩)
      go_ret2
      exact⟨by rw[HR.out,HE.out];rfl,hq⟩
     ·obtain⟨h2,ha,hb,hv2⟩:=Ub s k he;have n1:=(Et ha).2;rw[<-(Et ha).1] at n1;have n2:=(Et hb).2;rw[<-(Et hb).1] at n2;have hor:bits .or .u8 (((hv s[k+1]).toNat:Int)*16) ((hv s[k+2]).toNat:Int)=((Bj (s.data.toList.drop k)).toNat:Int):=by
       rw[hv2,<-QY ⟨_,n1⟩ ⟨_,n2⟩];rfl
      have HV:=zb hor;have HE0:=zb he;clear hv2 hor;have q1:IntKind.i64.wrap ((k:Int)+1)=(k:Int)+1:=IntWalk.i64_in _ (by omega);have q2:(0:Int)<=(k:Int)+1:=by omega
      have q3:((k:Int)+1).toNat=k+1:=by omega
      have q4:(k:Int)+1<s.size:=by omega
      have q5:IntKind.i64.wrap ((k:Int)+2)=(k:Int)+2:=IntWalk.i64_in _ (by omega);have q6:(0:Int)<=(k:Int)+2:=by omega
      have q7:((k:Int)+2).toNat=k+2:=by omega
      have q8:(k:Int)+2<s.size:=by omega
      go_wp2_with (go_at_call 119;refine(MS s k (by omega) (by unfold maxLen;omega) _).mono ?_;rintro e w' ⟨rfl,rfl⟩)
      go_quiet ((go_at_call 120;exact KS (UE _ (by assumption) _)))
      clear he
      go_wp2_with fail
      rw[HV.out];refine(U9 _ l (Bj (s.data.toList.drop k)) true w.heap.size g also _ (by exact hrow) (by omega) (by exact hB) (by exact hcw)).mono ?_;rintro en w2 ⟨v2,rfl,hr2,hb2⟩;have hq2:Qb w w2:=Below.trans (hq.drewN _) hb2;have hl2:=Sw (also:=also.data.toList) (l:=l) (x:=Bj (s.data.toList.drop k)) (e:=true)
      by_cases h0:((Bb also.data.toList) l (Bj (s.data.toList.drop k)) true).1=0
      ·have hr3:=hr2 h0;have HE:=zb (Ks (Bb also.data.toList) s k l hlt HC.out HE0.out h0);clear hr2;generalize hout:((Bb also.data.toList) l (Bj (s.data.toList.drop k)) true).2=l2 at *;have HO:=zb hout;clear hout
       go_wp2_with fail
       go_roundw
       case rel=>exact⟨k+1,k+3,l2,by omega,by omega,by omega,by go_num,by go_num,hr3,by omega,zb (HR.out.trans HE.out),hq2⟩
       case measure=>simp[intOf];omega
      ·have HE:=zb (U3 (Bb also.data.toList) s k l hlt HC.out HE0.out h0);have h1:((((Bb also.data.toList) l (Bj (s.data.toList.drop k)) true).1) != 0)=true:=bne_iff_ne.2 h0;clear h0 hr2
       go_wp2_with fail
       go_ret2
       exact⟨by rw[HR.out,HE.out];rfl,hq2⟩
    ·have h37:((s[k].toNat:Int)==37)=false:=by
      rw[beq_eq_false_iff_ne];intro e;exact hc (UInt8.toNat_inj.1 (show s[k].toNat=37 from by omega))
     have HC:=zb hc;clear hc
     all_goals
      go_wp2_with fail
      refine(U9 _ l (s[k]) false w.heap.size g also _ (by exact hrow) (by omega) (by exact hB) (by exact hcw)).mono ?_;rintro en w2 ⟨v2,rfl,hr2,hb2⟩;have hq2:Qb w w2:=Below.trans hq hb2;have hl2:=Sw (also:=also.data.toList) (l:=l) (x:=s[k]) (e:=false)
      by_cases h0:((Bb also.data.toList) l (s[k]) false).1=0
      ·have hr3:=hr2 h0;have HE:=zb (LR (Bb also.data.toList) s k l hlt HC.out h0);clear hr2;generalize hout:((Bb also.data.toList) l (s[k]) false).2=l2 at *;have HO:=zb hout;clear hout
       go_wp2_with fail
       go_roundw
       case rel=>exact⟨k+1,k+1,l2,by omega,by omega,by omega,by go_num,by go_num,hr3,by omega,zb (HR.out.trans HE.out),hq2⟩
       case measure=>simp[intOf];omega
      ·have HE:=zb (P1 (Bb also.data.toList) s k l hlt HC.out h0);have h1:((((Bb also.data.toList) l (s[k]) false).1) != 0)=true:=bne_iff_ne.2 h0;clear h0 hr2
       go_wp2_with fail
       go_ret2
       exact⟨by rw[HR.out,HE.out];rfl,hq2⟩
  ·have HE:=zb (LZ (Bb also.data.toList) s k l (j - k) hlt);have hst:=JD hrow
   go_wp2_with fail
   go_ret2
   exact⟨by rw[HR.out,HE.out];rfl,hq⟩
theorem Vz (s:ByteArray) (f:Value) (w:World) (hs:¬s.size<=16384) :
  Calls Tryz.prog 64 #[.string s,f] w fun e w'=>e=.returned (Dd (5,[]))/\w=w':=by
 go_enter Tryz.func64,Tryz.ntmps64
 go_wp2_with fail
 go_ret2
 exact⟨rfl,rfl⟩
theorem PY (s:ByteArray) (w:World) :
  Calls Tryz.prog 26 #[.string s] w fun e w'=>e=.returned (Dd (A6 s.data.toList))/\Qb w w':=by
 have hmf:∀(fn:Fn) (first cap:Array Value) (w:World),(Instr.makeFunc fn first cap).run Tryz.prog w=.ok (.func fn first cap) w:=fun _ _ _ _=>rfl
 by_cases hs:s.size<=16384
 ·have hd:A6 s.data.toList=Ao A5 0 s.data.toList []:=by unfold A6 C9;rw[if_neg (by rw[Ay];omega)]
  rw[hd]
  go_enter Tryz.func26,Tryz.ntmps26
  go_wp2_with fail
  refine(jZ s _ hs).mono ?_;rintro e w1 ⟨rfl,hq1⟩;unfold Dd
  go_wp2_with fail
  go_ret2
  exact⟨rfl,hq1⟩
 ·have hd:A6 s.data.toList=(5,[]):=by unfold A6 C9;rw[if_pos (by rw[Ay];omega)]
  rw[hd]
  go_enter Tryz.func26,Tryz.ntmps26
  go_wp2_with fail
  refine(Vz s _ _ hs).mono ?_;rintro e w1 ⟨rfl,rfl⟩;unfold Dd
  go_wp2_with fail
  go_ret2
  exact⟨rfl,Qb.refl _⟩
theorem dX (s a:ByteArray) (w:World) :
  Calls Tryz.prog 91 #[.string s,.string a] w fun e w'=>e=.returned (Dd (Am s.data.toList a.data.toList))/\Qb w w':=by
 have hmf:∀(fn:Fn) (first cap:Array Value) (w:World),(Instr.makeFunc fn first cap).run Tryz.prog w=.ok (.func fn first cap) w:=fun _ _ _ _=>rfl
 by_cases hs:s.size<=16384
 ·have hd:Am s.data.toList a.data.toList=Ao (Bb a.data.toList) 0 s.data.toList []:=by unfold Am C9;rw[if_neg (by rw[Ay];omega)]
  rw[hd]
  go_enter Tryz.func91,Tryz.ntmps91
  go_wp2_with fail
  refine(kA s w.heap.size a _ hs (by simp) (by rw[World.cell?_alloc_at _ _ _ _ rfl];rfl)).mono ?_;rintro e w1 ⟨rfl,hq1⟩;unfold Dd
  go_wp2_with fail
  go_ret2
  exact⟨rfl,((Qb.refl w).alloc _).trans hq1⟩
 ·have hd:Am s.data.toList a.data.toList=(5,[]):=by unfold Am C9;rw[if_pos (by rw[Ay];omega)]
  rw[hd]
  go_enter Tryz.func91,Tryz.ntmps91
  go_wp2_with fail
  refine(Vz s _ _ hs).mono ?_;rintro e w1 ⟨rfl,rfl⟩;unfold Dd
  go_wp2_with fail
  go_ret2
  exact⟨rfl,(Qb.refl w).alloc _⟩
theorem Mk (c:UInt8):(BX c).length=3:=rfl
theorem FV (add:G6):∀(n:Nat) (l out:List UInt8),Ao add n l out=Ao add 0 (l.drop n) out
 | 0,l,out=>rfl
 | n+1,[],out=>by rw[List.drop_nil,Ao,Ao]
 | n+1,_::l,out=>by rw[Ao,List.drop_succ_cons];exact FV add n l out
theorem NO (add:G6) (s:ByteArray) (k j:Nat) (h:k<=j) (out:List UInt8):Ao add (j - k) (s.data.toList.drop k) out=Ao add 0 (s.data.toList.drop j) out:=by
 rw[FV,List.drop_drop,show k+(j - k)=j from by omega]
theorem Vb (s:ByteArray) (w:World) :
  Calls Tryz.prog 101 #[.string s] w fun e w'=>e=.returned (Dd (A6 s.data.toList))/\Qb w w':=by
 by_cases hs:s.size<=16384
 ·have hd:A6 s.data.toList=Ao A5 0 s.data.toList []:=by unfold A6 C9;rw[if_neg (by rw[Ay];omega)]
  rw[hd]
  go_enter Tryz.func101,Tryz.ntmps101
  go_wp2_with fail
  go_loopw [4,5,6,7,8] (fun v i _ _ _ wr=>∃k:Nat,∃l,k<=s.size/\i=.int .i64 k/\A0 wr w.heap.size v l/\l.length<=k/\Hid (Ao A5 0 s.data.toList []=Ao A5 0 (s.data.toList.drop k) l)/\Qb w wr) (fun _ i _ _ _ _=>s.size - (intOf i).toNat)
  case atStart=>exact⟨0,[],zd _,rfl,A0.nil _ _,ze _,zb rfl,Qb.refl w⟩
  case round=>
   obtain⟨k,l,hk,rfl,hrow,hlen,HR,hq⟩:=hrel;have hB:w.heap.size<=wr.heap.size:=hq.size
   by_cases hlt:k<s.size
   ·by_cases hc:s[k]=37
    ·have h37:((s[k].toNat:Int)==37)=true:=by rw[hc];rfl
     have HC:=zb hc;clear hc;rcases he:BF (s.data.toList.drop k) with _|_
     ·have HE:=zb (LY A5 s k l hlt HC.out he)
      go_wp2_with (go_at_call 147;refine(K1 s k hlt (by omega) HC.out _).mono ?_;rintro e w1 ⟨rfl,hq1⟩)
      go_ret2
      exact⟨by rw[HR.out,HE.out];rfl,hq.trans hq1⟩
     ·have HE:=zb (Ks A5 s k l hlt HC.out he rfl);have HJ:=zb (NO A5 s (k+1) (k+3) (by omega) (l++[Fi (s.data.toList.drop k)]));have HV:=zb (Oz he);have h2:=Py s k he
      go_wp2_with (first|(go_at_call 147;refine(K1 s k hlt (by omega) HC.out _).mono ?_;rintro e w0 ⟨rfl,hq1⟩;have hrow0:=hrow.below hq1)|(at_builtin;refine Ih rfl (.tmp 34) (.tmp 36) rfl w.heap.size _ l [Fi (s.data.toList.drop k)] rfl (hrow0.alloc _) _ _ _ rfl rfl (Hy _ _) (by simp;omega) (by have:=hq1.size;simp;omega) ?_;intro v1 w1 hr1 hb1))
      go_roundw
      case rel=>exact⟨k+3,_,by omega,by go_num,hr1,by simp;omega,zb (by rw[HR.out,HE.out,<-HJ.out,HV.out];rfl),Below.trans ((hq.trans hq1).alloc _) hb1⟩
      case measure=>simp[intOf];omega
    ·have h37:((s[k].toNat:Int)==37)=false:=by
      rw[beq_eq_false_iff_ne];intro e;exact hc (UInt8.toNat_inj.1 (show s[k].toNat=37 from by omega))
     have HC:=zb hc;clear hc;have HE:=zb (LR A5 s k l hlt HC.out rfl)
     go_wp2_with (at_builtin;refine Ih rfl (.tmp 34) (.tmp 36) rfl w.heap.size _ l [s[k]] rfl (hrow.alloc _) _ _ _ rfl rfl (Hy _ _) (by simp;omega) (by simp;omega) ?_;intro v1 w1 hr1 hb1)
     go_roundw
     case rel=>exact⟨k+1,_,by omega,by go_num,hr1,by simp;omega,zb (by rw[HR.out,HE.out,xf];rfl),Below.trans (hq.alloc _) hb1⟩
     case measure=>simp[intOf];omega
   ·have HE:=zb (LZ A5 s k l 0 hlt);have hst:=JD hrow
    go_wp2_with fail
    go_ret2
    exact⟨by rw[HR.out,HE.out];rfl,hq⟩
 ·have hd:A6 s.data.toList=(5,[]):=by unfold A6 C9;rw[if_pos (by rw[Ay];omega)]
  rw[hd]
  go_enter Tryz.func101,Tryz.ntmps101
  go_wp2_with fail
  go_ret2
  exact⟨rfl,Qb.refl _⟩
theorem XJ:(Tryz.prog.info? 9).map (fun i=>(i.zero,i.size,i.bytes))=some (some (.string ByteArray.empty),1,16):=by kernel_rfl
def sv (ls:List (List UInt8)):List Value:=ls.map fun l=>.string (S l)
theorem Ui (ls:List (List UInt8)):(sv ls).length=ls.length:=by simp[sv]
theorem fV (a b:List (List UInt8)):sv (a++b)=sv a++sv b:=by simp[sv]
theorem Rm (ls:List (List UInt8)) (i:Nat) (h:i<ls.length):(sv ls)[i]? = some (.string (S ls[i])):=by simp[sv,h]
theorem Rn (ls:List (List UInt8)):∀u∈sv ls,u.oneCell'=true:=by
 intro u hu;obtain⟨c,_,rfl⟩:=List.mem_map.1 hu
 rfl
def CB (w:World) (base:Nat) (v:Value) (ls:List (List UInt8)):Prop:=w.ownsRow base 9 1 v ls.length (sv ls)
theorem CB.nil (w:World) (base:Nat):CB w base (.slice none 0 0) []:=World.ownsRow_nil w base _ _
theorem CB.drew {w:World} {base:Nat} {v:Value} {l:List (List UInt8)} (h:CB w base v l):CB w.drew base v l:=h
theorem CB.drewN {w:World} {base:Nat} {v:Value} {l:List (List UInt8)} (h:CB w base v l) (n:Nat):CB (w.drewN n) base v l:=h
theorem CB.alloc {w:World} {base:Nat} {v:Value} {l:List (List UInt8)} (h:CB w base v l) (o:Obj):CB (w.alloc o) base v l:=World.ownsRow.alloc h o
theorem CB.below {w w':World} {base:Nat} {v:Value} {l:List (List UInt8)} (h:CB w base v l) (hb:Qb w w'):CB w' base v l:=by
 refine World.ownsRow.kept (row:=none) h ⟨hb.os,hb.tape,hb.output,Below.size hb,fun k hk _=>Below.block hb k hk⟩ ?_;rcases h.2 with ⟨rfl,_⟩|⟨g,cap,cur,rfl,_⟩
 ·exact .inl rfl
 ·exact .inr (by simp[Value.ownBlock])
theorem CB.form {w:World} {base:Nat} {v:Value} {l:List (List UInt8)} (h:CB w base v l) (hl:0<l.length):∃g cap,v=.slice (some ⟨g,0,none⟩) l.length cap/\base<=g/\g<w.heap.size/\l.length<=cap:=by
 rcases h.2 with ⟨rfl,hn⟩|⟨g,cap,cur,rfl,hb,hg,hnc,_⟩
 ·omega
 ·refine⟨g,cap,rfl,hb,?_,hnc⟩;rcases Nat.lt_or_ge g w.heap.size with h1|h1
  ·exact h1
  ·rw[Array.getElem?_eq_none h1] at hg;cases hg
theorem CB.cell {w:World} {B g n cap:Nat} {l:List (List UInt8)} (h:CB w B (.slice (some ⟨g,0,none⟩) n cap) l) (j:Nat) (hj:j<l.length):w.cell? ⟨g,j,none⟩=some (.string (S l[j])):=by
 have h':=h;rcases h'.2 with ⟨e,_⟩|⟨g',cap',cur,e,_⟩
 ·simp at e
 ·simp only[Value.slice.injEq] at e;obtain⟨_,rfl,_⟩:=e;rw[World.ownsRow.cellAt (h:World.ownsRow _ _ _ _ _ _ _) j (by omega),Rm l j hj]
theorem lA {w w':World} {B:Nat} {v:Value} {l:List (List UInt8)} (h:CB w B v l) (hB:B<=w.heap.size) (hg:w.grownBy w' v.ownBlock):Below B w w' :=
 (Below.refl B w).grown hg hB (fun k hk=>(World.ownsRow.lt h k hk).1)
theorem CB.appended {w':World} {B:Nat} {v':Value} {l m:List (List UInt8)} {xs:List Value} {n:Nat} (h:w'.ownsRow B 9 1 v' n xs) (hx:xs=sv (l++m)) (hn:n=(l++m).length):CB w' B v' (l++m):=by
 subst hx hn;exact h
theorem Wl {w:World} {ops:Array Oper} {rest:List Oper} {o:Oper} {a:Act} {Q:Exit->Act->World->Prop} (hgd:o.guard=none) (s x:Operand)
  (ho:o.op=.call { callee:=.builtin .append,args:=#[s,x],argTypes:=#[27,27] })
  (B:Nat) (v:Value) (l m:List (List UInt8)) (hs:a.eval s=v) (hrow:CB w B v l) (ad:Addr) (n c:Nat) (hx:a.eval x=.slice (some ad) n c) (hn:n=m.length)
  (hnews:∀j u,(sv m)[j]? = some u->w.cell? (ad.add j)=some u) (hlen:l.length+m.length<=1000000000) (hB:B<=w.heap.size)
  (h:∀v' w',CB w' B v' (l++m)->Below B w w'->wpList Tryz.prog ops Q rest (a.put o.dst v') w'):wpList Tryz.prog ops Q (o::rest) a w:=by
 obtain⟨i0,hi,hz0,hz1,hz2⟩:=info_parts XJ;subst hn;exact wpList_append_own w hgd s x _ ho B 9 i0 _ 1 16 Tryz.underlying27 hi hz0 hz1 hz2 rfl (by omega) v l.length (sv l) hs hrow ad m.length c (sv m) hx (by rw[Ui];omega) hnews (Rn m)
  (by simp only[maxLen];omega) (by omega) hB fun v' w' h1 h2 _=>h v' w' (CB.appended h1 (fV l m).symm (by simp)) (lA hrow hB h2)
theorem QT (W:World) (a:ByteArray):∀j u,(sv [a.data.toList])[j]? = some u->(W.alloc (.cells #[.string a] 9)).cell? ((⟨W.heap.size,0,none⟩:Addr).add j)=some u:=by
 intro j u hj;rw[CG,World.cell?_alloc_at _ _ _ _ rfl];have:sv [a.data.toList]=[.string a]:=by simp[sv]
 rw[this] at hj;simpa using hj
def Af (c:UInt8):List UInt8->List UInt8×List UInt8×Bool
 | []=>([],[],false)
 | x::t=>if x=c then ([],t,true) else (x::(Af c t).1,(Af c t).2.1,(Af c t).2.2)
theorem Fs (c:UInt8):∀l:List UInt8,(jk l c=-1/\Af c l=(l,[],false)/\c∉l)\/∃k:Nat,jk l c=k/\k<l.length/\Af c l=(l.take k,l.drop (k+1),true)/\l[k]? = some c
 | []=>.inl ⟨rfl,rfl,by simp⟩
 | x::t=>by
  unfold jk Af
  by_cases h:x=c
  ·subst h;exact .inr ⟨0,by simp,by simp,by simp,by simp⟩
  ·rw[if_neg (by simpa using h),if_neg h];rcases Fs c t with ⟨h1,h2,h3⟩|⟨k,h1,h2,h3,h4⟩
   ·refine .inl ⟨by rw[h1];rfl,by rw[h2],?_⟩;simp only[List.mem_cons,not_or];exact⟨fun e=>h e.symm,h3⟩
   ·refine .inr ⟨k+1,?_,by simpa using h2,?_,by simpa using h4⟩
    ·rw[h1,if_neg (by simp only[beq_iff_eq];omega)];omega
    ·rw[h3];simp
theorem Gm (c:UInt8) (l:List UInt8):(Af c l).1.length<=l.length/\((Af c l).2.2=true->(Af c l).1.length+(Af c l).2.1.length+1=l.length)/\((Af c l).2.2=false->(Af c l).1=l/\(Af c l).2.1=[]):=by
 rcases Fs c l with ⟨h1,h2,h3⟩|⟨k,h1,h2,h3,h4⟩
 ·rw[h2];simp
 ·rw[h3];simp;omega
theorem EG (c:UInt8) (l:List UInt8):(Af c l).1.length<=l.length/\(Af c l).2.1.length<=l.length:=by
 rcases Fs c l with ⟨h1,h2,h3⟩|⟨k,h1,h2,h3,h4⟩
 ·rw[h2];simp
 ·rw[h3];simp;omega
def AC (c:UInt8):List UInt8->List (List UInt8)
 | []=>[[]]
 | x::t=>if x=c then []::AC c t else match AC c t with
  | p::ps=>(x::p)::ps
  | []=>[[x]]
theorem Ev (c:UInt8):∀l,∃p ps,AC c l=p::ps
 | []=>⟨_,_,rfl⟩
 | x::t=>by
  unfold AC
  by_cases h:x=c
  ·rw[if_pos h];exact⟨_,_,rfl⟩
  ·rw[if_neg h];obtain⟨p,ps,e⟩:=Ev c t;rw[e];exact⟨_,_,rfl⟩
theorem JS (c:UInt8) (l:List UInt8):0<(AC c l).length:=by obtain⟨p,ps,e⟩:=Ev c l;rw[e];simp
theorem JR (c:UInt8):∀l,(AC c l).length<=l.length+1
 | []=>by simp[AC]
 | x::t=>by
  have:=JR c t;unfold AC
  by_cases h:x=c
  ·rw[if_pos h];simp;omega
  ·rw[if_neg h];obtain⟨p,ps,e⟩:=Ev c t;rw[e] at this ⊢;simp at this ⊢;omega
theorem Fz (c x:UInt8) (t:List UInt8):AC c (x::t)=if x=c then []::AC c t else match AC c t with
  | p::ps=>(x::p)::ps
  | []=>[[x]]:=rfl
theorem CO (c x:UInt8) (t:List UInt8):Af c (x::t)=if x=c then ([],t,true) else (x::(Af c t).1,(Af c t).2.1,(Af c t).2.2):=rfl
theorem Gt (c:UInt8):∀l,AC c l=if (Af c l).2.2=true then (Af c l).1::AC c (Af c l).2.1 else [l]
 | []=>rfl
 | x::t=>by
  have ih:=Gt c t;rw[Fz,CO]
  by_cases h:x=c
  ·rw[if_pos h,if_pos h,if_pos rfl]
  ·rw[if_neg h,if_neg h,ih]
   by_cases h2:(Af c t).2.2=true
   ·rw[if_pos h2,if_pos h2]
   ·rw[if_neg h2,if_neg h2]
def Ia (c:UInt8) (r:List (List UInt8)×List UInt8) (x:UInt8):List (List UInt8)×List UInt8:=if x=c then (r.1++[r.2],[]) else (r.1,r.2++[x])
def Gd (c:UInt8) (l:List UInt8):List (List UInt8)×List UInt8:=l.foldl (Ia c) ([],[])
theorem gG (c x:UInt8) (l:List UInt8):Gd c (l++[x])=Ia c (Gd c l) x:=by unfold Gd;rw[List.foldl_append];rfl
theorem Pr (c:UInt8):∀(l:List UInt8) (d:List (List UInt8)) (cur p:List UInt8) (ps:List (List UInt8)),AC c l=p::ps->(l.foldl (Ia c) (d,cur)).1++[(l.foldl (Ia c) (d,cur)).2]=d++(cur++p)::ps
 | [],d,cur,p,ps,h=>by
  rw[AC] at h;injection h with h1 h2;subst h1 h2;simp
 | x::t,d,cur,p,ps,h=>by
  rw[Fz] at h;obtain⟨q,qs,e⟩:=Ev c t;rw[List.foldl_cons]
  by_cases hx:x=c
  ·rw[if_pos hx] at h;injection h with h1 h2
   subst h1;rw[show Ia c (d,cur) x=(d++[cur],[]) from if_pos hx,Pr c t _ _ q qs e,<-h2,e];simp
  ·rw[if_neg hx,e] at h;injection h with h1 h2
   subst h1 h2;rw[show Ia c (d,cur) x=(d,cur++[x]) from if_neg hx,Pr c t _ _ q qs e];simp
theorem kL (c:UInt8) (l:List UInt8):AC c l=(Gd c l).1++[(Gd c l).2]:=by
 obtain⟨p,ps,e⟩:=Ev c l;unfold Gd;rw[Pr c l [] [] p ps e,e];rfl
def DD (x:List UInt8×List UInt8×Bool):Value:=.tuple #[.string (S x.1),.string (S x.2.1),.bool x.2.2]
theorem cC (s:ByteArray) (c:UInt8) (w:World) (hs:s.size<=maxLen) :
  Calls Tryz.prog 63 #[.string s,.string ⟨#[c]⟩] w fun e w'=>e=.returned (DD (Af c s.data.toList))/\Qb w w':=by
 unfold maxLen at hs;rcases Fs c s.data.toList with ⟨h1,h2,_⟩|⟨k,h1,h2,h3,_⟩
 ·have HI:=zb h1;have HC:=zb h2;clear h1 h2
  go_enter Tryz.func63,Tryz.ntmps63
  go_wp2_with fail
  refine(Tryz.stringslite_Index_one _ _ _).mono ?_;rintro e w' ⟨rfl,rfl⟩;rw[HI.out]
  go_wp2_with fail
  go_ret3
  exact⟨by rw[HC.out];rfl,Qb.refl _⟩
 ·rw[Ay] at h2;have HI:=zb h1;have HC:=zb h3;clear h1 h3;have i0:(0:Int)<=(k:Int):=by omega
  have i1:(k:Int)<(s.size:Int):=by omega
  have q1:IntKind.i64.wrap ((k:Int)+1)=(k:Int)+1:=IntWalk.i64_in _ (by omega);have q2:(0:Int)<=(k:Int)+1:=by omega
  have q3:((k:Int)+1).toNat=k+1:=by omega
  have q4:(k:Int)+1<=(s.size:Int):=by omega
  go_enter Tryz.func63,Tryz.ntmps63
  go_wp2_with fail
  refine(Tryz.stringslite_Index_one _ _ _).mono ?_;rintro e w' ⟨rfl,rfl⟩;rw[HI.out]
  go_wp2_with fail
  go_quiet (fail)
  go_wp2_with fail
  go_ret3
  refine⟨?_,(Qb.refl _).drewN _⟩;rw[HC.out];refine congrArg Ending.returned (congrArg Value.tuple ?_);rw[show S (s.data.toList.take k)=s.extract 0 k from by rw[<-Ir (s.extract 0 k),Lib.extract_data];simp,show S (s.data.toList.drop (k+1))=s.extract (k+1) s.size from by
   rw[<-Ir (s.extract (k+1) s.size),Lib.extract_data];congr 2;rw[jm];rw[zr,Ay];omega]
  try rfl
theorem D7 (s:ByteArray) (c:UInt8) (w:World) (hs:s.size<=maxLen) :
  Calls Tryz.prog 25 #[.string s,.string ⟨#[c]⟩] w fun e w'=>e=.returned (DD (Af c s.data.toList))/\Qb w w':=by
 go_enter Tryz.func25,Tryz.ntmps25
 go_wp2_with fail
 refine(cC _ _ _ hs).mono ?_;rintro e w' ⟨rfl,hq⟩;unfold DD
 go_wp2_with fail
 go_ret3
 exact⟨rfl,hq⟩
theorem PS (s:ByteArray) (k:Nat):s.extract 0 k=S (s.data.toList.take k):=by rw[<-Ir (s.extract 0 k),Lib.extract_data];simp
theorem US (s:ByteArray) (i j:Nat):s.extract i j=S ((s.data.toList.drop i).take (j - i)):=by rw[<-Ir (s.extract i j),Lib.extract_data]
theorem JW (s:ByteArray) (k:Nat):s.extract k s.size=S (s.data.toList.drop k):=by
 rw[US,jm (by rw[zr,Ay];omega)]
def cU (l:List UInt8) (c:UInt8) (w:World) (e:Ending) (w':World):Prop:=∃v,e=.returned v/\CB w' w.heap.size v (AC c l)/\Qb w w'
theorem PH (s:ByteArray) (c:UInt8) (w:World) (hs:s.size<=1000000) :
  Calls Tryz.prog 100 #[.string s,.int .u8 c.toNat] w (cU s.data.toList c w):=by
 go_enter Tryz.func100,Tryz.ntmps100
 go_wp2_with fail
 go_loopw [5,6,7] (fun v f i wr=>∃(k j:Nat) (ls:List (List UInt8)),k<=s.size/\j<=k/\ls.length<=k/\i=.int .i64 k/\f=.int .i64 j/\CB wr w.heap.size v ls/\Hid (Gd c (s.data.toList.take k)=(ls,(s.data.toList.drop j).take (k - j)))/\Qb w wr) (fun _ _ i _=>s.size - (intOf i).toNat)
 case atStart=>exact⟨0,0,[],zd _,ze _,ze _,rfl,rfl,CB.nil _ _,zb (by simp[Gd]),Qb.refl w⟩
 case round=>
  obtain⟨k,j,ls,hk,hj,hls,rfl,rfl,hrow,HL,hq⟩:=hrel;have hB:w.heap.size<=wr.heap.size:=hq.size;have HX:=zb (US s j k)
  by_cases hlt:k<s.size
  ·have HS:=zb ((congrArg (Gd c) (Ic s k hlt)).trans (gG c s[k] (s.data.toList.take k)))
   by_cases hc:s[k]=c
   ·have hb:((s[k].toNat:Int)==(c.toNat:Int))=true:=by rw[hc];exact beq_self_eq_true _
    have HN:Hid (Gd c (s.data.toList.take (k+1))=(ls++[(s.extract j k).data.toList],(s.data.toList.drop (k+1)).take (k+1 - (k+1)))):=zb (by
     rw[HS.out,HL.out];unfold Ia;rw[if_pos hc,HX.out];simp)
    clear hc HS HL
    go_wp2_with (at_builtin;refine Wl rfl (.tmp 19) (.tmp 24) rfl w.heap.size _ ls [(s.extract j k).data.toList] rfl (hrow.alloc _) _ _ _ rfl rfl (QT _ _) (by simp;omega) (by simp;omega) ?_;intro v1 w1 hr1 hb1)
    go_roundw
    case rel=>exact⟨k+1,k+1,_,by omega,by omega,by simp;omega,by go_num,by go_num,hr1,HN,Below.trans (hq.alloc _) hb1⟩
    case measure=>simp[intOf];omega
   ·have hb:((s[k].toNat:Int)==(c.toNat:Int))=false:=by
     rw[beq_eq_false_iff_ne];intro e;exact hc (UInt8.toNat_inj.1 (by omega))
    have HN:Hid (Gd c (s.data.toList.take (k+1))=(ls,(s.data.toList.drop j).take (k+1 - j))):=zb (by
     rw[HS.out,HL.out];unfold Ia;rw[if_neg hc];have e1:(s.data.toList.drop j).take (k+1 - j)=(s.data.toList.drop j).take (k - j)++[s[k]]:=by
      rw[show k+1 - j=(k - j)+1 from by omega,xk (by rw[zr,Ay];omega),List.getElem_drop]
      congr 2
      rw[<-Km s k hlt]
      congr 1;omega
     rw[e1])
    clear hc HS HL
    go_wp2_with fail
    go_roundw
    case rel=>exact⟨k+1,j,ls,by omega,by omega,by omega,by go_num,rfl,hrow,HN,hq⟩
    case measure=>simp[intOf];omega
  ·obtain rfl:k=s.size:=by omega
   have HN:Hid (AC c s.data.toList=ls++[(s.extract j s.size).data.toList]):=zb (by
    rw[kL,<-Fu s s.size hlt,HL.out,HX.out])
   clear HL
   go_wp2_with (at_builtin;refine Wl rfl (.tmp 28) (.tmp 32) rfl w.heap.size _ ls [(s.extract j s.size).data.toList] rfl (hrow.alloc _) _ _ _ rfl rfl (QT _ _) (by simp;omega) (by simp;omega) ?_;intro v1 w1 hr1 hb1)
   go_ret
   exact⟨v1,rfl,by rw[HN.out];exact hr1,Below.trans (hq.alloc _) hb1⟩
end Go.Proofs.YtbgaknpnkcdbfaaGreatDoor
namespace Go.Proofs.YtbgaknpnkcdbfaaGreatDoor
open Go.RowKit Go.Shelf
open List renaming cons_append->ja, length_cons->zp, length_nil->qd, nil_append->qo, size_toArray->y8
attribute [local go_sem] Oper.semAt_some
def B8 (s:List UInt8):List (List UInt8):=(AC 38 s).filter fun x=>!x.isEmpty
theorem SJ (s:List UInt8):B8 s=if (Af 38 s).2.2=true then (if (Af 38 s).1=[] then [] else [(Af 38 s).1])++B8 (Af 38 s).2.1 else if (Af 38 s).1=[] then [] else [(Af 38 s).1]:=by
 unfold B8;rw[Gt]
 by_cases h:(Af 38 s).2.2=true
 ·rw[if_pos h,if_pos h,List.filter_cons]
  cases e:(Af 38 s).1<;>simp
 ·rw[if_neg h,if_neg h];have h2:=((Gm 38 s).2.2 (by simpa using h)).1;rw[h2,List.filter_cons]
  cases e:s<;>simp
theorem GR {W W':World} (h:Qb W W'):W.grownBy W' none:=⟨h.os,h.tape,h.output,Below.size h,fun k hk _=>Below.block h k hk⟩
theorem L9 {W W':World} (h:Qb W W'):KeepsOthers W W':=KeepsOthers.of_grownBy (GR h) (fun j o ej=>by cases ej)
def qK:Value->Value->Nat
 | .string b,.bool true=>b.size+1
 | _,_=>0
set_option maxHeartbeats 2000000 in
theorem bR (n:Nat) (hn:1<=n) (l Bn n₀:Nat) (s:List UInt8) (hs:s.length<=1000000) (J Jx:List (List UInt8)->World->Prop)
  (hJ:∀pre W W',J pre W->Qb W W'->J pre W')
  (hY:∀pre x W,J pre W->pre.length<(B8 s).length->YieldAt Fence.wide (n - 1) Tryz.prog l #[.string (S (x.take 1000000))] W fun e W'=>
   (e=.returned (.bool true)/\J (pre++[x]) W'/\Below n₀ W W')\/(e=.returned (.bool false)/\Jx (pre++[x]) W'))
  (W:World) (hBn:W.cell? ⟨Bn,0,none⟩=some (.string (S s))) (h0:J [] W) :
  CallsIn Fence.wide n Tryz.prog 62 #[.func (.yield l) #[] #[],.pointer (some ⟨Bn,0,none⟩)] W fun e W'=>(∃v,e=.returned v) /\
   ((∃ys,ys=B8 s/\J ys W')\/(∃pre,pre <+: B8 s/\Jx pre W')):=by
 refine callsIn_of_wp Tryz.func62 rfl trivial ?_ rfl;simp only[Tryz.ntmps62,y8,zp,qd,Nat.reduceAdd,Nat.reduceSub,Array.replicate_succ,Array.replicate_zero,List.push_toArray,List.append_toArray,qo,ja]
 gi_wp2
 gi_loopw [3,4] (fun r m wr=>∃(pre:List (List UInt8)) (q:List UInt8) (b:Bool),r=.string (S q)/\m=.bool b/\q.length<=s.length/\B8 s=pre++(if b=true then B8 q else [])/\J pre wr)
  (fun r m wr=>qK r m)
 case atStart=>exact⟨[],s,true,rfl,rfl,Nat.le_refl _,rfl,h0⟩
 case round=>
  obtain⟨pre,q,b,rfl,rfl,hq,hx,hJs⟩:=hrel
  cases b with
  | false=>
   gi_wp2
   go_end0
   exact⟨⟨_,rfl⟩,.inl ⟨pre,by rw[hx];simp,hJs⟩⟩
  | true=>
   rw[if_pos rfl] at hx;have hcl:=Gm 38 q;have hcl2:=EG 38 q
   by_cases hc:(Af 38 q).1=[]
   ·have hxs:B8 q=if (Af 38 q).2.2=true then B8 (Af 38 q).2.1 else []:=by rw[SJ,if_pos hc,qo]
    rw[hxs] at hx
    gi_wp2_with (refine⟨trivial,?_⟩;gi_at_call 25;refine(callsIn_wide.2 (D7 (S q) 38 _ (by rw[AL];unfold maxLen;omega))).mono ?_;rintro e w' ⟨rfl,hq1⟩;unfold DD;try rw[AO])
    refine⟨fun _ h=>(by cases h),?_⟩
    gi_wp2
    go_roundw
    case rel=>exact⟨pre,(Af 38 q).2.1,(Af 38 q).2.2,rfl,rfl,by omega,hx,hJ _ _ _ hJs hq1⟩
    case measure=>
     cases hm:(Af 38 q).2.2
     ·exact Nat.succ_pos _
     ·have:=hcl.2.1 hm;show (S _).size+1<(S _).size+1;rw[AL,AL];omega
   ·have hne:(Af 38 q).1.isEmpty=false:=by cases e:(Af 38 q).1 with
     | nil=>exact absurd e hc
     | cons _ _=>rfl
    have hxs:B8 q=(Af 38 q).1::(if (Af 38 q).2.2=true then B8 (Af 38 q).2.1 else []):=by
     rw[SJ,if_neg hc]
     cases (Af 38 q).2.2<;>rfl
    rw[hxs] at hx
    gi_wp2_with (refine⟨trivial,?_⟩;gi_at_call 25;refine(callsIn_wide.2 (D7 (S q) 38 _ (by rw[AL];unfold maxLen;omega))).mono ?_;rintro e w' ⟨rfl,hq1⟩;unfold DD;(try rw[AO]);obtain⟨fn,tmps,assign,body,hy,hR⟩:=hY pre (Af 38 q).1 w' (hJ _ _ _ hJs hq1) (by rw[hx];simp);rw[List.take_of_length_le (by omega)] at hy)
    refine hR.mono ?_;rintro e W3 (⟨rfl,hJ3,hk3⟩|⟨rfl,hJx3⟩)
    ·gi_wp2
     go_roundw
     case rel=>exact⟨pre++[(Af 38 q).1],(Af 38 q).2.1,(Af 38 q).2.2,rfl,rfl,by omega,by rw[hx];simp,hJ3⟩
     case measure=>
      cases hm:(Af 38 q).2.2
      ·exact Nat.succ_pos _
      ·have:=hcl.2.1 hm;show (S _).size+1<(S _).size+1;rw[AL,AL];omega
    ·gi_wp2
     refine bodyPost_ret (results_none rfl _ _ _) rfl ?_;exact⟨⟨_,rfl⟩,.inr ⟨pre++[(Af 38 q).1],⟨if (Af 38 q).2.2=true then B8 (Af 38 q).2.1 else [],by rw[hx];simp⟩,hJx3⟩⟩
theorem dZ (n:Nat) (s:List UInt8) (w:World) :
  CallsIn Fence.wide n Tryz.prog 24 #[.string (S s)] w fun e w'=>e=.returned (.func (.func 62) #[] #[.pointer (some ⟨w.heap.size,0,none⟩)])/\w'=w.alloc (.cells #[.string (S s)] 9):=by
 refine callsIn_of_wp Tryz.func24 rfl trivial ?_ rfl;simp only[Tryz.ntmps24,y8,zp,qd,Nat.reduceAdd,Nat.reduceSub,Array.replicate_succ,Array.replicate_zero,List.push_toArray,List.append_toArray,qo,ja]
 gi_wp2
 go_ret
 exact⟨rfl,rfl⟩
theorem iV (n:Nat) (hn:1<=n) (Bn n₀:Nat) (s:List UInt8) (hs:s.length<=1000000) (w:World) (hBn:Bn<w.heap.size) (hc:w.cell? ⟨Bn,0,none⟩=some (.string (S s))) :
  SeqStopsK Fence.wide n Tryz.prog 62 #[.pointer (some ⟨Bn,0,none⟩)] (fun x:List UInt8=>#[Value.string (S (x.take 1000000))]) (Below n₀) (fun ys=>ys=B8 s) (fun pre=>pre <+: B8 s) (B8 s).length w:=fun l J Jx W hW hJ _ hY h0=>
 bR n hn l Bn n₀ s hs J Jx (fun pre A B hp hq=>hJ _ _ _ none hp (GR hq) (fun r e=>by cases e)) hY W ((hW.cell (p:=⟨Bn,0,none⟩) hBn).trans hc) h0
end Go.Proofs.YtbgaknpnkcdbfaaGreatDoor
namespace Go.Proofs.YtbgaknpnkcdbfaaGreatDoor
open Int renaming eq_ofNat_of_zero_le->y9, toNat_natCast->zt
open Lib renaming hid->zb
open List renaming all_cons->jn, all_eq_true->zw, drop_of_length_le->xg, eq_nil_of_length_eq_zero->qz, getElem?_eq_getElem->zk, getElem_mem->jg, mem_cons->zv, take_length->jh
open Nat renaming zero_le->zd
def DP (c:UInt8):Nat:=if c.toNat<=57 then c.toNat - 48 else if c.toNat<=70 then c.toNat - 55 else c.toNat - 87
def BM (base most:Nat):List UInt8->Nat->Option Nat
 | [],n=>some n
 | c::l,n=>if n*base+DP c<=most then BM base most l (n*base+DP c) else none
def qJ:Option Nat->Int×Nat
 | some n=>(0,n)
 | none=>(4,0)
def Cn (base most:Nat) (l:List UInt8):Int×Nat:=qJ (BM base most l 0)
def EN (p:UInt8->Bool) (l:List UInt8):Int:=if l=[] then 3 else if l.all p=true then 0 else 1
def Di (p:UInt8->Bool) (base most:Nat) (l:List UInt8):Int×Nat:=if EN p l=0 then Cn base most l else (EN p l,0)
def H4:List UInt8->Bool
 | 48::_::_=>true
 | _=>false
def Cy (most:Nat) (l:List UInt8):Int×Nat:=if EN Av l=0 then (if H4 l=true then (6,0) else Cn 10 most l) else (EN Av l,0)
def CX (r:Int×Nat):Value:=.tuple #[.int .u64 r.2,.int .i64 r.1]
theorem Qs {c:UInt8} (h:A9 c=true):48<=c.toNat/\c.toNat<=57\/97<=c.toNat/\c.toNat<=102\/65<=c.toNat/\c.toNat<=70:=of_decide_eq_true h
theorem Nz {c:UInt8} (h:A9 c=true):DP c<16:=by have:=Qs h;unfold DP;(repeat' split)<;>omega
theorem cN {c:UInt8} (h:Av c=true):DP c=c.toNat - 48/\48<=c.toNat/\c.toNat<=57:=by
 have h2:48<=c.toNat/\c.toNat<=57:=of_decide_eq_true h;exact⟨by unfold DP;rw[if_pos h2.2],h2⟩
theorem cK {c:UInt8} (h:Av c=true):A9 c=true:=by
 have h2:48<=c.toNat/\c.toNat<=57:=of_decide_eq_true h;exact decide_eq_true (.inl h2)
theorem Vm {l:List UInt8} (h:l.all Av=true):l.all A9=true:=by
 rw[zw] at h ⊢;exact fun c hc=>cK (h c hc)
theorem OX {p:UInt8->Bool} {l:List UInt8} (h0:l≠[]) (h:l.all p=true):EN p l=0:=by unfold EN;rw[if_neg h0,if_pos h]
theorem Pv {p:UInt8->Bool} {l:List UInt8} (h0:l≠[]) (h:l.all p=false):EN p l=1:=by unfold EN;rw[if_neg h0,if_neg (by rw[h];exact Bool.false_ne_true)]
theorem Up {p:UInt8->Bool} {l:List UInt8} (h:EN p l=0):l≠[]/\l.all p=true:=by
 unfold EN at h
 by_cases h0:l=[]
 ·rw[if_pos h0] at h;cases h
 ·rw[if_neg h0] at h
  by_cases h1:l.all p=true
  ·exact⟨h0,h1⟩
  ·rw[if_neg h1] at h;cases h
theorem Vk (p:UInt8->Bool) (l:List UInt8):EN p l=0\/EN p l=1\/EN p l=3:=by
 unfold EN;repeat' split
 all_goals simp
theorem Se (base most:Nat):∀(l:List UInt8) (n m:Nat),n<=most->BM base most l n=some m->m<=most
 | [],n,m,hn,h=>by rw[BM] at h;injection h with h;omega
 | c::l,n,m,hn,h=>by
  rw[BM] at h
  split at h
  ·rename_i h1;exact Se base most l _ m h1 h
  ·cases h
theorem Sd (base most:Nat) (l:List UInt8):(Cn base most l).2<=most:=by
 unfold Cn;rcases h:BM base most l 0 with _|n
 ·exact zd _
 ·exact Se base most l 0 n (zd _) h
theorem Tj (p:UInt8->Bool) (base most:Nat) (l:List UInt8):(Di p base most l).2<=most:=by
 unfold Di;split
 ·exact Sd _ _ _
 ·exact zd _
theorem PV (most:Nat) (l:List UInt8):(Cy most l).2<=most:=by
 unfold Cy;split
 ·split
  ·exact zd _
  ·exact Sd _ _ _
 ·exact zd _
theorem MM (s:ByteArray):H4 s.data.toList=true↔∃h:1<s.size,s[0]=48:=by
 by_cases h0:0<s.size
 ·have e:=Dv s 0 h0;rw[List.drop_zero] at e;rw[e]
  by_cases h1:1<s.size
  ·rw[Dv s 1 h1]
   constructor
   ·intro h;refine⟨h1,?_⟩;unfold H4 at h
    split at h
    ·rename_i h2;injection h2
    ·cases h
   ·rintro⟨_,h⟩;rw[h];rfl
  ·constructor
   ·intro h;rw[xg (by rw[Ay];omega)] at h;unfold H4 at h
    split at h
    ·rename_i h2;injection h2 with h2 h3;cases h3
    ·cases h
   ·rintro⟨h,_⟩;exact absurd h h1
 ·have:s.data.toList=[]:=qz (by rw[Ay];omega);rw[this]
  constructor
  ·intro h;cases h
  ·rintro⟨h,_⟩;omega
def Ez (c:UInt8):Bool:=Ce c||Av c||(c.toNat==45)
def C7 (c:UInt8):Bool:=c.toNat==45
def C4 (l:List UInt8):Bool:=!l.isEmpty&&decide (l.length<=63)&&!((l.head?.map C7).getD false)&&!((l.getLast?.map C7).getD false)&&l.all Ez
def DV (l:List UInt8):Bool:=(AC 46 l).all C4&&!Gj ((AC 46 l).getLastD [])
def FR (l:List UInt8):Bool:=decide ((Cy 255 l).1=0)
def E0 (n:Nat) (l:List UInt8):Bool:=decide ((AC 46 l).length=n)&&(AC 46 l).all FR
def Eh (l:List UInt8):Bool:=E0 4 l
def CM (l:List UInt8):Int×List UInt8:=if l=[] then (3,[]) else if 253<l.length then (5,[]) else if (DV l||Eh l)=true then (0,Bw l) else (50,[])
def DF (l:List UInt8):Int×Nat:=if (Cy 65535 l).1=0/\(Cy 65535 l).2≠0 then (0,(Cy 65535 l).2) else (51,0)
def Kb (r:Int×Nat):Value:=.tuple #[.int .i64 r.2,.int .i64 r.1]
theorem TG (s:ByteArray) (h:0<s.size):C4 s.data.toList=(decide (s.size<=63)&&!C7 s[0]&&!C7 s[s.size - 1]&&s.data.toList.all Ez):=by
 have e:=Dv s 0 h;rw[List.drop_zero] at e;have e1:s.data.toList.isEmpty=false:=by rw[e];rfl
 have e2:s.data.toList.head? = some s[0]:=by rw[e];rfl
 have e3:s.data.toList.getLast? = some s[s.size - 1]:=by
  rw[List.getLast?_eq_getElem?,Ay,zk (by rw[Ay];omega)];rfl
 unfold C4;rw[e1,e2,e3,Ay];simp only[Option.map_some,Option.getD_some]
 rfl
theorem UB {l:List UInt8} (h:(Af 46 l).2.2=true):DV l=(C4 (Af 46 l).1&&DV (Af 46 l).2.1):=by
 unfold DV;rw[Gt 46 l,if_pos h];obtain⟨p,ps,e⟩:=Ev 46 (Af 46 l).2.1;rw[e,jn,Bool.and_assoc]
 rfl
theorem UA {l:List UInt8} (h:(Af 46 l).2.2=false):DV l=(C4 l&&!Gj l):=by
 unfold DV;rw[Gt 46 l,if_neg (by rw[h];exact Bool.false_ne_true)];simp[List.getLastD]
theorem Ug {l:List UInt8} {n:Nat} (h:(Af 46 l).2.2=true):E0 (n+1) l=(FR (Af 46 l).1&&E0 n (Af 46 l).2.1):=by
 unfold E0;rw[Gt 46 l,if_pos h,List.length_cons,jn];have:decide ((AC 46 (Af 46 l).2.1).length+1=n+1)=decide ((AC 46 (Af 46 l).2.1).length=n):=decide_eq_decide.2 (by omega);rw[this];rcases FR (Af 46 l).1<;>simp
theorem ZN {l:List UInt8} (h:(Af 46 l).2.2=false):E0 1 l=FR l:=by
 unfold E0;rw[Gt 46 l,if_neg (by rw[h];exact Bool.false_ne_true)];simp
theorem fA {l:List UInt8} {n:Nat} (h:(Af 46 l).2.2=false):E0 (n+2) l=false:=by
 unfold E0;rw[Gt 46 l,if_neg (by rw[h];exact Bool.false_ne_true)];simp
theorem eZ {l:List UInt8} (h:(Af 46 l).2.2=true):E0 1 l=false:=by
 rw[Ug h];have:E0 0 (Af 46 l).2.1=false:=by
  unfold E0;have:=JS 46 (Af 46 l).2.1;rw[decide_eq_false (by omega)];rfl
 rw[this,Bool.and_false]
theorem gU {l:List UInt8} (h:C4 l=true):1<=l.length:=by
 rcases l with _|⟨c,t⟩
 ·cases h
 ·simp
open Go.RowKit
theorem cJ:∀n:Fin 256,bits .and .u8 ((n.val:Nat):Int) 223=((n.val &&& 223:Nat):Int):=by decide +kernel
theorem sB:∀n:Fin 256,(97<=n.val/\n.val<=102\/65<=n.val/\n.val<=70)->bits .or .u8 ((n.val:Nat):Int) 32=(((if n.val<=70 then n.val+32 else n.val):Nat):Int):=by decide +kernel
theorem bC:∀n:Fin 256,(97<=n.val/\n.val<=102\/65<=n.val/\n.val<=70)->(n.val &&& 223)=(if n.val<=70 then n.val else n.val - 32):=by decide +kernel
theorem PE (c:UInt8) (h:A9 c=true) (w:World) :
  Calls Tryz.prog 209 #[.int .u8 c.toNat] w fun e w'=>e=.returned (.int .u64 (DP c:Int))/\w=w':=by
 rcases hd:Av c with _|_
 ·have h3:=Qs h;have h2:¬(48<=c.toNat/\c.toNat<=57):=of_decide_eq_false hd;have h4:97<=c.toNat/\c.toNat<=102\/65<=c.toNat/\c.toNat<=70:=by omega
  obtain⟨x,hx,hx0,hx1,hx2⟩:∃x:Int,bits .and .u8 (c.toNat:Int) 223=x/\65<=x/\x<=70/\x - 65+10=DP c:=by
   refine⟨_,(cJ ⟨c.toNat,c.toNat_lt⟩).trans (congrArg Nat.cast (bC ⟨c.toNat,c.toNat_lt⟩ h4)),?_,?_,?_⟩
   all_goals simp only[DP]
   all_goals (repeat' split)
   all_goals omega
  have HX:=zb hx2;have HD:=zb hd;clear h h3 h2 h4 hd hx2
  go_enter Tryz.func209,Tryz.ntmps209
  go_wp2_with fail
  refine(Fa _ _).mono ?_;rintro e w' ⟨rfl,rfl⟩;rw[HD.out]
  go_wp2_with fail
  go_ret
  exact⟨EP (by rw[<-HX.out]),rfl⟩
 ·have h2:=cN hd;have HX:=zb h2.1;have hx0:=h2.2.1;have hx1:=h2.2.2;have HD:=zb hd;clear h hd h2
  go_enter Tryz.func209,Tryz.ntmps209
  go_wp2_with fail
  refine(Fa _ _).mono ?_;rintro e w' ⟨rfl,rfl⟩;rw[HD.out]
  go_wp2_with fail
  go_ret
  exact⟨EP (by rw[HX.out];omega),rfl⟩
theorem JY (s:ByteArray) (w:World) (hs:s.size<=maxLen) :
  Calls Tryz.prog 196 #[.string s,.func (.func 132) #[] #[]] w fun e w'=>e=.returned (.int .i64 (EN Av s.data.toList))/\w=w':=by
 unfold maxLen at hs
 by_cases h0:s.size=0
 ·obtain rfl:s=S []:=GL h0;clear h0 hs
  go_enter Tryz.func196,Tryz.ntmps196
  go_wp2_with fail
  go_ret
  exact⟨rfl,rfl⟩
 ·have hne:s.data.toList≠[]:=fun e=>h0 (by rw[<-Ay,e];rfl);have HE:=zb hne;have he1:s.toList.isEmpty=false:=by rw[ByteArray.toList_eq];simpa using hne
  have hpos:0<s.size:=by omega
  clear h0 hne
  go_enter Tryz.func196,Tryz.ntmps196
  go_wp2_with fail
  go_loop [10] (fun i=>∃k:Nat,k<=s.size/\i=.int .i64 k/\Hid ((s.data.toList.take k).all Av=true)) (fun i=>s.size - (intOf i).toNat)
  case atStart=>exact⟨0,zd _,rfl,zb rfl⟩
  case round=>
   obtain⟨k,hk,rfl,HA⟩:=hrel
   by_cases hlt:k<s.size
   ·rcases hp:Av s[k] with _|_
    ·have HB:Hid (s.data.toList.all Av=false):=zb (Ig _ _ (k+1) (by rw[FS _ _ _ hlt,hp,Bool.and_false]));have HP:=zb hp;clear hp
     go_wp2_with fail
     refine(Fa _ _).mono ?_;rintro e w' ⟨rfl,rfl⟩;rw[HP.out]
     go_wp2_with fail
     go_ret
     exact⟨EP (by rw[Pv HE.out HB.out]),rfl⟩
    ·have HB:Hid ((s.data.toList.take (k+1)).all Av=true):=zb (by rw[FS _ _ _ hlt,hp,HA.out];rfl);have HP:=zb hp;clear hp
     go_wp2_with fail
     refine(Fa _ _).mono ?_;rintro e w' ⟨rfl,rfl⟩;rw[HP.out]
     go_wp2_with fail
     go_round
     case rel=>exact⟨k+1,by omega,by go_num,HB⟩
     case measure=>simp[intOf];omega
   ·have HB:Hid (s.data.toList.all Av=true):=zb (by rw[<-Fu s k hlt];exact HA.out)
    go_wp2_with fail
    go_ret
    exact⟨EP (by rw[OX HE.out HB.out]),rfl⟩
theorem ND {p:UInt8->Bool} {s:ByteArray} (h:s.data.toList.all p=true) (k:Nat) (hk:k<s.size):p s[k]=true:=by
 rw[zw] at h;exact h _ (by rw[<-Ud s k hk,List.getD_eq_getElem?_getD,zk (by rw[Ay];exact hk)];exact jg _)
theorem PW (s:ByteArray) (most:Int) (w:World) (hs:s.size<=maxLen) (h0:0<=most) (h1:most<=18446744073709551615) (hh:s.data.toList.all A9=true) :
  Calls Tryz.prog 197 #[.string s,.int .u64 10,.int .u64 most] w fun e w'=>e=.returned (CX (Cn 10 most.toNat s.data.toList))/\w=w':=by
 unfold maxLen at hs;obtain⟨M,rfl⟩:=y9 h0;rw[zt];have HH:=zb hh;clear hh h0
 go_enter Tryz.func197,Tryz.ntmps197
 go_wp2_with fail
 go_loop [8,13] (fun n i=>∃k m:Nat,k<=s.size/\m<=M/\i=.int .i64 k/\n=.int .u64 m/\Hid (BM 10 M s.data.toList 0=BM 10 M (s.data.toList.drop k) m)) (fun _ i=>s.size - (intOf i).toNat)
 case atStart=>exact⟨0,0,zd _,zd _,rfl,rfl,zb rfl⟩
 case round=>
  obtain⟨k,m,hk,hm,rfl,rfl,HV⟩:=hrel
  by_cases hlt:k<s.size
  ·have hx:=ND HH.out k hlt;have hd16:=Nz hx;have HX:=zb hx;have HC:Hid (BM 10 M (s.data.toList.drop k) m=if m*10+DP s[k]<=M then BM 10 M (s.data.toList.drop (k+1)) (m*10+DP s[k]) else none):=zb (by rw[Dv s k hlt];rfl);clear hx;generalize hdv:DP s[k]=d at *;have HD:=zb hdv;clear hdv
   by_cases hdm:d<=M
   ·by_cases hok:m*10+d<=M
    ·have hq1:(m:Int)<=((M:Int) - d) / 10:=by omega
     have HN:Hid (BM 10 M s.data.toList 0=BM 10 M (s.data.toList.drop (k+1)) (m*10+d)):=zb (by rw[HV.out,HC.out,if_pos hok])
     go_wp2_with fail
     refine(PE _ HX.out _).mono ?_;rintro e w' ⟨rfl,rfl⟩;rw[HD.out]
     go_wp2_with fail
     go_round
     case rel=>exact⟨k+1,m*10+d,by omega,hok,by go_num,by go_num,HN⟩
     case measure=>simp[intOf];omega
    ·have hq1:((M:Int) - d) / 10<m:=by omega
     have HN:Hid (BM 10 M s.data.toList 0=none):=zb (by rw[HV.out,HC.out,if_neg hok]);clear hok
     go_wp2_with fail
     refine(PE _ HX.out _).mono ?_;rintro e w' ⟨rfl,rfl⟩;rw[HD.out]
     go_wp2_with fail
     go_ret2
     exact⟨by unfold Cn;rw[HN.out];rfl,rfl⟩
   ·have hdm1:(M:Int)<d:=by omega
    have HN:Hid (BM 10 M s.data.toList 0=none):=zb (by rw[HV.out,HC.out,if_neg (by omega)]);clear hdm
    go_wp2_with fail
    refine(PE _ HX.out _).mono ?_;rintro e w' ⟨rfl,rfl⟩;rw[HD.out]
    go_wp2_with fail
    go_ret2
    exact⟨by unfold Cn;rw[HN.out];rfl,rfl⟩
  ·have HN:Hid (BM 10 M s.data.toList 0=some m):=zb (by rw[HV.out,xg (by rw[Ay];omega)];rfl)
   go_wp2_with fail
   go_ret2
   exact⟨by unfold Cn;rw[HN.out];rfl,rfl⟩
theorem I4 (s:ByteArray) (most:Int) (w:World) (hs:s.size<=maxLen) (h0:0<=most) (h1:most<=18446744073709551615) :
  Calls Tryz.prog 176 #[.string s,.int .u64 most] w fun e w'=>e=.returned (CX (Cy most.toNat s.data.toList))/\w=w':=by
 rcases Vk Av s.data.toList with hc|hc|hc
 ·have HA:Hid (s.data.toList.all A9=true):=zb (Vm (Up hc).2);have hpos:0<s.size:=by
   have:=(Up hc).1;have h2:s.data.toList.length≠0:=fun e=>this (qz e);rw[Ay] at h2;omega
  rcases hz:H4 s.data.toList with _|_
  ·have HN:Hid (Cy most.toNat s.data.toList=Cn 10 most.toNat s.data.toList):=zb (by unfold Cy;rw[if_pos hc,if_neg (by rw[hz];exact Bool.false_ne_true)]);have HC:=zb hc;rw[HN.out];have hor:s.size<=1\/((s[0].toNat:Int)==48)=false:=by
    by_cases h:s.size<=1
    ·exact .inl h
    ·refine .inr (beq_eq_false_iff_ne.2 fun e=>?_);have:s[0]=48:=UInt8.toNat_inj.1 (by show s[0].toNat=48;omega);have:=(MM s).2 ⟨by omega,this⟩;rw[hz] at this;cases this
   clear hc hz;unfold maxLen at hs;rcases hor with hor|hor
   ·go_enter Tryz.func176,Tryz.ntmps176
    go_wp2_with fail
    refine(JY s _ hs).mono ?_;rintro e w' ⟨rfl,rfl⟩;rw[HC.out]
    go_wp2_with fail
    refine(PW s most _ hs h0 h1 HA.out).mono ?_;rintro e w' ⟨rfl,rfl⟩;unfold CX
    go_wp2_with fail
    go_ret2
    exact⟨rfl,rfl⟩
   ·by_cases h1s:s.size<=1
    ·clear hor
     go_enter Tryz.func176,Tryz.ntmps176
     go_wp2_with fail
     refine(JY s _ hs).mono ?_;rintro e w' ⟨rfl,rfl⟩;rw[HC.out]
     go_wp2_with fail
     refine(PW s most _ hs h0 h1 HA.out).mono ?_;rintro e w' ⟨rfl,rfl⟩;unfold CX
     go_wp2_with fail
     go_ret2
     exact⟨rfl,rfl⟩
    ·have h2s:1<s.size:=by omega
     clear h1s
     go_enter Tryz.func176,Tryz.ntmps176
     go_wp2_with fail
     refine(JY s _ hs).mono ?_;rintro e w' ⟨rfl,rfl⟩;rw[HC.out]
     go_wp2_with fail
     refine(PW s most _ hs h0 h1 HA.out).mono ?_;rintro e w' ⟨rfl,rfl⟩;unfold CX
     go_wp2_with fail
     go_ret2
     exact⟨rfl,rfl⟩
  ·obtain⟨h2s,h48⟩:=(MM s).1 hz;have HN:Hid (Cy most.toNat s.data.toList=(6,0)):=zb (by unfold Cy;rw[if_pos hc,if_pos hz]);have hb:((s[0].toNat:Int)==48)=true:=by rw[h48];rfl
   have HC:=zb hc;rw[HN.out];clear hc hz h48
   go_enter Tryz.func176,Tryz.ntmps176
   go_wp2_with fail
   refine(JY s _ hs).mono ?_;rintro e w' ⟨rfl,rfl⟩;rw[HC.out]
   go_wp2_with fail
   go_ret2
   exact⟨rfl,rfl⟩
 ·have HN:Hid (Cy most.toNat s.data.toList=(1,0)):=zb (by unfold Cy;rw[hc,if_neg (by decide)]);have HC:=zb hc;clear hc;rw[HN.out]
  go_enter Tryz.func176,Tryz.ntmps176
  go_wp2_with fail
  refine(JY s _ hs).mono ?_;rintro e w' ⟨rfl,rfl⟩;rw[HC.out]
  go_wp2_with fail
  go_ret2
  exact⟨rfl,rfl⟩
 ·have HN:Hid (Cy most.toNat s.data.toList=(3,0)):=zb (by unfold Cy;rw[hc,if_neg (by decide)]);have HC:=zb hc;clear hc;rw[HN.out]
  go_enter Tryz.func176,Tryz.ntmps176
  go_wp2_with fail
  refine(JY s _ hs).mono ?_;rintro e w' ⟨rfl,rfl⟩;rw[HC.out]
  go_wp2_with fail
  go_ret2
  exact⟨rfl,rfl⟩
theorem Xq {c:UInt8} (h:C7 c=true):((c.toNat:Int)==45)=true:=by
 have:c.toNat=45:=by simpa[C7] using h
 rw[this];rfl
theorem QH {c:UInt8} (h:C7 c=false):((c.toNat:Int)==45)=false:=by
 have:c.toNat≠45:=by simpa[C7] using h
 rw[beq_eq_false_iff_ne];omega
theorem M3 {c:UInt8} (h:C7 c=true):((c.toNat:Int) != 45)=false:=by
 have:c.toNat=45:=by simpa[C7] using h
 rw[this];rfl
theorem K6 {c:UInt8} (h:C7 c=false):((c.toNat:Int) != 45)=true:=by
 have:c.toNat≠45:=by simpa[C7] using h
 rw[bne_iff_ne];omega
theorem Hx (c:UInt8):Ez c=(Ce c||Av c||C7 c):=rfl
set_option maxHeartbeats 1000000 in
theorem PT (s:ByteArray) (w:World) (hs:s.size<=maxLen) :
  Calls Tryz.prog 194 #[.string s] w fun e w'=>e=.returned (.bool (C4 s.data.toList))/\w=w':=by
 unfold maxLen at hs
 by_cases h0:s.size=0
 ·obtain rfl:s=S []:=GL h0;clear h0 hs
  go_enter Tryz.func194,Tryz.ntmps194
  go_wp2_with fail
  go_ret
  exact⟨rfl,rfl⟩
 have hpos:0<s.size:=by omega
 have HL:=zb (TG s hpos);have he1:s.toList.isEmpty=false:=by
  rw[ByteArray.toList_eq];rcases hl:s.data.toList with _|⟨c,t⟩
  ·have:=Ay s;rw[hl] at this;simp at this;omega
  ·rfl
 clear h0
 by_cases h63:63<s.size
 ·go_enter Tryz.func194,Tryz.ntmps194
  go_wp2_with fail
  go_ret
  exact⟨Bi (by rw[HL.out,decide_eq_false (by omega)];rfl),rfl⟩
 have h63':s.size<=63:=by omega
 have hidx:s.size - 1<s.size:=by omega
 clear h63;rcases hy0:C7 s[0] with _|_
 ·rcases hy1:C7 s[s.size - 1] with _|_
  ·have b0:=QH hy0;have b1:=QH hy1;have HA:Hid (C4 s.data.toList=s.data.toList.all Ez):=zb (by rw[HL.out,hy0,hy1,decide_eq_true h63'];simp);clear hy0 hy1
   go_enter Tryz.func194,Tryz.ntmps194
   go_wp2_with fail
   clear b0 b1
   go_loop [26] (fun i=>∃k:Nat,k<=s.size/\i=.int .i64 k/\Hid ((s.data.toList.take k).all Ez=true)) (fun i=>s.size - (intOf i).toNat)
   case atStart=>exact⟨0,zd _,rfl,zb rfl⟩
   case round=>
    obtain⟨k,hk,rfl,HT⟩:=hrel
    by_cases hlt:k<s.size
    ·have hst:Ez s[k]=true->Hid ((s.data.toList.take (k+1)).all Ez=true):=fun h=>zb (by rw[FS _ _ _ hlt,h,HT.out];rfl);have hbad:Ez s[k]=false->Hid (s.data.toList.all Ez=false):=fun h=>zb (Ig _ _ (k+1) (by rw[FS _ _ _ hlt,h,Bool.and_false]));rcases ha:Ce s[k] with _|_
     ·rcases hd:Av s[k] with _|_
      ·rcases hy:C7 s[k] with _|_
       ·have HB:=hbad (by rw[Hx,ha,hd,hy];rfl);have b:=K6 hy;have H1:=zb ha;have H2:=zb hd;clear ha hd hy hst hbad
        go_wp2_with fail
        refine(Gq _ _).mono ?_;rintro e w' ⟨rfl,rfl⟩;rw[H1.out]
        go_wp2_with fail
        refine(Fa _ _).mono ?_;rintro e w' ⟨rfl,rfl⟩;rw[H2.out]
        go_wp2_with fail
        go_ret
        exact⟨Bi (by rw[HA.out,HB.out]),rfl⟩
       ·have HB:=hst (by rw[Hx,ha,hd,hy];rfl);have b:=M3 hy;have H1:=zb ha;have H2:=zb hd;clear ha hd hy hst hbad
        go_wp2_with fail
        refine(Gq _ _).mono ?_;rintro e w' ⟨rfl,rfl⟩;rw[H1.out]
        go_wp2_with fail
        refine(Fa _ _).mono ?_;rintro e w' ⟨rfl,rfl⟩;rw[H2.out]
        go_wp2_with fail
        go_round
        case rel=>exact⟨k+1,by omega,by go_num,HB⟩
        case measure=>simp[intOf];omega
      ·have HB:=hst (by rw[Hx,ha,hd];rfl);have H1:=zb ha;have H2:=zb hd;clear ha hd hst hbad
       go_wp2_with fail
       refine(Gq _ _).mono ?_;rintro e w' ⟨rfl,rfl⟩;rw[H1.out]
       go_wp2_with fail
       refine(Fa _ _).mono ?_;rintro e w' ⟨rfl,rfl⟩;rw[H2.out]
       go_wp2_with fail
       go_round
       case rel=>exact⟨k+1,by omega,by go_num,HB⟩
       case measure=>simp[intOf];omega
     ·have HB:=hst (by rw[Hx,ha];rfl);have H1:=zb ha;clear ha hst hbad
      go_wp2_with fail
      refine(Gq _ _).mono ?_;rintro e w' ⟨rfl,rfl⟩;rw[H1.out]
      go_wp2_with fail
      go_round
      case rel=>exact⟨k+1,by omega,by go_num,HB⟩
      case measure=>simp[intOf];omega
    ·have HB:Hid (s.data.toList.all Ez=true):=zb (by rw[<-Fu s k hlt];exact HT.out)
     go_wp2_with fail
     go_ret
     exact⟨Bi (by rw[HA.out,HB.out]),rfl⟩
  ·have b0:=QH hy0;have b1:=Xq hy1;have HA:Hid (C4 s.data.toList=false):=zb (by rw[HL.out,hy0,hy1];simp);clear hy0 hy1
   go_enter Tryz.func194,Tryz.ntmps194
   go_wp2_with fail
   go_ret
   exact⟨Bi (by rw[HA.out]),rfl⟩
 ·have b0:=Xq hy0;have HA:Hid (C4 s.data.toList=false):=zb (by rw[HL.out,hy0];simp);clear hy0
  go_enter Tryz.func194,Tryz.ntmps194
  go_wp2_with fail
  go_ret
  exact⟨Bi (by rw[HA.out]),rfl⟩
theorem PA (s:ByteArray) (w:World) (hs:s.size<=maxLen) :
  Calls Tryz.prog 173 #[.string s] w fun e w'=>e=.returned (.bool (DV s.data.toList))/\Qb w w':=by
 unfold maxLen at hs
 go_enter Tryz.func173,Tryz.ntmps173
 go_wp2_with fail
 go_loopw [3,4,5,6,10] (fun r _ _ _ i wr=>∃(k:Nat) (c:ByteArray),k<=s.size/\c.size+k<=s.size/\i=.int .i64 k/\r=.string c/\Hid (DV s.data.toList=DV c.data.toList)/\Qb w wr) (fun _ _ _ _ i _=>s.size - (intOf i).toNat)
 case atStart=>exact⟨0,s,zd _,by omega,rfl,rfl,zb rfl,Qb.refl w⟩
 case round=>
  obtain⟨k,c,hk,hck,rfl,rfl,HN,hq⟩:=hrel
  by_cases hlt:k<s.size
  ·have hl:=Gm 46 c.data.toList;have hlens:=EG 46 c.data.toList;obtain⟨p,q,b,hcut⟩:∃p q b,Af 46 c.data.toList=(p,q,b):=⟨_,_,_,rfl⟩;have HC:=zb hcut;have hsp:(S p).size<=maxLen:=by unfold maxLen;rw[AL];rw[hcut] at hlens;have:=hlens.1;rw[Ay] at this;simp at this;omega
   rcases hlb:C4 p with _|_
   ·have HF:Hid (DV c.data.toList=false):=zb (by
     rcases hb:b with _|_
     ·subst hb;have h2:(Af 46 c.data.toList).2.2=false:=by rw[hcut]
      have h3:=(hl.2.2 h2).1;rw[hcut] at h3;rw[UA h2,<-h3,hlb];rfl
     ·subst hb;rw[UB (by rw[hcut]),hcut,hlb];rfl)
    have H1:=zb hlb;clear hl hlens hcut hlb
    go_wp2_with fail
    refine(D7 c 46 _ (by unfold maxLen;omega)).mono ?_;rintro e w1 ⟨rfl,hq1⟩;rw[HC.out];unfold DD
    go_wp2_with fail
    refine(PT _ _ hsp).mono ?_;rintro e w2 ⟨rfl,rfl⟩;rw[AO,H1.out]
    go_wp2_with fail
    go_ret
    exact⟨Bi (by rw[HN.out,HF.out]),hq.trans hq1⟩
   ·have H1:=zb hlb;rcases hb:b with _|_
    ·subst hb;have h2:(Af 46 c.data.toList).2.2=false:=by rw[hcut]
     have h3:=(hl.2.2 h2).1;rw[hcut] at h3;have HF:Hid (DV c.data.toList=!Gj p):=zb (by rw[UA h2,<-h3,hlb,Bool.true_and]);clear hl hlens hcut hlb h2 h3
     go_wp2_with fail
     refine(D7 c 46 _ (by unfold maxLen;omega)).mono ?_;rintro e w1 ⟨rfl,hq1⟩;rw[HC.out];unfold DD
     go_wp2_with fail
     refine(PT _ _ hsp).mono ?_;rintro e w2 ⟨rfl,rfl⟩;rw[AO,H1.out]
     go_wp2_with fail
     refine(fI _ _ hsp).mono ?_;rintro e w2 ⟨rfl,rfl⟩;rw[AO]
     go_wp2_with fail
     go_ret
     exact⟨Bi (by rw[HN.out,HF.out]),hq.trans hq1⟩
    ·subst hb;have h2:(Af 46 c.data.toList).2.2=true:=by rw[hcut]
     have h3:=hl.2.1 h2;rw[hcut,Ay] at h3;simp only at h3;have h4:=gU hlb;have HF:Hid (DV c.data.toList=DV (S q).data.toList):=zb (by rw[UB h2,hcut,hlb,Bool.true_and]);have h5:(S q).size+(k+1)<=s.size:=by rw[AL];omega
     clear hl hlens hcut hlb h2 h3 h4
     go_wp2_with fail
     refine(D7 c 46 _ (by unfold maxLen;omega)).mono ?_;rintro e w1 ⟨rfl,hq1⟩;rw[HC.out];unfold DD
     go_wp2_with fail
     refine(PT _ _ hsp).mono ?_;rintro e w2 ⟨rfl,rfl⟩;rw[AO,H1.out]
     go_wp2_with fail
     go_roundw
     case rel=>exact⟨k+1,S q,by omega,h5,by go_num,rfl,zb (by rw[HN.out,HF.out]),hq.trans hq1⟩
     case measure=>simp[intOf];omega
  ·have hc0:c.size=0:=by omega
   obtain rfl:c=S []:=GL hc0;clear hc0
   go_wp2_with fail
   go_ret
   exact⟨Bi (by rw[HN.out];decide),hq⟩
theorem UI (l:List UInt8):FR l=decide ((Cy (255:Int).toNat l).1=0):=rfl
theorem Ux (s:ByteArray) (w:World) (hs:s.size<=maxLen) :
  Calls Tryz.prog 174 #[.string s] w fun e w'=>e=.returned (.bool (Eh s.data.toList))/\Qb w w':=by
 unfold maxLen at hs
 go_enter Tryz.func174,Tryz.ntmps174
 go_wp2_with fail
 go_loopw [3,4,5,6,7,8,9,10,12] (fun r _ _ _ _ _ _ _ i wr=>∃(k:Nat) (c:ByteArray),k<=4/\c.size<=s.size/\i=.int .i64 k/\r=.string c/\Hid (Eh s.data.toList=if k=4 then true else E0 (4 - k) c.data.toList)/\Qb w wr) (fun _ _ _ _ _ _ _ _ i _=>4 - (intOf i).toNat)
 case atStart=>exact⟨0,s,by omega,Nat.le_refl _,rfl,rfl,zb rfl,Qb.refl w⟩
 case round=>
  obtain⟨k,c,hk,hck,rfl,rfl,HN,hq⟩:=hrel
  by_cases hlt:k<4
  ·have hl:=Gm 46 c.data.toList;have hlens:=EG 46 c.data.toList;obtain⟨p,q,b,hcut⟩:∃p q b,Af 46 c.data.toList=(p,q,b):=⟨_,_,_,rfl⟩;have HC:=zb hcut;have hsp:(S p).size<=maxLen:=by unfold maxLen;rw[AL];rw[hcut] at hlens;have:=hlens.1;rw[Ay] at this;simp at this;omega
   have hsq:(S q).size<=s.size:=by rw[AL];rw[hcut] at hlens;have:=hlens.2;rw[Ay] at this;simp at this;omega
   have HN':Hid (Eh s.data.toList=E0 (4 - k) c.data.toList):=zb (by rw[HN.out,if_neg (by omega)]);clear HN;obtain⟨er,v,hst⟩:∃er v,Cy (255:Int).toNat p=(er,v):=⟨_,_,rfl⟩;have HS:=zb hst;have hok:FR p=decide (er=0):=by rw[UI,hst]
   by_cases hk3:k=3
   ·subst hk3;rcases hb:b with _|_
    ·subst hb;have h2:(Af 46 c.data.toList).2.2=false:=by rw[hcut]
     have h3:=(hl.2.2 h2).1;rw[hcut] at h3;have HF:Hid (Eh s.data.toList=decide (er=0)):=zb (by rw[HN'.out,show 4 - 3=1 from rfl,ZN h2,<-h3,hok]);clear hl hlens hcut h2 h3 hok hst
     by_cases he:er=0
     ·subst he
      go_wp2_with fail
      refine(D7 c 46 _ (by unfold maxLen;omega)).mono ?_;rintro e w1 ⟨rfl,hq1⟩;rw[HC.out];unfold DD
      go_wp2_with fail
      refine(I4 _ _ _ hsp (by decide) (by decide)).mono ?_;rintro e w2 ⟨rfl,rfl⟩;rw[AO,HS.out];unfold CX
      go_wp2_with fail
      go_roundw
      case rel=>exact⟨4,S q,by omega,hsq,by go_num,rfl,zb (by rw[HF.out];rfl),hq.trans hq1⟩
      case measure=>simp[intOf]
     ·have he1:(er != 0)=true:=bne_iff_ne.2 he;have HF2:Hid (Eh s.data.toList=false):=zb (by rw[HF.out,decide_eq_false he]);clear he HF
      go_wp2_with fail
      refine(D7 c 46 _ (by unfold maxLen;omega)).mono ?_;rintro e w1 ⟨rfl,hq1⟩;rw[HC.out];unfold DD
      go_wp2_with fail
      refine(I4 _ _ _ hsp (by decide) (by decide)).mono ?_;rintro e w2 ⟨rfl,rfl⟩;rw[AO,HS.out];unfold CX
      go_wp2_with fail
      go_ret
      exact⟨Bi (by rw[HF2.out]),hq.trans hq1⟩
    ·subst hb;have HF:Hid (Eh s.data.toList=false):=zb (by rw[HN'.out,show 4 - 3=1 from rfl,eZ (by rw[hcut])]);clear hl hlens hcut hok hst
     go_wp2_with fail
     refine(D7 c 46 _ (by unfold maxLen;omega)).mono ?_;rintro e w1 ⟨rfl,hq1⟩;rw[HC.out];unfold DD
     go_wp2_with fail
     go_ret
     exact⟨Bi (by rw[HF.out]),hq.trans hq1⟩
   ·have hk2:k<=2:=by omega
    have hkb:((k:Int)==3)=false:=by rw[beq_eq_false_iff_ne];omega
    clear hk3;rcases hb:b with _|_
    ·subst hb;have HF:Hid (Eh s.data.toList=false):=zb (by rw[HN'.out,show 4 - k=(2 - k)+2 from by omega,fA (by rw[hcut])]);clear hl hlens hcut hok hst
     go_wp2_with fail
     refine(D7 c 46 _ (by unfold maxLen;omega)).mono ?_;rintro e w1 ⟨rfl,hq1⟩;rw[HC.out];unfold DD
     go_wp2_with fail
     go_ret
     exact⟨Bi (by rw[HF.out]),hq.trans hq1⟩
    ·subst hb;have HF:Hid (Eh s.data.toList=(decide (er=0)&&E0 (4 - (k+1)) (S q).data.toList)):=zb (by rw[HN'.out,show 4 - k=(4 - (k+1))+1 from by omega,Ug (by rw[hcut]),hcut,hok]);clear hl hlens hcut hok hst
     by_cases he:er=0
     ·subst he
      go_wp2_with fail
      refine(D7 c 46 _ (by unfold maxLen;omega)).mono ?_;rintro e w1 ⟨rfl,hq1⟩;rw[HC.out];unfold DD
      go_wp2_with fail
      refine(I4 _ _ _ hsp (by decide) (by decide)).mono ?_;rintro e w2 ⟨rfl,rfl⟩;rw[AO,HS.out];unfold CX
      go_wp2_with fail
      go_roundw
      case rel=>exact⟨k+1,S q,by omega,hsq,by go_num,rfl,zb (by rw[HF.out,if_neg (by omega)];rfl),hq.trans hq1⟩
      case measure=>simp[intOf];omega
     ·have he1:(er != 0)=true:=bne_iff_ne.2 he;have HF2:Hid (Eh s.data.toList=false):=zb (by rw[HF.out,decide_eq_false he];rfl);clear he HF
      go_wp2_with fail
      refine(D7 c 46 _ (by unfold maxLen;omega)).mono ?_;rintro e w1 ⟨rfl,hq1⟩;rw[HC.out];unfold DD
      go_wp2_with fail
      refine(I4 _ _ _ hsp (by decide) (by decide)).mono ?_;rintro e w2 ⟨rfl,rfl⟩;rw[AO,HS.out];unfold CX
      go_wp2_with fail
      go_ret
      exact⟨Bi (by rw[HF2.out]),hq.trans hq1⟩
  ·obtain rfl:k=4:=by omega
   go_wp2_with fail
   go_ret
   exact⟨Bi (by rw[HN.out];rfl),hq⟩
theorem UV {c:UInt8} (h:A9 c=true):(48<=c.toNat/\c.toNat<=57/\DP c=c.toNat - 48)\/(57<c.toNat/\∃x:Int,bits .or .u8 (c.toNat:Int) 32=x/\97<=x/\x<=102/\x - 97+10=DP c):=by
 have h3:=Qs h
 by_cases hd:c.toNat<=57
 ·refine .inl ⟨by omega,hd,?_⟩;unfold DP;rw[if_pos hd]
 ·have h4:97<=c.toNat/\c.toNat<=102\/65<=c.toNat/\c.toNat<=70:=by omega
  refine .inr ⟨by omega,_,sB ⟨c.toNat,c.toNat_lt⟩ h4,?_,?_,?_⟩
  all_goals simp only[DP]
  all_goals (repeat' split)
  all_goals omega
theorem Md {M d:Nat} (hM:(M:Int)<=18446744073709551615) (hd:d<16) (h:M<d):∃y:Int,IntKind.u64.wrap ((M:Int) - (d:Int))=y/\1000<y:=by
 refine⟨_,rfl,?_⟩;rw[IntKind.wrap_u64];omega
set_option maxHeartbeats 4000000 in
theorem Qd (s:ByteArray) (most:Int) (w:World) (hs:s.size<=maxLen) (h0:0<=most) (h1:most<=18446744073709551615) :
  Calls Tryz.prog 206 #[.string s,.int .u64 10,.int .u64 most] w fun e w'=>e=.returned (CX (Di Av 10 most.toNat s.data.toList))/\w=w':=by
 unfold maxLen at hs;obtain⟨M,rfl⟩:=y9 h0;rw[zt];clear h0
 by_cases h0:s.size=0
 ·obtain rfl:s=S []:=GL h0;clear h0 hs
  go_enter Tryz.func206,Tryz.ntmps206
  go_wp2_with fail
  go_ret2
  exact⟨rfl,rfl⟩
 ·have hne:s.data.toList≠[]:=fun e=>h0 (by rw[<-Ay,e];rfl);have HE:=zb hne;have he1:s.toList.isEmpty=false:=by rw[ByteArray.toList_eq];simpa using hne
  have hpos:0<s.size:=by omega
  clear h0 hne
  go_enter Tryz.func206,Tryz.ntmps206
  go_wp2_with fail
  go_loop [8] (fun i=>∃k:Nat,k<=s.size/\i=.int .i64 k/\Hid ((s.data.toList.take k).all Av=true)) (fun i=>s.size - (intOf i).toNat)
  case atStart=>exact⟨0,zd _,rfl,zb rfl⟩
  case round=>
   obtain⟨k,hk,rfl,HA⟩:=hrel
   by_cases hlt:k<s.size
   ·rcases hp:Av s[k] with _|_
    ·have HB:Hid (s.data.toList.all Av=false):=zb (Ig _ _ (k+1) (by rw[FS _ _ _ hlt,hp,Bool.and_false]));have HP:=zb hp;clear hp
     go_wp2_with fail
     refine(FZ _ _).mono ?_;rintro e w' ⟨rfl,rfl⟩;rw[HP.out]
     go_wp2_with fail
     go_ret2
     exact⟨by unfold Di;rw[Pv HE.out HB.out,if_neg (by decide)];rfl,rfl⟩
    ·have HB:Hid ((s.data.toList.take (k+1)).all Av=true):=zb (by rw[FS _ _ _ hlt,hp,HA.out];rfl);have HP:=zb hp;clear hp
     go_wp2_with fail
     refine(FZ _ _).mono ?_;rintro e w' ⟨rfl,rfl⟩;rw[HP.out]
     go_wp2_with fail
     go_round
     case rel=>exact⟨k+1,by omega,by go_num,HB⟩
     case measure=>simp[intOf];omega
   ·have HB:Hid (s.data.toList.all Av=true):=zb (by rw[<-Fu s k hlt];exact HA.out);have HQ:Hid (Di Av 10 M s.data.toList=Cn 10 M s.data.toList):=zb (by unfold Di;rw[OX HE.out HB.out,if_pos rfl]);have HH:Hid (s.data.toList.all A9=true):=zb (Vm HB.out);clear HA HB
    go_wp2_with fail
    go_loop [9,10,11] (fun n i _=>∃k m:Nat,k<=s.size/\m<=M/\i=.int .i64 k/\n=.int .u64 m/\Hid (BM 10 M s.data.toList 0=BM 10 M (s.data.toList.drop k) m)) (fun _ i _=>s.size - (intOf i).toNat)
    case atStart=>exact⟨0,0,zd _,zd _,rfl,rfl,zb rfl⟩
    case round=>
     obtain⟨k,m,hk,hm,rfl,rfl,HV⟩:=hrel
     by_cases hlt:k<s.size
     ·have hx:=ND HH.out k hlt;have hd16:=Nz hx;have hcs:=UV hx;have HC:Hid (BM 10 M (s.data.toList.drop k) m=if m*10+DP s[k]<=M then BM 10 M (s.data.toList.drop (k+1)) (m*10+DP s[k]) else none):=zb (by rw[Dv s k hlt];rfl);clear hx;generalize hdv:DP s[k]=d at *;clear hdv;rcases hcs with ⟨c1,c2,hc3⟩|⟨c1,x,hx,hx1,hx2,hx3⟩
      ·have HD:=zb hc3;clear hc3
       by_cases hdm:d<=M
       ·by_cases hok:m*10+d<=M
        ·have HN:Hid (BM 10 M s.data.toList 0=BM 10 M (s.data.toList.drop (k+1)) (m*10+d)):=zb (by rw[HV.out,HC.out,if_pos hok]);have e1:(m:Int)<=(M:Int) / 10:=by omega
         have hde:=HD.out;have hdi:(s[k].toNat:Int) - 48=(d:Int):=by omega
         have e2:(m:Int)*10<=(M:Int) - ((s[k].toNat:Int) - 48):=by omega
         have e3:(s[k].toNat:Int) - 48<=(M:Int):=by omega
         have HI:=zb hdi;clear hde hdi
         go_wp2_with fail
         go_round
         case rel=>exact⟨k+1,m*10+d,by omega,hok,by go_num,congrArg (Value.int .u64) (by have:=HI.out;omega),HN⟩
         case measure=>simp[intOf];omega
        ·have HN:Hid (BM 10 M s.data.toList 0=none):=zb (by rw[HV.out,HC.out,if_neg hok])
         by_cases e1:(m:Int)<=(M:Int) / 10
         ·have hde:=HD.out;have e2:(M:Int) - ((s[k].toNat:Int) - 48)<(m:Int)*10:=by omega
          have e3:(s[k].toNat:Int) - 48<=(M:Int):=by omega
          have e4:(m:Int)*10<=18446744073709551615:=by omega
          clear hde hok
          go_wp2_with fail
          go_ret2
          exact⟨by rw[HQ.out];unfold Cn;rw[HN.out];rfl,rfl⟩
         ·have e2:(M:Int) / 10<(m:Int):=by omega
          clear e1 hok
          go_wp2_with fail
          go_ret2
          exact⟨by rw[HQ.out];unfold Cn;rw[HN.out];rfl,rfl⟩
       ·have HN:Hid (BM 10 M s.data.toList 0=none):=zb (by rw[HV.out,HC.out,if_neg (by omega)])
        by_cases e1:(m:Int)<=(M:Int) / 10
        ·have hde:=HD.out;obtain⟨y,hy,hy1⟩:=Md h1 hd16 (by omega:M<d);have hdi:(d:Int)=(s[k].toNat:Int) - 48:=by omega
         rw[hdi] at hy;have e3:(M:Int)<(s[k].toNat:Int) - 48:=by omega
         have e4:(m:Int)*10<=1000:=by omega
         clear hde hdi hdm
         go_wp2_with fail
         go_ret2
         exact⟨by rw[HQ.out];unfold Cn;rw[HN.out];rfl,rfl⟩
        ·have e2:(M:Int) / 10<(m:Int):=by omega
         clear e1 hdm
         go_wp2_with fail
         go_ret2
         exact⟨by rw[HQ.out];unfold Cn;rw[HN.out];rfl,rfl⟩
      ·have HD:=zb hx3;have c3:(10:Int)<=d:=by omega
       clear hx3
       by_cases hdm:d<=M
       ·by_cases hok:m*10+d<=M
        ·have HN:Hid (BM 10 M s.data.toList 0=BM 10 M (s.data.toList.drop (k+1)) (m*10+d)):=zb (by rw[HV.out,HC.out,if_pos hok]);have e1:(m:Int)<=(M:Int) / 10:=by omega
         have hde:=HD.out;have hdi:x - 97+10=(d:Int):=by omega
         have e2:(m:Int)*10<=(M:Int) - (x - 97+10):=by omega
         have e3:x - 97+10<=(M:Int):=by omega
         have HI:=zb hdi;clear hde hdi
         go_wp2_with fail
         go_round
         case rel=>exact⟨k+1,m*10+d,by omega,hok,by go_num,congrArg (Value.int .u64) (by have:=HI.out;omega),HN⟩
         case measure=>simp[intOf];omega
        ·have HN:Hid (BM 10 M s.data.toList 0=none):=zb (by rw[HV.out,HC.out,if_neg hok])
         by_cases e1:(m:Int)<=(M:Int) / 10
         ·have hde:=HD.out;have e2:(M:Int) - (x - 97+10)<(m:Int)*10:=by omega
          have e3:x - 97+10<=(M:Int):=by omega
          have e4:(m:Int)*10<=18446744073709551615:=by omega
          clear hde hok
          go_wp2_with fail
          go_ret2
          exact⟨by rw[HQ.out];unfold Cn;rw[HN.out];rfl,rfl⟩
         ·have e2:(M:Int) / 10<(m:Int):=by omega
          clear e1 hok
          go_wp2_with fail
          go_ret2
          exact⟨by rw[HQ.out];unfold Cn;rw[HN.out];rfl,rfl⟩
       ·have HN:Hid (BM 10 M s.data.toList 0=none):=zb (by rw[HV.out,HC.out,if_neg (by omega)])
        by_cases e1:(m:Int)<=(M:Int) / 10
        ·have hde:=HD.out;obtain⟨y,hy,hy1⟩:=Md h1 hd16 (by omega:M<d);have hdi:(d:Int)=x - 97+10:=by omega
         rw[hdi] at hy;have e3:(M:Int)<x - 97+10:=by omega
         have e4:(m:Int)*10<=1000:=by omega
         clear hde hdi hdm
         go_wp2_with fail
         go_ret2
         exact⟨by rw[HQ.out];unfold Cn;rw[HN.out];rfl,rfl⟩
        ·have e2:(M:Int) / 10<(m:Int):=by omega
         clear e1 hdm
         go_wp2_with fail
         go_ret2
         exact⟨by rw[HQ.out];unfold Cn;rw[HN.out];rfl,rfl⟩
     ·have HN:Hid (BM 10 M s.data.toList 0=some m):=zb (by rw[HV.out,xg (by rw[Ay];omega)];rfl)
      go_wp2_with fail
      go_ret2
      exact⟨by rw[HQ.out];unfold Cn;rw[HN.out];rfl,rfl⟩
set_option maxHeartbeats 4000000 in
theorem lC (s:ByteArray) (most:Int) (w:World) (hs:s.size<=maxLen) (h0:0<=most) (h1:most<=18446744073709551615) :
  Calls Tryz.prog 206 #[.string s,.int .u64 16,.int .u64 most] w fun e w'=>e=.returned (CX (Di A9 16 most.toNat s.data.toList))/\w=w':=by
 unfold maxLen at hs;obtain⟨M,rfl⟩:=y9 h0;rw[zt];clear h0
 by_cases h0:s.size=0
 ·obtain rfl:s=S []:=GL h0;clear h0 hs
  go_enter Tryz.func206,Tryz.ntmps206
  go_wp2_with fail
  go_ret2
  exact⟨rfl,rfl⟩
 ·have hne:s.data.toList≠[]:=fun e=>h0 (by rw[<-Ay,e];rfl);have HE:=zb hne;have he1:s.toList.isEmpty=false:=by rw[ByteArray.toList_eq];simpa using hne
  have hpos:0<s.size:=by omega
  clear h0 hne
  go_enter Tryz.func206,Tryz.ntmps206
  go_wp2_with fail
  go_loop [8] (fun i=>∃k:Nat,k<=s.size/\i=.int .i64 k/\Hid ((s.data.toList.take k).all A9=true)) (fun i=>s.size - (intOf i).toNat)
  case atStart=>exact⟨0,zd _,rfl,zb rfl⟩
  case round=>
   obtain⟨k,hk,rfl,HA⟩:=hrel
   by_cases hlt:k<s.size
   ·rcases hp:A9 s[k] with _|_
    ·have HB:Hid (s.data.toList.all A9=false):=zb (Ig _ _ (k+1) (by rw[FS _ _ _ hlt,hp,Bool.and_false]));have HP:=zb hp;clear hp
     go_wp2_with fail
     refine(KT _ _).mono ?_;rintro e w' ⟨rfl,rfl⟩;rw[HP.out]
     go_wp2_with fail
     go_ret2
     exact⟨by unfold Di;rw[Pv HE.out HB.out,if_neg (by decide)];rfl,rfl⟩
    ·have HB:Hid ((s.data.toList.take (k+1)).all A9=true):=zb (by rw[FS _ _ _ hlt,hp,HA.out];rfl);have HP:=zb hp;clear hp
     go_wp2_with fail
     refine(KT _ _).mono ?_;rintro e w' ⟨rfl,rfl⟩;rw[HP.out]
     go_wp2_with fail
     go_round
     case rel=>exact⟨k+1,by omega,by go_num,HB⟩
     case measure=>simp[intOf];omega
   ·have HB:Hid (s.data.toList.all A9=true):=zb (by rw[<-Fu s k hlt];exact HA.out);have HQ:Hid (Di A9 16 M s.data.toList=Cn 16 M s.data.toList):=zb (by unfold Di;rw[OX HE.out HB.out,if_pos rfl]);have HH:Hid (s.data.toList.all A9=true):=zb HB.out;clear HA HB
    go_wp2_with fail
    go_loop [9,10,11] (fun n i _=>∃k m:Nat,k<=s.size/\m<=M/\i=.int .i64 k/\n=.int .u64 m/\Hid (BM 16 M s.data.toList 0=BM 16 M (s.data.toList.drop k) m)) (fun _ i _=>s.size - (intOf i).toNat)
    case atStart=>exact⟨0,0,zd _,zd _,rfl,rfl,zb rfl⟩
    case round=>
     obtain⟨k,m,hk,hm,rfl,rfl,HV⟩:=hrel
     by_cases hlt:k<s.size
     ·have hx:=ND HH.out k hlt;have hd16:=Nz hx;have hcs:=UV hx;have HC:Hid (BM 16 M (s.data.toList.drop k) m=if m*16+DP s[k]<=M then BM 16 M (s.data.toList.drop (k+1)) (m*16+DP s[k]) else none):=zb (by rw[Dv s k hlt];rfl);clear hx;generalize hdv:DP s[k]=d at *;clear hdv;rcases hcs with ⟨c1,c2,hc3⟩|⟨c1,x,hx,hx1,hx2,hx3⟩
      ·have HD:=zb hc3;clear hc3
       by_cases hdm:d<=M
       ·by_cases hok:m*16+d<=M
        ·have HN:Hid (BM 16 M s.data.toList 0=BM 16 M (s.data.toList.drop (k+1)) (m*16+d)):=zb (by rw[HV.out,HC.out,if_pos hok]);have e1:(m:Int)<=(M:Int) / 16:=by omega
         have hde:=HD.out;have hdi:(s[k].toNat:Int) - 48=(d:Int):=by omega
         have e2:(m:Int)*16<=(M:Int) - ((s[k].toNat:Int) - 48):=by omega
         have e3:(s[k].toNat:Int) - 48<=(M:Int):=by omega
         have HI:=zb hdi;clear hde hdi
         go_wp2_with fail
         go_round
         case rel=>exact⟨k+1,m*16+d,by omega,hok,by go_num,congrArg (Value.int .u64) (by have:=HI.out;omega),HN⟩
         case measure=>simp[intOf];omega
        ·have HN:Hid (BM 16 M s.data.toList 0=none):=zb (by rw[HV.out,HC.out,if_neg hok])
         by_cases e1:(m:Int)<=(M:Int) / 16
         ·have hde:=HD.out;have e2:(M:Int) - ((s[k].toNat:Int) - 48)<(m:Int)*16:=by omega
          have e3:(s[k].toNat:Int) - 48<=(M:Int):=by omega
          have e4:(m:Int)*16<=18446744073709551615:=by omega
          clear hde hok
          go_wp2_with fail
          go_ret2
          exact⟨by rw[HQ.out];unfold Cn;rw[HN.out];rfl,rfl⟩
         ·have e2:(M:Int) / 16<(m:Int):=by omega
          clear e1 hok
          go_wp2_with fail
          go_ret2
          exact⟨by rw[HQ.out];unfold Cn;rw[HN.out];rfl,rfl⟩
       ·have HN:Hid (BM 16 M s.data.toList 0=none):=zb (by rw[HV.out,HC.out,if_neg (by omega)])
        by_cases e1:(m:Int)<=(M:Int) / 16
        ·have hde:=HD.out;obtain⟨y,hy,hy1⟩:=Md h1 hd16 (by omega:M<d);have hdi:(d:Int)=(s[k].toNat:Int) - 48:=by omega
         rw[hdi] at hy;have e3:(M:Int)<(s[k].toNat:Int) - 48:=by omega
         have e4:(m:Int)*16<=1000:=by omega
         clear hde hdi hdm
         go_wp2_with fail
         go_ret2
         exact⟨by rw[HQ.out];unfold Cn;rw[HN.out];rfl,rfl⟩
        ·have e2:(M:Int) / 16<(m:Int):=by omega
         clear e1 hdm
         go_wp2_with fail
         go_ret2
         exact⟨by rw[HQ.out];unfold Cn;rw[HN.out];rfl,rfl⟩
      ·have HD:=zb hx3;have c3:(10:Int)<=d:=by omega
       clear hx3
       by_cases hdm:d<=M
       ·by_cases hok:m*16+d<=M
        ·have HN:Hid (BM 16 M s.data.toList 0=BM 16 M (s.data.toList.drop (k+1)) (m*16+d)):=zb (by rw[HV.out,HC.out,if_pos hok]);have e1:(m:Int)<=(M:Int) / 16:=by omega
         have hde:=HD.out;have hdi:x - 97+10=(d:Int):=by omega
         have e2:(m:Int)*16<=(M:Int) - (x - 97+10):=by omega
         have e3:x - 97+10<=(M:Int):=by omega
         have HI:=zb hdi;clear hde hdi
         go_wp2_with fail
         go_round
         case rel=>exact⟨k+1,m*16+d,by omega,hok,by go_num,congrArg (Value.int .u64) (by have:=HI.out;omega),HN⟩
         case measure=>simp[intOf];omega
        ·have HN:Hid (BM 16 M s.data.toList 0=none):=zb (by rw[HV.out,HC.out,if_neg hok])
         by_cases e1:(m:Int)<=(M:Int) / 16
         ·have hde:=HD.out;have e2:(M:Int) - (x - 97+10)<(m:Int)*16:=by omega
          have e3:x - 97+10<=(M:Int):=by omega
          have e4:(m:Int)*16<=18446744073709551615:=by omega
          clear hde hok
          go_wp2_with fail
          go_ret2
          exact⟨by rw[HQ.out];unfold Cn;rw[HN.out];rfl,rfl⟩
         ·have e2:(M:Int) / 16<(m:Int):=by omega
          clear e1 hok
          go_wp2_with fail
          go_ret2
          exact⟨by rw[HQ.out];unfold Cn;rw[HN.out];rfl,rfl⟩
       ·have HN:Hid (BM 16 M s.data.toList 0=none):=zb (by rw[HV.out,HC.out,if_neg (by omega)])
        by_cases e1:(m:Int)<=(M:Int) / 16
        ·have hde:=HD.out;obtain⟨y,hy,hy1⟩:=Md h1 hd16 (by omega:M<d);have hdi:(d:Int)=x - 97+10:=by omega
         rw[hdi] at hy;have e3:(M:Int)<x - 97+10:=by omega
         have e4:(m:Int)*16<=1000:=by omega
         clear hde hdi hdm
         go_wp2_with fail
         go_ret2
         exact⟨by rw[HQ.out];unfold Cn;rw[HN.out];rfl,rfl⟩
        ·have e2:(M:Int) / 16<(m:Int):=by omega
         clear e1 hdm
         go_wp2_with fail
         go_ret2
         exact⟨by rw[HQ.out];unfold Cn;rw[HN.out];rfl,rfl⟩
     ·have HN:Hid (BM 16 M s.data.toList 0=some m):=zb (by rw[HV.out,xg (by rw[Ay];omega)];rfl)
      go_wp2_with fail
      go_ret2
      exact⟨by rw[HQ.out];unfold Cn;rw[HN.out];rfl,rfl⟩
theorem cA (s:ByteArray) (most:Int) (w:World) (hs:s.size<=maxLen) (h0:0<=most) (h1:most<=18446744073709551615) :
  Calls Tryz.prog 191 #[.string s,.int .u64 most] w fun e w'=>e=.returned (CX (Di A9 16 most.toNat s.data.toList))/\w=w':=by
 go_enter Tryz.func191,Tryz.ntmps191
 go_wp2_with fail
 refine(lC s most _ hs h0 h1).mono ?_;rintro e w' ⟨rfl,rfl⟩;unfold CX
 go_wp2_with fail
 go_ret2
 exact⟨rfl,rfl⟩
theorem lG (most:Nat) (l:List UInt8):((Di Av 10 most l).1=0\/(Di Av 10 most l).1=4)/\(H4 l=true->Cy most l=(6,0))/\(H4 l=false->Cy most l=Di Av 10 most l) \/
  ((Di Av 10 most l).1=1\/(Di Av 10 most l).1=3)/\Cy most l=Di Av 10 most l:=by
 unfold Di Cy;rcases Vk Av l with hc|hc|hc
 ·rw[hc,if_pos rfl,if_pos rfl];refine .inl ⟨?_,fun hz=>by rw[if_pos hz],fun hz=>by rw[if_neg (by rw[hz];exact Bool.false_ne_true)]⟩;unfold Cn;rcases BM 10 most l 0 with _|n
  ·exact .inr rfl
  ·exact .inl rfl
 ·rw[hc,if_neg (by decide),if_neg (by decide)];exact .inr ⟨.inl rfl,rfl⟩
 ·rw[hc,if_neg (by decide),if_neg (by decide)];exact .inr ⟨.inr rfl,rfl⟩
theorem K0 (s:ByteArray) (most:Int) (w:World) (hs:s.size<=maxLen) (h0:0<=most) (h1:most<=18446744073709551615) :
  Calls Tryz.prog 189 #[.string s,.int .u64 most] w fun e w'=>e=.returned (CX (Cy most.toNat s.data.toList))/\w=w':=by
 unfold maxLen at hs;have hcs:=lG most.toNat s.data.toList;rcases hn:Di Av 10 most.toNat s.data.toList with ⟨er,v⟩;rw[hn] at hcs;have HN:=zb hn;clear hn;rcases hcs with ⟨he,hz1,hz0⟩|⟨he,hz⟩
 ·rcases hz:H4 s.data.toList with _|_
  ·have HS:=zb (hz0 hz);have hor:s.size<=1\/(1<s.size/\∃h:0<s.size,((s[0].toNat:Int)==48)=false):=by
    by_cases h:s.size<=1
    ·exact .inl h
    ·refine .inr ⟨by omega,by omega,beq_eq_false_iff_ne.2 fun e=>?_⟩;have:s[0]=48:=UInt8.toNat_inj.1 (by show s[0].toNat=48;omega);have:=(MM s).2 ⟨by omega,this⟩;rw[hz] at this;cases this
   rw[HS.out];clear hz0 hz1 hz HS;rcases he with rfl|rfl
   all_goals rcases hor with hor|⟨hor,hpos,hor2⟩
   all_goals go_enter Tryz.func189,Tryz.ntmps189
   all_goals go_wp2_with fail
   all_goals refine(Qd s most _ hs h0 h1).mono ?_
   all_goals rintro e w' ⟨rfl,rfl⟩
   all_goals rw[HN.out]
   all_goals unfold CX
   all_goals go_wp2_with fail
   all_goals go_ret2
   all_goals exact⟨rfl,rfl⟩
  ·obtain⟨h2s,h48⟩:=(MM s).1 hz;have hb:((s[0].toNat:Int)==48)=true:=by rw[h48];rfl
   have HS:=zb (hz1 hz);rw[HS.out];clear hz0 hz1 hz HS h48;rcases he with rfl|rfl
   all_goals go_enter Tryz.func189,Tryz.ntmps189
   all_goals go_wp2_with fail
   all_goals refine(Qd s most _ hs h0 h1).mono ?_
   all_goals rintro e w' ⟨rfl,rfl⟩
   all_goals rw[HN.out]
   all_goals unfold CX
   all_goals go_wp2_with fail
   all_goals go_ret2
   all_goals exact⟨rfl,rfl⟩
 ·rw[hz];clear hz;rcases he with rfl|rfl
  all_goals go_enter Tryz.func189,Tryz.ntmps189
  all_goals go_wp2_with fail
  all_goals refine(Qd s most _ hs h0 h1).mono ?_
  all_goals rintro e w' ⟨rfl,rfl⟩
  all_goals rw[HN.out]
  all_goals unfold CX
  all_goals go_wp2_with fail
  all_goals go_ret2
  all_goals exact⟨rfl,rfl⟩
theorem PP {s:ByteArray} (h:0<s.size):s.toList.isEmpty=false:=by
 rw[ByteArray.toList_eq];rcases hl:s.data.toList with _|⟨c,t⟩
 ·have:=Ay s;rw[hl] at this;simp at this;omega
 ·rfl
theorem RZ {s:ByteArray} (h:0<s.size):s.data.toList≠[]:=fun e=>by have:=Ay s;rw[e] at this;simp at this;omega
theorem Ky (s:ByteArray) (w:World) (hs:s.size<=maxLen) :
  Calls Tryz.prog 135 #[.string s] w fun e w'=>e=.returned (Dd (CM s.data.toList))/\Qb w w':=by
 by_cases h0:s.size=0
 ·obtain rfl:s=S []:=GL h0;clear h0 hs
  go_enter Tryz.func135,Tryz.ntmps135
  go_wp2_with fail
  go_ret2
  exact⟨rfl,Qb.refl _⟩
 have hpos:0<s.size:=by omega
 have he1:=PP hpos;have hne:=zb (RZ hpos);clear h0
 by_cases h253:253<s.size
 ·have HE:Hid (CM s.data.toList=(5,[])):=zb (by unfold CM;rw[if_neg hne.out,if_pos (by rw[Ay];exact h253)])
  go_enter Tryz.func135,Tryz.ntmps135
  go_wp2_with fail
  go_ret2
  exact⟨by rw[HE.out];rfl,Qb.refl _⟩
 have h253':s.size<=253:=by omega
 have hml:s.size<=maxLen:=by unfold maxLen;omega
 have HE:Hid (CM s.data.toList=if (DV s.data.toList||Eh s.data.toList)=true then (0,Bw s.data.toList) else (50,[])):=zb (by unfold CM;rw[if_neg hne.out,if_neg (by rw[Ay];omega)]);clear h253;rcases h1:DV s.data.toList with _|_
 ·rcases h2:Eh s.data.toList with _|_
  ·have HF:Hid (CM s.data.toList=(50,[])):=zb (by rw[HE.out,h1,h2];rfl);have H1:=zb h1;have H2:=zb h2;clear h1 h2
   go_enter Tryz.func135,Tryz.ntmps135
   go_wp2_with fail
   refine(PA s _ hml).mono ?_;rintro e w1 ⟨rfl,hq1⟩;rw[H1.out]
   go_wp2_with fail
   refine(Ux s _ hml).mono ?_;rintro e w2 ⟨rfl,hq2⟩;rw[H2.out]
   go_wp2_with fail
   go_ret2
   exact⟨by rw[HF.out];rfl,hq1.trans hq2⟩
  ·have HF:Hid (CM s.data.toList=(0,Bw s.data.toList)):=zb (by rw[HE.out,h1,h2];rfl);have H1:=zb h1;have H2:=zb h2;clear h1 h2
   go_enter Tryz.func135,Tryz.ntmps135
   go_wp2_with fail
   refine(PA s _ hml).mono ?_;rintro e w1 ⟨rfl,hq1⟩;rw[H1.out]
   go_wp2_with fail
   refine(Ux s _ hml).mono ?_;rintro e w2 ⟨rfl,hq2⟩;rw[H2.out]
   go_wp2_with fail
   refine(TU s _ (by omega)).mono ?_;rintro e w3 ⟨rfl,hq3⟩
   go_wp2_with fail
   go_ret2
   exact⟨by rw[HF.out];rfl,(hq1.trans hq2).trans hq3⟩
 ·have HF:Hid (CM s.data.toList=(0,Bw s.data.toList)):=zb (by rw[HE.out,h1];simp);have H1:=zb h1;clear h1
  go_enter Tryz.func135,Tryz.ntmps135
  go_wp2_with fail
  refine(PA s _ hml).mono ?_;rintro e w1 ⟨rfl,hq1⟩;rw[H1.out]
  go_wp2_with fail
  refine(TU s _ (by omega)).mono ?_;rintro e w3 ⟨rfl,hq3⟩
  go_wp2_with fail
  go_ret2
  exact⟨by rw[HF.out];rfl,hq1.trans hq3⟩
theorem Ot (s:ByteArray) (w:World) (hs:s.size<=maxLen) :
  Calls Tryz.prog 136 #[.string s] w fun e w'=>e=.returned (Kb (DF s.data.toList))/\w=w':=by
 obtain⟨er,v,hst⟩:∃er v,Cy (65535:Int).toNat s.data.toList=(er,v):=⟨_,_,rfl⟩;have HS:=zb hst;have hle:=PV 65535 s.data.toList;rw[show Cy 65535 s.data.toList=(er,v) from hst] at hle;have HP:Hid (DF s.data.toList=if er=0/\v≠0 then (0,v) else (51,0)):=zb (by
  unfold DF;rw[show Cy 65535 s.data.toList=(er,v) from hst])
 simp only at hle;clear hst
 by_cases he:er=0
 ·subst he
  by_cases hv:v=0
  ·subst hv
   go_enter Tryz.func136,Tryz.ntmps136
   go_wp2_with fail
   refine(I4 _ _ _ hs (by decide) (by decide)).mono ?_;rintro e w2 ⟨rfl,rfl⟩;rw[HS.out];unfold CX
   go_wp2_with fail
   go_ret2
   exact⟨by rw[HP.out];rfl,rfl⟩
  ·have hb:((v:Int)==0)=false:=by rw[beq_eq_false_iff_ne];omega
   have HF:Hid (DF s.data.toList=(0,v)):=zb (by rw[HP.out,if_pos ⟨rfl,hv⟩]);clear hv
   go_enter Tryz.func136,Tryz.ntmps136
   go_wp2_with fail
   refine(I4 _ _ _ hs (by decide) (by decide)).mono ?_;rintro e w2 ⟨rfl,rfl⟩;rw[HS.out];unfold CX
   go_wp2_with fail
   go_ret2
   exact⟨by rw[HF.out];rfl,rfl⟩
 ·have hb:(er != 0)=true:=bne_iff_ne.2 he;have HF:Hid (DF s.data.toList=(51,0)):=zb (by rw[HP.out,if_neg (fun h=>he h.1)]);clear he
  go_enter Tryz.func136,Tryz.ntmps136
  go_wp2_with fail
  refine(I4 _ _ _ hs (by decide) (by decide)).mono ?_;rintro e w2 ⟨rfl,rfl⟩;rw[HS.out];unfold CX
  go_wp2_with fail
  go_ret2
  exact⟨by rw[HF.out];rfl,rfl⟩
theorem fW (s:ByteArray) (w:World) (hs:s.size<=maxLen) :
  Calls Tryz.prog 154 #[.string s] w fun e w'=>e=.returned (Kb (DF s.data.toList))/\w=w':=by
 obtain⟨er,v,hst⟩:∃er v,Cy (65535:Int).toNat s.data.toList=(er,v):=⟨_,_,rfl⟩;have HS:=zb hst;have hle:=PV 65535 s.data.toList;rw[show Cy 65535 s.data.toList=(er,v) from hst] at hle;have HP:Hid (DF s.data.toList=if er=0/\v≠0 then (0,v) else (51,0)):=zb (by
  unfold DF;rw[show Cy 65535 s.data.toList=(er,v) from hst])
 simp only at hle;clear hst
 by_cases he:er=0
 ·subst he
  by_cases hv:v=0
  ·subst hv
   go_enter Tryz.func154,Tryz.ntmps154
   go_wp2_with fail
   refine(K0 _ _ _ hs (by decide) (by decide)).mono ?_;rintro e w2 ⟨rfl,rfl⟩;rw[HS.out];unfold CX
   go_wp2_with fail
   go_ret2
   exact⟨by rw[HP.out];rfl,rfl⟩
  ·have hb:((v:Int)==0)=false:=by rw[beq_eq_false_iff_ne];omega
   have HF:Hid (DF s.data.toList=(0,v)):=zb (by rw[HP.out,if_pos ⟨rfl,hv⟩]);clear hv
   go_enter Tryz.func154,Tryz.ntmps154
   go_wp2_with fail
   refine(K0 _ _ _ hs (by decide) (by decide)).mono ?_;rintro e w2 ⟨rfl,rfl⟩;rw[HS.out];unfold CX
   go_wp2_with fail
   go_ret2
   exact⟨by rw[HF.out];rfl,rfl⟩
 ·have hb:(er != 0)=true:=bne_iff_ne.2 he;have HF:Hid (DF s.data.toList=(51,0)):=zb (by rw[HP.out,if_neg (fun h=>he h.1)]);clear he
  go_enter Tryz.func154,Tryz.ntmps154
  go_wp2_with fail
  refine(K0 _ _ _ hs (by decide) (by decide)).mono ?_;rintro e w2 ⟨rfl,rfl⟩;rw[HS.out];unfold CX
  go_wp2_with fail
  go_ret2
  exact⟨by rw[HF.out];rfl,rfl⟩
theorem UX (s:ByteArray) (h:0<s.size):C4 s.data.toList=(s.data.toList.all Ez&&decide (s.size<=63)&&!C7 s[0]&&!C7 s[s.size - 1]):=by
 rw[TG s h];rcases decide (s.size<=63)<;>rcases C7 s[0]<;>rcases C7 s[s.size - 1]<;>rcases s.data.toList.all Ez<;>rfl
set_option maxHeartbeats 1000000 in
theorem UW (s:ByteArray) (w:World) (hs:s.size<=maxLen) :
  Calls Tryz.prog 204 #[.string s] w fun e w'=>e=.returned (.bool (C4 s.data.toList))/\w=w':=by
 unfold maxLen at hs
 go_enter Tryz.func204,Tryz.ntmps204
 go_wp2_with fail
 go_loop [3] (fun i=>∃k:Nat,k<=s.size/\i=.int .i64 k/\Hid ((s.data.toList.take k).all Ez=true)) (fun i=>s.size - (intOf i).toNat)
 case atStart=>exact⟨0,zd _,rfl,zb rfl⟩
 case round=>
  obtain⟨k,hk,rfl,HT⟩:=hrel
  by_cases hlt:k<s.size
  ·have hpos:0<s.size:=by omega
   have HL:=zb (UX s hpos);have hst:Ez s[k]=true->Hid ((s.data.toList.take (k+1)).all Ez=true):=fun h=>zb (by rw[FS _ _ _ hlt,h,HT.out];rfl);have hbad:Ez s[k]=false->Hid (C4 s.data.toList=false):=fun h=>zb (by rw[HL.out,Ig _ _ (k+1) (by rw[FS _ _ _ hlt,h,Bool.and_false])];rfl);rcases ha:Ce s[k] with _|_
   ·rcases hd:Av s[k] with _|_
    ·rcases hy:C7 s[k] with _|_
     ·have HB:=hbad (by rw[Hx,ha,hd,hy];rfl);have b:=K6 hy;have H1:=zb ha;have H2:=zb hd;clear ha hd hy hst hbad
      go_wp2_with fail
      refine(FY _ _).mono ?_;rintro e w' ⟨rfl,rfl⟩;rw[H1.out]
      go_wp2_with fail
      refine(FZ _ _).mono ?_;rintro e w' ⟨rfl,rfl⟩;rw[H2.out]
      go_wp2_with fail
      go_ret
      exact⟨Bi (by rw[HB.out]),rfl⟩
     ·have HB:=hst (by rw[Hx,ha,hd,hy];rfl);have b:=M3 hy;have H1:=zb ha;have H2:=zb hd;clear ha hd hy hst hbad
      go_wp2_with fail
      refine(FY _ _).mono ?_;rintro e w' ⟨rfl,rfl⟩;rw[H1.out]
      go_wp2_with fail
      refine(FZ _ _).mono ?_;rintro e w' ⟨rfl,rfl⟩;rw[H2.out]
      go_wp2_with fail
      go_round
      case rel=>exact⟨k+1,by omega,by go_num,HB⟩
      case measure=>simp[intOf];omega
    ·have HB:=hst (by rw[Hx,ha,hd];rfl);have H1:=zb ha;have H2:=zb hd;clear ha hd hst hbad
     go_wp2_with fail
     refine(FY _ _).mono ?_;rintro e w' ⟨rfl,rfl⟩;rw[H1.out]
     go_wp2_with fail
     refine(FZ _ _).mono ?_;rintro e w' ⟨rfl,rfl⟩;rw[H2.out]
     go_wp2_with fail
     go_round
     case rel=>exact⟨k+1,by omega,by go_num,HB⟩
     case measure=>simp[intOf];omega
   ·have HB:=hst (by rw[Hx,ha];rfl);have H1:=zb ha;clear ha hst hbad
    go_wp2_with fail
    refine(FY _ _).mono ?_;rintro e w' ⟨rfl,rfl⟩;rw[H1.out]
    go_wp2_with fail
    go_round
    case rel=>exact⟨k+1,by omega,by go_num,HB⟩
    case measure=>simp[intOf];omega
  ·have HA:Hid (s.data.toList.all Ez=true):=zb (by rw[<-Fu s k hlt];exact HT.out);obtain rfl:k=s.size:=by omega
   clear HT hlt
   by_cases h0:s.size=0
   ·obtain rfl:s=S []:=GL h0;clear h0 hs hk HA
    go_wp2_with fail
    go_ret
    exact⟨rfl,rfl⟩
   have hpos:0<s.size:=by omega
   have he1:=PP hpos;have HL:Hid (C4 s.data.toList=(decide (s.size<=63)&&!C7 s[0]&&!C7 s[s.size - 1])):=zb (by rw[UX s hpos,HA.out,Bool.true_and]);have hidx:s.size - 1<s.size:=by omega
   clear h0
   by_cases h63:s.size<=63
   ·rcases hy0:C7 s[0] with _|_
    ·rcases hy1:C7 s[s.size - 1] with _|_
     ·have b0:=K6 hy0;have b1:=K6 hy1;have HF:Hid (C4 s.data.toList=true):=zb (by rw[HL.out,hy0,hy1,decide_eq_true h63];rfl);clear hy0 hy1
      go_wp2_with fail
      go_ret
      exact⟨Bi (by rw[HF.out]),rfl⟩
     ·have b0:=K6 hy0;have b1:=M3 hy1;have HF:Hid (C4 s.data.toList=false):=zb (by rw[HL.out,hy0,hy1];simp);clear hy0 hy1
      go_wp2_with fail
      go_ret
      exact⟨Bi (by rw[HF.out]),rfl⟩
    ·have b0:=M3 hy0;have HF:Hid (C4 s.data.toList=false):=zb (by rw[HL.out,hy0];simp);clear hy0
     go_wp2_with fail
     go_ret
     exact⟨Bi (by rw[HF.out]),rfl⟩
   ·have HF:Hid (C4 s.data.toList=false):=zb (by rw[HL.out,decide_eq_false h63];rfl)
    go_wp2_with fail
    go_ret
    exact⟨Bi (by rw[HF.out]),rfl⟩
theorem GQ (c:UInt8):∀(l x:List UInt8),x∈AC c l->x.length<=l.length
 | [],x,h=>by simp[AC] at h;subst h;simp
 | y::t,x,h=>by
  rw[Fz] at h
  by_cases hy:y=c
  ·rw[if_pos hy] at h;rcases zv.1 h with rfl|h
   ·simp
   ·have:=GQ c t x h;simp;omega
  ·obtain⟨p,ps,e⟩:=Ev c t;have ih:=GQ c t;rw[if_neg hy,e] at h;rw[e] at ih;rcases zv.1 h with rfl|h
   ·have:=ih p (by simp);simp;omega
   ·have:=ih x (List.mem_cons_of_mem _ h);simp;omega
theorem TV {α:Type} (p:α->Bool) (l:List α) (k:Nat) (h:k<l.length):(l.take (k+1)).all p=((l.take k).all p&&p l[k]):=by
 rw[List.take_succ_eq_append_getElem h,List.all_append];simp
theorem UH {α:Type} (p:α->Bool) (l:List α) (k:Nat) (h:(l.take k).all p=false):l.all p=false:=by
 rw[<-List.take_append_drop k l,List.all_append,h,Bool.false_and]
theorem V2 {α:Type} (l:List α) (d:α) (h:0<l.length):l.getLastD d=l[l.length - 1]:=by
 rw[List.getLastD_eq_getLast?,List.getLast?_eq_getElem?,zk (by omega)];rfl
theorem Um (s:ByteArray) (w:World) (hs:s.size<=1000000) :
  Calls Tryz.prog 188 #[.string s] w fun e w'=>e=.returned (.bool (DV s.data.toList))/\Qb w w':=by
 have hpos:=JS 46 s.data.toList;have hlen:=JR 46 s.data.toList;have hparts:∀k (h:k<(AC 46 s.data.toList).length),(S (AC 46 s.data.toList)[k]).size<=maxLen:=fun k h=>by
  have:=GQ 46 s.data.toList _ (jg h);unfold maxLen;rw[AL];rw[Ay] at this;omega
 have HB:Hid (DV s.data.toList=((AC 46 s.data.toList).all C4&&!Gj ((AC 46 s.data.toList).getLastD []))):=zb rfl;rw[Ay] at hlen;have HP:=zb hparts;clear hparts
 go_enter Tryz.func188,Tryz.ntmps188
 go_wp2_with fail
 refine(PH s 46 _ hs).mono ?_;rintro e w1 ⟨v,rfl,hrow,hq1⟩;generalize AC 46 s.data.toList=ls at *;obtain⟨g,cap,rfl,hg0,hg1,hcap⟩:=hrow.form hpos;have HR:=zb hrow;clear hrow
 go_wp2_with fail
 go_loop [5,10] (fun _ i=>∃k:Nat,k<=ls.length/\i=.int .i64 k/\Hid ((ls.take k).all C4=true)) (fun _ i=>ls.length - (intOf i).toNat)
 case atStart=>exact⟨0,zd _,rfl,zb rfl⟩
 case round=>
  obtain⟨k,hk,rfl,HT⟩:=hrel
  by_cases hlt:k<ls.length
  ·have hcell:=HR.out.cell k hlt;have hsz:=HP.out k hlt;have HS:=zb (TV C4 ls k hlt);have HF:=UH C4 ls (k+1);generalize ls[k]=x at *;rcases hx:C4 x with _|_
   ·have HB2:Hid (DV s.data.toList=false):=zb (by rw[HB.out,HF (by rw[HS.out,hx,Bool.and_false])];rfl);have H1:=zb hx;clear hx HF
    go_wp2_with fail
    refine(UW _ _ hsz).mono ?_;rintro e w2 ⟨rfl,rfl⟩;rw[AO,H1.out]
    go_wp2_with fail
    go_ret
    exact⟨Bi (by rw[HB2.out]),hq1⟩
   ·have HT2:Hid ((ls.take (k+1)).all C4=true):=zb (by rw[HS.out,hx,HT.out];rfl);have H1:=zb hx;clear hx HF
    go_wp2_with fail
    refine(UW _ _ hsz).mono ?_;rintro e w2 ⟨rfl,rfl⟩;rw[AO,H1.out]
    go_wp2_with fail
    go_round
    case rel=>exact⟨k+1,by omega,by go_num,HT2⟩
    case measure=>simp[intOf];omega
  ·obtain rfl:k=ls.length:=by omega
   have hidx:ls.length - 1<ls.length:=by omega
   have hcell:=HR.out.cell (ls.length - 1) hidx;have hsz:=HP.out _ hidx;have HD:Hid (DV s.data.toList=!Gj ls[ls.length - 1]):=zb (by
    have:=HT.out;rw[jh] at this;rw[HB.out,this,Bool.true_and,V2 _ _ hpos])
   generalize ls[ls.length - 1]=x at *;clear hlt
   go_wp2_with fail
   refine(iW _ _ hsz).mono ?_;rintro e w2 ⟨rfl,rfl⟩
   go_wp2_with fail
   go_ret
   exact⟨Bi (by rw[HD.out]),hq1⟩
theorem Ph (s:ByteArray) (w:World) (hs:s.size<=1000000) :
  Calls Tryz.prog 187 #[.string s] w fun e w'=>e=.returned (.bool (Eh s.data.toList))/\Qb w w':=by
 have hpos:=JS 46 s.data.toList;have hlen:=JR 46 s.data.toList;have hparts:∀k (h:k<(AC 46 s.data.toList).length),(S (AC 46 s.data.toList)[k]).size<=maxLen:=fun k h=>by
  have:=GQ 46 s.data.toList _ (jg h);unfold maxLen;rw[AL];rw[Ay] at this;omega
 have HB:Hid (Eh s.data.toList=(decide ((AC 46 s.data.toList).length=4)&&(AC 46 s.data.toList).all FR)):=zb rfl;rw[Ay] at hlen;have HP:=zb hparts;clear hparts
 go_enter Tryz.func187,Tryz.ntmps187
 go_wp2_with fail
 refine(PH s 46 _ hs).mono ?_;rintro e w1 ⟨v,rfl,hrow,hq1⟩;generalize AC 46 s.data.toList=ls at *;obtain⟨g,cap,rfl,hg0,hg1,hcap⟩:=hrow.form hpos;have HR:=zb hrow;clear hrow
 go_wp2_with fail
 go_loop [5,6,7,12] (fun _ _ _ i=>∃k:Nat,k<=ls.length/\i=.int .i64 k/\Hid ((ls.take k).all FR=true)) (fun _ _ _ i=>ls.length - (intOf i).toNat)
 case atStart=>exact⟨0,zd _,rfl,zb rfl⟩
 case round=>
  obtain⟨k,hk,rfl,HT⟩:=hrel
  by_cases hlt:k<ls.length
  ·have hcell:=HR.out.cell k hlt;have hsz:=HP.out k hlt;have HS:=zb (TV FR ls k hlt);have HF:=UH FR ls (k+1);generalize ls[k]=x at *;obtain⟨er,v,hst⟩:∃er v,Cy (255:Int).toNat x=(er,v):=⟨_,_,rfl⟩;have HS1:=zb hst;have hok:FR x=decide (er=0):=by rw[UI,hst]
   clear hst
   by_cases he:er=0
   ·subst he;have HT2:Hid ((ls.take (k+1)).all FR=true):=zb (by rw[HS.out,hok,HT.out];rfl);clear hok HF
    go_wp2_with fail
    refine(K0 _ _ _ hsz (by decide) (by decide)).mono ?_;rintro e w2 ⟨rfl,rfl⟩;rw[AO,HS1.out];unfold CX
    go_wp2_with fail
    go_round
    case rel=>exact⟨k+1,by omega,by go_num,HT2⟩
    case measure=>simp[intOf];omega
   ·have he1:(er != 0)=true:=bne_iff_ne.2 he;have HB2:Hid (Eh s.data.toList=false):=zb (by rw[HB.out,HF (by rw[HS.out,hok,decide_eq_false he,Bool.and_false]),Bool.and_false]);clear hok HF he
    go_wp2_with fail
    refine(K0 _ _ _ hsz (by decide) (by decide)).mono ?_;rintro e w2 ⟨rfl,rfl⟩;rw[AO,HS1.out];unfold CX
    go_wp2_with fail
    go_ret
    exact⟨Bi (by rw[HB2.out]),hq1⟩
  ·obtain rfl:k=ls.length:=by omega
   have HD:Hid (Eh s.data.toList=decide ((ls.length:Int)=4)):=zb (by
    have:=HT.out;rw[jh] at this;rw[HB.out,this,Bool.and_true];exact decide_eq_decide.2 (by omega))
   clear hlt
   go_wp2_with fail
   go_ret
   exact⟨Bi (by rw[HD.out];try rfl),hq1⟩
theorem eE (s:ByteArray) (w:World) (hs:s.size<=1000000) :
  Calls Tryz.prog 153 #[.string s] w fun e w'=>e=.returned (Dd (CM s.data.toList))/\Qb w w':=by
 by_cases h0:s.size=0
 ·obtain rfl:s=S []:=GL h0;clear h0 hs
  go_enter Tryz.func153,Tryz.ntmps153
  go_wp2_with fail
  go_ret2
  exact⟨rfl,Qb.refl _⟩
 have hpos:0<s.size:=by omega
 have he1:=PP hpos;have hne:=zb (RZ hpos);clear h0
 by_cases h253:253<s.size
 ·have HE:Hid (CM s.data.toList=(5,[])):=zb (by unfold CM;rw[if_neg hne.out,if_pos (by rw[Ay];exact h253)])
  go_enter Tryz.func153,Tryz.ntmps153
  go_wp2_with fail
  go_ret2
  exact⟨by rw[HE.out];rfl,Qb.refl _⟩
 have h253':s.size<=253:=by omega
 have hml:s.size<=maxLen:=by unfold maxLen;omega
 have HE:Hid (CM s.data.toList=if (DV s.data.toList||Eh s.data.toList)=true then (0,Bw s.data.toList) else (50,[])):=zb (by unfold CM;rw[if_neg hne.out,if_neg (by rw[Ay];omega)]);clear h253;rcases h1:Eh s.data.toList with _|_
 ·rcases h2:DV s.data.toList with _|_
  ·have HF:Hid (CM s.data.toList=(50,[])):=zb (by rw[HE.out,h1,h2];rfl);have H1:=zb h1;have H2:=zb h2;clear h1 h2
   go_enter Tryz.func153,Tryz.ntmps153
   go_wp2_with fail
   refine(Ph s _ (by omega)).mono ?_;rintro e w1 ⟨rfl,hq1⟩;rw[H1.out]
   go_wp2_with fail
   refine(Um s _ (by omega)).mono ?_;rintro e w2 ⟨rfl,hq2⟩;rw[H2.out]
   go_wp2_with fail
   go_ret2
   exact⟨by rw[HF.out];rfl,hq1.trans hq2⟩
  ·have HF:Hid (CM s.data.toList=(0,Bw s.data.toList)):=zb (by rw[HE.out,h1,h2];rfl);have H1:=zb h1;have H2:=zb h2;clear h1 h2
   go_enter Tryz.func153,Tryz.ntmps153
   go_wp2_with fail
   refine(Ph s _ (by omega)).mono ?_;rintro e w1 ⟨rfl,hq1⟩;rw[H1.out]
   go_wp2_with fail
   refine(Um s _ (by omega)).mono ?_;rintro e w2 ⟨rfl,hq2⟩;rw[H2.out]
   go_wp2_with fail
   refine(MC s _ (by omega)).mono ?_;rintro e w3 ⟨rfl,hq3⟩
   go_wp2_with fail
   go_ret2
   exact⟨by rw[HF.out];rfl,(hq1.trans hq2).trans hq3⟩
 ·have HF:Hid (CM s.data.toList=(0,Bw s.data.toList)):=zb (by rw[HE.out,h1];simp);have H1:=zb h1;clear h1
  go_enter Tryz.func153,Tryz.ntmps153
  go_wp2_with fail
  refine(Ph s _ (by omega)).mono ?_;rintro e w1 ⟨rfl,hq1⟩;rw[H1.out]
  go_wp2_with fail
  refine(MC s _ (by omega)).mono ?_;rintro e w3 ⟨rfl,hq3⟩
  go_wp2_with fail
  go_ret2
  exact⟨by rw[HF.out];rfl,hq1.trans hq3⟩
end Go.Proofs.YtbgaknpnkcdbfaaGreatDoor
namespace Go.Proofs.YtbgaknpnkcdbfaaGreatDoor
open Go.RowKit Go.Shelf
open List renaming length_append->zg, length_cons->zp
open Nat renaming le_refl->ze, le_trans->qg
attribute [local go_sem] Oper.semAt_some
def Ep (x:List UInt8):List (List UInt8×List UInt8):=if (A6 (Af 61 x).2.1).1=0 then [((Af 61 x).1,(A6 (Af 61 x).2.1).2)] else []
def Fj (l:List (List UInt8)):List (List UInt8×List UInt8):=l.flatMap fun x=>Ep (x.take 1000000)
def DB (l:List (List UInt8)):List (List UInt8×List UInt8):=l.flatMap Ep
theorem dY (l:List (List UInt8)) (x:List UInt8):Fj (l++[x])=Fj l++Ep (x.take 1000000):=by simp[Fj]
theorem bQ (l:List (List UInt8)):(Fj l).length<=l.length:=by
 induction l with
 | nil=>exact ze _
 | cons a l ih=>
  rw[show Fj (a::l)=Ep (a.take 1000000)++Fj l from rfl,zg,zp];have:(Ep (a.take 1000000)).length<=1:=by unfold Ep;split<;>simp
  omega
theorem Y0 {s:List UInt8} (hs:s.length<=1000000):Fj (B8 s)=DB (B8 s):=by
 have h:∀l:List (List UInt8),(∀x∈l,x.length<=1000000)->Fj l=DB l:=by
  intro l
  induction l with
  | nil=>exact fun _=>rfl
  | cons a l ih=>
   intro h;show Ep (a.take 1000000)++Fj l=Ep a++DB l;rw[ih fun x hx=>h x (List.mem_cons_of_mem _ hx),List.take_of_length_le (h a (List.mem_cons_self ..))]
 exact h _ fun x hx=>qg (GQ 38 s x (List.mem_filter.1 hx).1) hs
def F3 (l:List (List UInt8×List UInt8)):List Value:=l.flatMap fun p=>[.string (S p.1),.string (S p.2)]
theorem Ma (v:Value):v.ownBlock=none\/v.ownBlock≠none:=Decidable.em _
theorem ZG (l:List (List UInt8×List UInt8)) (a b:List UInt8):F3 (l++[(a,b)])=F3 l++[.string (S a),.string (S b)]:=by simp[F3]
theorem SK (s:List UInt8):(B8 s).length<=s.length+1:=qg (List.length_filter_le _ _) (JR 38 s)
theorem Tryz.infoF:(Tryz.prog.info? 77).map (fun i=>(i.zero,i.size,i.bytes))=some (some (.agg #[.string ⟨#[]⟩,.string ⟨#[]⟩]),2,32):=by kernel_rfl
set_option maxHeartbeats 4000000 in
theorem gY (s:List UInt8) (hs:s.length<=1000000) (w:World) :
  Calls Tryz.prog 8 #[.string (S s)] w fun e W'=>∃v,e=.returned v/\W'.ownsRow w.heap.size 77 2 v (DB (B8 s)).length (F3 (DB (B8 s)))/\Qb w W':=by
 refine(callsIn_wide (n:=3)).1 ?_;obtain⟨i0,hi,hz0,hz1,hz2⟩:=info_parts Tryz.infoF;refine callsIn_of_wp_marks Tryz.func8 rfl trivial ?_ rfl;simp only[Tryz.ntmps8,List.size_toArray,zp,List.length_nil,Nat.reduceAdd,Nat.reduceSub,Array.replicate_succ,Array.replicate_zero,List.push_toArray,List.append_toArray,List.nil_append,List.cons_append]
 gi_wp2_with (refine⟨trivial,?_⟩;gi_at_call 24;refine(dZ _ s _).mono ?_;rintro e w' ⟨rfl,rfl⟩)
 have bO:=Boxed.new w 37 (.slice none 0 0);have bN:=Boxed.new (w.alloc (.cells #[.slice none 0 0] 37)) 9 (.string (S s));rw[World.size_alloc] at bN;have hB0:Below w.heap.size w ((w.alloc (.cells #[.slice none 0 0] 37)).alloc (.cells #[.string (S s)] 9)):=((Below.refl _ w).alloc (ze _) _).alloc (by simp) _;refine wpIn_rangeFunc_ownG rfl (by decide) (gf:=62) (lb:=#[.pointer (some ⟨w.heap.size+1,0,none⟩)]) rfl trivial (enters_of Tryz.func62 (by kernel_rfl) rfl)
  (iV _ (by decide) (w.heap.size+1) w.heap.size s hs _ (by simp) bN.cell) belowK_t (belowK_b (by simp;omega)) (Below.refl _ _) (fun _=>rfl)
  (fun pre W=>(∃v,Boxed W w.heap.size 37 v/\W.ownsRow w.heap.size 77 2 v (Fj pre).length (F3 (Fj pre))/\True)/\Below w.heap.size w W)
  (fun _ _ _=>False)
  (OwnFrom.and (Own.from (holdsRow_own w.heap.size w.heap.size 37 77 2 (fun pre=>(Fj pre).length) (fun pre=>F3 (Fj pre)) (fun pre v=>True)) _) (ownFrom_below (ze _) (by simp;omega)))
  (fun _ _ _ _ _ hs _ _=>hs)
  ⟨⟨_,bO.alloc _,World.ownsRow_nil _ _ _ _,trivial⟩,hB0⟩
  (fun x=>{ tmps:=#[.string (S s),undef,.slice none 0 0,.pointer (some ⟨w.heap.size,0,none⟩),.string (S (x.take 1000000)),undef,undef,undef,undef,undef,.string (S s),.func (.func 62) #[] #[.pointer (some ⟨w.heap.size+1,0,none⟩)],.string (S (x.take 1000000)),undef,undef,undef,undef,undef,undef,undef,undef,undef,undef,undef,undef,undef,undef,undef,undef,undef,undef,undef,undef],defers:=[] }) ?assign ?body ?done ?stop
 case assign=>
  intro l x W K hK
  gi_wp2
  exact hK
 case body=>
  rintro l pre x W ⟨⟨v,hv,hrow,-⟩,hB⟩ hlt;have hpl:=bQ pre;have hsl:=SK s;have hsn:=dY pre x;have hxl:(x.take 1000000).length<=1000000:=by rw[List.length_take];omega
  revert hxl hsn
  generalize x.take 1000000=y;intro hsn hxl
  by_cases hd:(A6 (Af 61 y).2.1).1=0
  ·have hdb:((A6 (Af 61 y).2.1).1==(0:Int))=true:=by rw[hd];rfl
   have ho:Ep y=[((Af 61 y).1,(A6 (Af 61 y).2.1).2)]:=if_pos hd;rw[ho] at hsn;clear hd ho
   gi_wp2_with (first
    | (refine⟨trivial,?_⟩;gi_at_call 25;refine(CallsIn.inRound l (callsIn_wide.2 (D7 (S y) 61 _ (by rw[AL];unfold maxLen;omega)))).mono ?_;rintro e w1 ⟨rfl,hq1⟩;unfold DD;(try rw[AO]);have hvA:=hv.kept (GR hq1) (by simp);have hrA:=hrow.kept (GR hq1) (Ma v);have hzA:=qg hB.size (Below.size hq1))
    | (refine⟨trivial,?_⟩;gi_at_call 26;refine(CallsIn.inRound l (callsIn_wide.2 (PY (S (Af 61 y).2.1) _))).mono ?_;rintro e w2 ⟨rfl,hq2⟩;unfold Dd;(try rw[AO]);have hvB:=hvA.kept (GR hq2) (by simp);have hrB:=hrA.kept (GR hq2) (Ma v);have hcB:=hvB.cell;have hzB:=qg hzA (Below.size hq2))
    | (gi_at_builtin;refine wpListIn_append_own _ rfl _ _ 37 rfl w.heap.size 77 i0 (.agg #[.string ⟨#[]⟩,.string ⟨#[]⟩]) 2 32 Tryz.underlying37 hi hz0 hz1 hz2 rfl (by decide) _ _ _ rfl (hrB.alloc _) ⟨w2.heap.size,0,none⟩ 1 1 [.string (S (Af 61 y).1),.string (S (A6 (Af 61 y).2.1).2)] rfl rfl (cell_two_new _ _ _ _) (by simp[Value.oneCell']) (by unfold maxLen;omega) (by omega) (by simp;omega) ?_;intro v' w3 hown' hgrow _;obtain⟨g',cap',rfl⟩:=ownsRow_succ hown';obtain⟨hv1,hv2,hr2,hk2,hb2⟩:=hvB.appended (by decide) hrB hzB (ze _) hown' hgrow;have hc1:=hv1.cell;have hf1:=hv1.frozen))
   have hb3:Below w.heap.size W w2:=Below.trans (Below.mono hq1 hB.size) (Below.mono hq2 hzA);exact⟨(((L9 hq1).trans (L9 hq2)).trans hk2).from _,hb3.trans hb2,⟨⟨_,hv2,by rw[hsn,ZG,zg];exact hr2,trivial⟩,hB.trans (hb3.trans hb2)⟩⟩
  ·have hdb:((A6 (Af 61 y).2.1).1==(0:Int))=false:=by rw[beq_eq_false_iff_ne];exact hd
   have ho:Ep y=[]:=if_neg hd;rw[ho,List.append_nil] at hsn;clear hd ho
   gi_wp2_with (first
    | (refine⟨trivial,?_⟩;gi_at_call 25;refine(CallsIn.inRound l (callsIn_wide.2 (D7 (S y) 61 _ (by rw[AL];unfold maxLen;omega)))).mono ?_;rintro e w1 ⟨rfl,hq1⟩;unfold DD;(try rw[AO]);have hvA:=hv.kept (GR hq1) (by simp);have hrA:=hrow.kept (GR hq1) (Ma v);have hzA:=qg hB.size (Below.size hq1))
    | (refine⟨trivial,?_⟩;gi_at_call 26;refine(CallsIn.inRound l (callsIn_wide.2 (PY (S (Af 61 y).2.1) _))).mono ?_;rintro e w2 ⟨rfl,hq2⟩;unfold Dd;(try rw[AO]);have hvB:=hvA.kept (GR hq2) (by simp);have hrB:=hrA.kept (GR hq2) (Ma v)))
   have hb3:Below w.heap.size W w2:=Below.trans (Below.mono hq1 hB.size) (Below.mono hq2 hzA);exact⟨((L9 hq1).trans (L9 hq2)).from _,hb3,⟨⟨_,hvB,by rw[hsn];exact hrB,trivial⟩,hB.trans hb3⟩⟩
 case done=>
  rintro D ys W hD rfl ⟨⟨v,hv,hrow,-⟩,hB⟩ hK;have hc:=hv.cell
  gi_wp2
  refine⟨by simp,.inl ⟨_,_,rfl,run_takeDeferred hK,?_⟩⟩;rw[Y0 hs] at hrow;exact⟨_,results_tmp rfl _ _ _,v,rfl,ownsRow_putObj hrow _ hK rfl,hB.trans (belowK_b (w:=w) (ze _) W D _ _ (by simp at hD;omega) hK rfl rfl)⟩
 case stop=>
  rintro D c pre W _ _ h _;exact h.elim
end Go.Proofs.YtbgaknpnkcdbfaaGreatDoor
namespace Go.Proofs.YtbgaknpnkcdbfaaGreatDoor.Sx
open Go.RowKit
open List renaming all_eq_true->zw, getElem?_append_left->qh, getElem?_append_right->xv, getElem?_drop->jx, getElem?_eq_getElem->zk, getElem?_eq_none->qq, getElem?_set_ne->zo, getElem?_set_self->zm, getElem?_take->xw, length_append->zg, length_cons->zp, length_drop->zr, length_set->zh, length_take->zq, mem_append->qc, mem_of_mem_drop->xr, mem_of_mem_take->xe
open Nat renaming eq_zero_or_pos->jw, le_refl->ze, lt_or_ge->zx
open Option renaming some->zy
inductive AV where
 | s (l:List UInt8)
 | i (k:IntKind) (n:Int)
 | b (x:Bool)
 | agg (cs:List AV)
 | tup (cs:List AV)
 | p (b off:Nat)
 | row (n:Nat) (xs:List AV)
 | prow (xs:List AV) (j:Nat)
 | crow (n:Nat) (xs:List AV)
 | orow (b gen:Nat)
 | porow (b gen j:Nat)
 | bsl (b off n:Nat)
 | m (b:Nat)
 | ip (T b off:Nat)
 | zn (b:Bool)
 | nil
 | fn (f:Nat) (first caps:List AV)
 | o (v:Value)
 | u
inductive OB where
 | box (T:TypeId) (cs:List AV)
 | orow (E sz gen n:Nat) (xs:List AV)
 | mpk (h:Bool) (es:List (List UInt8×AV))
 | dead
@[match_pattern] abbrev OB.mp (es:List (List UInt8×AV)):OB:=.mpk false es
structure Gh where
 blk:Nat->Option Nat
 cur:Nat->Option (Nat×Value)
def Gh.own (G:Gh) (b:Nat):Option Nat :=
 match G.blk b with
 | some g=>some g
 | none=>match G.cur b with
  | some p=>p.2.ownBlock
  | none=>none
theorem Ex {G:Gh} {b g:Nat} (h:G.blk b=some g):G.own b=some g:=by simp[Gh.own,h]
theorem I5 {G:Gh} {b n:Nat} {v:Value} (h:G.blk b=none) (h':G.cur b=some (n,v)):G.own b=v.ownBlock:=by simp[Gh.own,h,h']
abbrev Al:=Nat->Nat->Value->Prop
mutual
def Ab (G:Gh) (I:Al):AV->Value->Prop
 | .s l,y=>y=.string ⟨l.toArray⟩
 | .i k n,y=>y=.int k n
 | .b x,y=>y=.bool x
 | .agg cs,y=>∃ys,y=.agg ys.toArray/\Ad G I cs ys/\∀u∈ys,u.oneCell'=true
 | .tup cs,y=>∃ys,y=.tuple ys.toArray/\Ad G I cs ys
 | .p b off,y=>∃g,G.blk b=some g/\y=.pointer (some ⟨g,off,none⟩)
 | .row n xs,y=>∃a c ys,y=.slice a n c/\(n<=c/\∀ad:Addr,a=some ad->c≠0->ad.spot=none)/\Ad G I xs ys/\(∀u∈ys,u.oneCell'=true)/\∀j u,ys[j]? = some u->∃g off,a=some ⟨g,off,none⟩/\I g (off+j) u
 | .prow xs j,y=>∃g off ys,y=.pointer (some ⟨g,off+j,none⟩)/\Ad G I xs ys/\(∀u∈ys,u.oneCell'=true)/\∀j u,ys[j]? = some u->I g (off+j) u
 | .crow n xs,y=>∃a ys,y=.slice a n n/\(∀ad:Addr,a=some ad->n≠0->ad.spot=none)/\Ad G I xs ys/\(∀u∈ys,u.oneCell'=true)/\∀j u,ys[j]? = some u->∃g off,a=some ⟨g,off,none⟩/\I g (off+j) u
 | .orow b gen,y=>∃g' v,G.cur b=some (g',v)/\gen<=g'/\(gen=g'->y=v)/\y.oneCell'=true
 | .porow b gen j,y=>∃g' v g,G.cur b=some (g',v)/\gen<=g'/\y=.pointer (some ⟨g,j,none⟩)/\(gen=g'->∃n c,v=.slice (some ⟨g,0,none⟩) n c)
 | .bsl b off n,y=>∃g c,G.blk b=some g/\y=.slice (some ⟨g,off,none⟩) n c/\n<=c
 | .m b,y=>∃g,G.blk b=some g/\y=.map (some g)
 | .ip T b off,y=>∃g,G.blk b=some g/\y=.iface T (.pointer (some ⟨g,off,none⟩))
 | .zn b,y=>∃a c,y=.slice a 0 c/\a.isNone=b/\∀ad:Addr,a=some ad->c≠0->ad.spot=none
 | .nil,y=>y=.slice none 0 0
 | .fn f fs cs,y=>∃us ys,y=.func (.func f) us.toArray ys.toArray/\Ad G I fs us/\Ad G I cs ys
 | .o v,y=>y=v
 | .u,y=>True
def Ad (G:Gh) (I:Al):List AV->List Value->Prop
 | [],ys=>ys=[]
 | x::xs,ys=>∃y ys',ys=y::ys'/\Ab G I x y/\Ad G I xs ys'
end
structure Gh.le (G G':Gh):Prop where
 blk:∀b g,G.blk b=some g->G'.blk b=some g
 cur:∀b n v,G.cur b=some (n,v)->∃n' v',G'.cur b=some (n',v')/\(n'=n/\v'=v\/n<n')
theorem Gh.le.refl (G:Gh):G.le G:=⟨fun _ _ h=>h,fun _ n v h=>⟨n,v,h,.inl ⟨rfl,rfl⟩⟩⟩
theorem Gh.le.trans {a b c:Gh} (h:a.le b) (k:b.le c):a.le c:=by
 refine⟨fun x g hx=>k.blk x g (h.blk x g hx),fun x n v hx=>?_⟩;obtain⟨n1,v1,h1,h2⟩:=h.cur x n v hx;obtain⟨n2,v2,h3,h4⟩:=k.cur x n1 v1 h1;refine⟨n2,v2,h3,?_⟩;rcases h2 with ⟨rfl,rfl⟩|h2
 ·exact h4
 ·rcases h4 with ⟨rfl,_⟩|h4
  ·exact .inr h2
  ·exact .inr (by omega)
def Al.le (I I':Al):Prop:=∀g o v,I g o v->I' g o v
mutual
theorem Ab.mono {G G':Gh} {I I':Al} (hG:G.le G') (hI:Al.le I I'):∀(x:AV) (y:Value),Ab G I x y->Ab G' I' x y
 | .s l,y,h=>by simpa[Ab] using h
 | .i k n,y,h=>by simpa[Ab] using h
 | .b x,y,h=>by simpa[Ab] using h
 | .agg cs,y,h=>by
  simp only[Ab] at h ⊢;obtain⟨ys,h1,h2,h3⟩:=h;exact⟨ys,h1,Ad.mono hG hI cs ys h2,h3⟩
 | .tup cs,y,h=>by
  simp only[Ab] at h ⊢;obtain⟨ys,h1,h2⟩:=h;exact⟨ys,h1,Ad.mono hG hI cs ys h2⟩
 | .p b off,y,h=>by
  simp only[Ab] at h ⊢;obtain⟨g,h1,h2⟩:=h;exact⟨g,hG.blk _ _ h1,h2⟩
 | .row n xs,y,h=>by
  simp only[Ab] at h ⊢;obtain⟨a,c,ys,h1,h2,h3,h4,h5⟩:=h;refine⟨a,c,ys,h1,h2,Ad.mono hG hI xs ys h3,h4,fun j u hj=>?_⟩;obtain⟨g,off,e,hi⟩:=h5 j u hj;exact⟨g,off,e,hI _ _ _ hi⟩
 | .prow xs j,y,h=>by
  simp only[Ab] at h ⊢;obtain⟨g,off,ys,h1,h3,h4,h5⟩:=h;exact⟨g,off,ys,h1,Ad.mono hG hI xs ys h3,h4,fun j u hj=>hI _ _ _ (h5 j u hj)⟩
 | .crow n xs,y,h=>by
  simp only[Ab] at h ⊢;obtain⟨a,ys,h1,h2,h3,h4,h5⟩:=h;refine⟨a,ys,h1,h2,Ad.mono hG hI xs ys h3,h4,fun j u hj=>?_⟩;obtain⟨g,off,e,hi⟩:=h5 j u hj;exact⟨g,off,e,hI _ _ _ hi⟩
 | .orow b gen,y,h=>by
  simp only[Ab] at h ⊢;obtain⟨g',v,h1,h2,h3,h0⟩:=h;obtain⟨n',v',e,h4⟩:=hG.cur _ _ _ h1;refine⟨n',v',e,?_,?_,h0⟩
  ·rcases h4 with ⟨rfl,_⟩|h4<;>omega
  ·rcases h4 with ⟨rfl,rfl⟩|h4
   ·exact h3
   ·intro e;omega
 | .porow b gen j,y,h=>by
  simp only[Ab] at h ⊢;obtain⟨g',v,g,h1,h2,h0,h3⟩:=h;obtain⟨n',v',e,h4⟩:=hG.cur _ _ _ h1;refine⟨n',v',g,e,?_,h0,?_⟩
  ·rcases h4 with ⟨rfl,_⟩|h4<;>omega
  ·rcases h4 with ⟨rfl,rfl⟩|h4
   ·exact h3
   ·intro e;omega
 | .bsl b off n,y,h=>by
  simp only[Ab] at h ⊢;obtain⟨g,c,h1,h2⟩:=h;exact⟨g,c,hG.blk _ _ h1,h2⟩
 | .m b,y,h=>by
  simp only[Ab] at h ⊢;obtain⟨g,h1,h2⟩:=h;exact⟨g,hG.blk _ _ h1,h2⟩
 | .ip T b off,y,h=>by
  simp only[Ab] at h ⊢;obtain⟨g,h1,h2⟩:=h;exact⟨g,hG.blk _ _ h1,h2⟩
 | .zn b,y,h=>by simpa[Ab] using h
 | .nil,y,h=>by simpa[Ab] using h
 | .fn f fs cs,y,h=>by
  simp only[Ab] at h ⊢;obtain⟨us,ys,h1,h2,h3⟩:=h;exact⟨us,ys,h1,Ad.mono hG hI fs us h2,Ad.mono hG hI cs ys h3⟩
 | .o v,y,h=>by simpa[Ab] using h
 | .u,y,h=>by simp[Ab]
theorem Ad.mono {G G':Gh} {I I':Al} (hG:G.le G') (hI:Al.le I I'):∀(xs:List AV) (ys:List Value),Ad G I xs ys->Ad G' I' xs ys
 | [],ys,h=>by simpa[Ad] using h
 | x::xs,ys,h=>by
  simp only[Ad] at h ⊢;obtain⟨y,ys',h1,h2,h3⟩:=h;exact⟨y,ys',h1,Ab.mono hG hI x y h2,Ad.mono hG hI xs ys' h3⟩
end
theorem Ad.length {G:Gh} {I:Al}:∀{xs:List AV} {ys:List Value},Ad G I xs ys->xs.length=ys.length
 | [],ys,h=>by simp only[Ad] at h;subst h;rfl
 | x::xs,ys,h=>by
  simp only[Ad] at h;obtain⟨y,ys',rfl,_,h3⟩:=h;simp[Ad.length h3]
theorem Ad.get {G:Gh} {I:Al}:∀{xs:List AV} {ys:List Value} (j:Nat) {x:AV},Ad G I xs ys->xs[j]? = some x->∃y,ys[j]? = some y/\Ab G I x y
 | [],ys,j,x,h,hx=>by simp at hx
 | z::xs,ys,j,x,h,hx=>by
  simp only[Ad] at h;obtain⟨y,ys',rfl,h2,h3⟩:=h
  cases j with
  | zero=>simp at hx;subst hx;exact⟨y,rfl,h2⟩
  | succ j=>simpa using Ad.get j h3 (by simpa using hx)
theorem Ad.set {G:Gh} {I:Al}:∀{xs:List AV} {ys:List Value} (j:Nat) {x:AV} {y:Value},Ad G I xs ys->Ab G I x y->Ad G I (xs.set j x) (ys.set j y)
 | [],ys,j,x,y,h,hx=>by simp only[Ad] at h;subst h;simp[Ad]
 | z::xs,ys,j,x,y,h,hx=>by
  simp only[Ad] at h;obtain⟨y',ys',rfl,h2,h3⟩:=h
  cases j with
  | zero=>simp only[List.set_cons_zero,Ad];exact⟨_,_,rfl,hx,h3⟩
  | succ j=>simp only[List.set_cons_succ,Ad];exact⟨_,_,rfl,h2,Ad.set j h3 hx⟩
theorem Ad.append {G:Gh} {I:Al}:∀{xs:List AV} {ys:List Value} {xs':List AV} {ys':List Value},Ad G I xs ys->Ad G I xs' ys'->Ad G I (xs++xs') (ys++ys')
 | [],ys,xs',ys',h,h'=>by simp only[Ad] at h;subst h;simpa using h'
 | z::xs,ys,xs',ys',h,h'=>by
  simp only[Ad] at h;obtain⟨y,ys1,rfl,h2,h3⟩:=h;simp only[List.cons_append,Ad];exact⟨_,_,rfl,h2,Ad.append h3 h'⟩
theorem Ad.drop {G:Gh} {I:Al}:∀{xs:List AV} {ys:List Value} (k:Nat),Ad G I xs ys->Ad G I (xs.drop k) (ys.drop k)
 | xs,ys,0,h=>by simpa using h
 | [],ys,k+1,h=>by simp only[Ad] at h;subst h;simp[Ad]
 | z::xs,ys,k+1,h=>by
  simp only[Ad] at h;obtain⟨y,ys1,rfl,h2,h3⟩:=h;simpa using Ad.drop k h3
theorem Ad.take {G:Gh} {I:Al}:∀{xs:List AV} {ys:List Value} (k:Nat),Ad G I xs ys->Ad G I (xs.take k) (ys.take k)
 | xs,ys,0,h=>by simp[Ad]
 | [],ys,k+1,h=>by simp only[Ad] at h;subst h;simp[Ad]
 | z::xs,ys,k+1,h=>by
  simp only[Ad] at h;obtain⟨y,ys1,rfl,h2,h3⟩:=h;simp only[List.take_succ_cons,Ad];exact⟨_,_,rfl,h2,Ad.take k h3⟩
theorem Ad.cons {G:Gh} {I:Al} {x:AV} {xs:List AV} {y:Value} {ys:List Value} (h:Ab G I x y) (h':Ad G I xs ys):Ad G I (x::xs) (y::ys):=by
 simp only[Ad];exact⟨_,_,rfl,h,h'⟩
theorem Ad.nil {G:Gh} {I:Al}:Ad G I [] []:=by simp[Ad]
structure Cx where
 w:World
 own:Nat->Prop
 I:Al
 gh:Gh
structure In (C:Cx) (G:Gh) (I:Al) (w:World):Prop where
 os:w.os=C.w.os
 tape:w.tape=C.w.tape
 output:w.output=C.w.output
 size:C.w.heap.size<=w.heap.size
 block:∀k,k<C.w.heap.size->¬C.own k->w.heap[k]? = C.w.heap[k]?
 imm:Al.le C.I I
 news:∀g o v,I g o v->C.I g o v\/C.own g\/C.w.heap.size<=g
 blk:∀b g,G.own b=some g->C.own g\/C.w.heap.size<=g
 gh:C.gh.le G
def qG:Bool->List UInt8->Value
 | false,l=>.string ⟨l.toArray⟩
 | true,a::b::l=>.agg #[.string ⟨l.toArray⟩,.int .i64 (a.toNat*256+b.toNat:Nat)]
 | true,_=>.agg #[]
def wE (c:List UInt8):Prop:=∃a b l,c=a::b::l/\l.length<=1000000
def Na (h:Bool) (G:Gh) (I:Al) (es:List (List UInt8×AV)) (en:List MapEntry):Prop :=
 en.map (·.key)=es.map (fun e=>qG h e.1)/\Ad G I (es.map (·.2)) (en.map (·.val))/\(∀u∈en.map (·.val),u.oneCell'=true)/\(h=true->∀e∈es,wE e.1)
theorem Na.mono {kh:Bool} {G G':Gh} {I I':Al} (hG:G.le G') (hI:Al.le I I') {es:List (List UInt8×AV)} {en:List MapEntry} (h:Na kh G I es en):Na kh G' I' es en :=
 ⟨h.1,Ad.mono hG hI _ _ h.2.1,h.2.2⟩
structure MemOk (G:Gh) (I:Al) (objs:List OB) (w:World):Prop where
 imm:∀g o v,I g o v->w.cell? ⟨g,o,none⟩=some v
 box:∀(b:Nat) T cs,objs[b]? = some (.box T cs)->∃g ys,G.blk b=some g/\w.heap[g]? = some (.cells ys.toArray T (0,0))/\Ad G I cs ys/\∀u∈ys,u.oneCell'=true
 row:∀(b:Nat) E sz gen n xs,objs[b]? = some (.orow E sz gen n xs)->∃v ys,G.cur b=some (gen,v)/\w.ownsRow 0 E sz v n ys/\Ad G I xs ys/\(∀u∈ys,u.oneCell'=true)/\G.blk b=none
 map:∀(b:Nat) h es,objs[b]? = some (.mpk h es)->∃g en ck,G.blk b=some g/\w.heap[g]? = some (.map en ck)/\Na h G I es en.toList
 inj:∀b b' g,G.own b=some g->G.own b'=some g->b=b'
 lt:∀b g,G.own b=some g->g<w.heap.size
 apart:∀b g o v,G.own b=some g->¬I g o v
 fresh:∀b,objs.length<=b->G.blk b=none/\G.cur b=none
def Eo (C:Cx) (objs:List OB) (tm:List AV) (a:Act) (w:World):Prop :=
 ∃G I,In C G I w/\MemOk G I objs w/\Ad G I tm a.tmps.toList/\a.defers=[]
abbrev Bp:=Exit->List OB->List AV->Prop
def CJ (C:Cx) (K:Bp) (e:Exit) (a:Act) (w:World):Prop:=∃objs tm,K e objs tm/\Eo C objs tm a w
def WP (P:Program) (C:Cx) (c:Code) (K:Bp) (objs:List OB) (tm:List AV):Prop :=
 ∀a w,Eo C objs tm a w->c.wp P (CJ C K) a w
theorem fH {P:Program} {Q:Exit->Act->World->Prop} {c:Code} (I:Nat->Act->World->Prop)
  (round:∀n a w,I n a w->c.wp P (Exit.then (fun a' w'=>∃m,m<n/\I m a' w') Q) a w):∀n a w,I n a w->(Code.loop c).wp P Q a w:=by
 intro n a w h₀ b k cs;have key:∀n a w,I n a w->∃e a' w',Q e a' w'/\Arrives P (lone (b.at a (.code c::.inLoop c::k)) cs w) b k cs e a' w':=by
  intro n
  induction n using Nat.strongRecOn with
  | _ n ih=>
   intro a w hI;obtain⟨e,a₁,w₁,hq,harr⟩:=round n a w hI b (.inLoop c::k) cs
   cases e with
   | normal=>
    obtain⟨m,hlt,hI₁⟩:=hq;obtain⟨e₂,a₂,w₂,hq₂,harr₂⟩:=ih m hlt a₁ w₁ hI₁;exact⟨e₂,a₂,w₂,hq₂,.of_steps (Steps.trans harr (.one step_inLoop)) harr₂⟩
   | exit id=>exact⟨_,a₁,w₁,hq,.pass (x:=.inLoop c) rfl (fun _ _=>.inl (by simp)) harr⟩
   | goto l=>exact⟨_,a₁,w₁,hq,.pass (x:=.inLoop c) rfl (fun _ _=>.inl (by simp)) harr⟩
   | ret=>exact⟨_,a₁,w₁,hq,.pass (x:=.inLoop c) rfl (fun _ _=>.inl (by simp)) harr⟩
   | panic ch=>exact⟨_,a₁,w₁,hq,.pass (x:=.inLoop c) rfl (fun _ _=>.inl (by simp)) harr⟩
   | outgrown=>exact⟨_,a₁,w₁,hq,.pass (x:=.inLoop c) rfl (fun _ _=>.inl (by simp)) harr⟩
 obtain⟨e,a',w',hq,harr⟩:=key n a w h₀;exact⟨e,a',w',hq,.of_steps (.one step_loop) harr⟩
section
variable {P:Program} {C:Cx} {K:Bp} {objs:List OB} {tm:List AV}
theorem WP.mono {c:Code} {K K':Bp} (h:∀e objs tm,K e objs tm->K' e objs tm) (hh:WP P C c K objs tm):WP P C c K' objs tm :=
 fun a w hr=>wp_mono (hh a w hr) fun e a w ⟨o,t,hk,hr⟩=>⟨o,t,h _ _ _ hk,hr⟩
theorem WP.skip (h:K .normal objs tm):WP P C .skip K objs tm:=fun a w hr=>wp_skip ⟨_,_,h,hr⟩
theorem WP.ret (h:K .ret objs tm):WP P C .ret K objs tm:=fun a w hr=>wp_ret ⟨_,_,h,hr⟩
theorem WP.exit {id:Nat} (h:K (.exit id) objs tm):WP P C (.exit id) K objs tm:=fun a w hr=>wp_exit ⟨_,_,h,hr⟩
def FO (N:List OB->List AV->Prop) (K:Bp):Bp
 | .normal,objs,tm=>N objs tm
 | e,objs,tm=>K e objs tm
theorem WP.seq {x y:Code} (h:WP P C x (FO (WP P C y K) K) objs tm):WP P C (.seq x y) K objs tm:=by
 intro a w hr;refine wp_seq (wp_mono (h a w hr) ?_);rintro e a w ⟨o,t,hk,hr⟩
 cases e with
 | normal=>exact hk a w hr
 | _=>exact⟨o,t,hk,hr⟩
def Ht (id:Nat) (K:Bp):Bp
 | .exit id',objs,tm=>if id'=id then K .normal objs tm else K (.exit id') objs tm
 | e,objs,tm=>K e objs tm
theorem WP.block {id:Nat} {c:Code} (h:WP P C c (Ht id K) objs tm):WP P C (.block id c) K objs tm:=by
 intro a w hr;refine wp_block (wp_mono (h a w hr) ?_);rintro e a w ⟨o,t,hk,hr⟩
 cases e with
 | exit id'=>
  simp only[Exit.inBlock,Ht] at hk ⊢
  split at hk
  ·rename_i hid;rw[if_pos hid];exact⟨o,t,hk,hr⟩
  ·rename_i hid;rw[if_neg hid];exact⟨o,t,hk,hr⟩
 | _=>exact⟨o,t,hk,hr⟩
theorem WP.loop {c:Code} (J:Nat->List OB->List AV->Prop) (n:Nat) (h0:J n objs tm)
  (round:∀n objs tm,J n objs tm->WP P C c (FO (fun o t=>∃m,m<n/\J m o t) K) objs tm):WP P C (.loop c) K objs tm:=by
 intro a w hr;refine fH (fun n a w=>∃o t,J n o t/\Eo C o t a w) ?_ n a w ⟨objs,tm,h0,hr⟩;rintro n a w ⟨o,t,hj,hr⟩;refine wp_mono (round n o t hj a w hr) ?_;rintro e a w ⟨o,t,hk,hr⟩
 cases e with
 | normal=>
  obtain⟨m,hm,hj⟩:=hk;exact⟨m,hm,o,t,hj,hr⟩
 | _=>exact⟨o,t,hk,hr⟩
def J9:Value->AV
 | .string s=>.s s.data.toList
 | .int k n=>.i k n
 | .bool x=>.b x
 | .slice none 0 0=>.nil
 | v=>.o v
def Fh:Value->AV
 | .agg vs=>if vs.toList.all (·.oneCell')=true then .agg (vs.toList.map J9) else .o (.agg vs)
 | v=>J9 v
theorem TZ (G:Gh) (I:Al) (v:Value):Ab G I (J9 v) v:=by
 unfold J9
 split
 ·simp[Ab]
 ·simp[Ab]
 ·simp[Ab]
 ·simp[Ab]
 ·simp[Ab]
theorem Us (G:Gh) (I:Al):∀l:List Value,Ad G I (l.map J9) l
 | []=>by simp[Ad]
 | v::l=>by
  rw[List.map_cons];simp only[Ad];exact⟨v,l,rfl,TZ G I v,Us G I l⟩
theorem SE (G:Gh) (I:Al) (v:Value):Ab G I (Fh v) v:=by
 unfold Fh
 split
 ·rename_i vs
  split
  ·rename_i h;simp only[Ab];exact⟨vs.toList,by simp,Us G I _,fun u hu=>zw.1 h u hu⟩
  ·simp[Ab]
 ·exact TZ G I _
inductive SV where
 | t (n:Nat)
 | c (v:AV)
def Ag:Operand->SV
 | .tmp t=>.t t
 | .const v=>.c (Fh v)
 | .global g=>.c (.o (.pointer (some ⟨g,0,none⟩)))
 | .func f=>.c (.fn f [] [])
def SV.ev (tm:List AV):SV->AV
 | .t n=>(tm[n]?).getD .u
 | .c v=>v
theorem Ar {G:Gh} {I:Al} {a:Act} (h:Ad G I tm a.tmps.toList) (x:Operand):Ab G I ((Ag x).ev tm) (a.eval x):=by
 cases x with
 | tmp t=>
  simp only[Ag,SV.ev,Act.eval]
  cases ht:tm[t]? with
  | none=>simp[Ab]
  | some v=>
   obtain⟨y,h1,h2⟩:=Ad.get t h ht;simp only[Option.getD_some,Array.getD_eq_getD_getElem?];rw[Array.getElem?_toList] at h1;rw[h1];exact h2
 | const v=>exact SE _ _ _
 | global g=>simp[Ag,SV.ev,Act.eval,Ab]
 | func f=>simp only[Ag,SV.ev,Act.eval,Ab];exact⟨[],[],rfl,by simp[Ad],by simp[Ad]⟩
theorem WP.cond {c:Operand} {x y:Code} {t:Bool} (hc:(Ag c).ev tm=.b t) (ht:t=true->WP P C x K objs tm) (hf:t=false->WP P C y K objs tm):WP P C (.cond c x y) K objs tm:=by
 intro a w hr;have hr':=hr;obtain⟨G,I,_,_,hd,_⟩:=hr';have h1:=Ar hd c;rw[hc] at h1;simp only[Ab] at h1;exact wp_cond_split h1 (fun h=>ht h a w hr) (fun h=>hf h a w hr)
end
def AV.one:AV->Bool
 | .agg _ | .tup _ | .u=>false
 | .o v=>v.oneCell'
 | _=>true
def AV.cells:AV->List AV
 | .agg cs=>cs
 | v=>[v]
def AV.flat:AV->Bool
 | .agg _=>true
 | v=>v.one
theorem X6 {G:Gh} {I:Al} {x:AV} {y:Value} (h:Ab G I x y) (h1:x.one=true):y.oneCell'=true:=by
 cases x with
 | s l=>simp only[Ab] at h;subst h;rfl
 | i k n=>simp only[Ab] at h;subst h;rfl
 | b x=>simp only[Ab] at h;subst h;rfl
 | agg cs=>simp[AV.one] at h1
 | tup cs=>simp[AV.one] at h1
 | p b off=>simp only[Ab] at h;obtain⟨_,_,rfl⟩:=h;rfl
 | row n xs=>simp only[Ab] at h;obtain⟨_,_,_,rfl,_⟩:=h;rfl
 | prow xs j=>simp only[Ab] at h;obtain⟨_,_,_,rfl,_⟩:=h;rfl
 | crow n xs=>simp only[Ab] at h;obtain⟨_,_,rfl,_⟩:=h;rfl
 | orow b gen=>simp only[Ab] at h;obtain⟨_,_,_,_,_,h⟩:=h;exact h
 | porow b gen j=>simp only[Ab] at h;obtain⟨_,_,_,_,_,rfl,_⟩:=h;rfl
 | bsl b off n=>simp only[Ab] at h;obtain⟨_,_,_,rfl,_⟩:=h;rfl
 | m b=>simp only[Ab] at h;obtain⟨_,_,rfl⟩:=h;rfl
 | ip T b off=>simp only[Ab] at h;obtain⟨_,_,rfl⟩:=h;rfl
 | zn b=>simp only[Ab] at h;obtain⟨_,_,rfl,_⟩:=h;rfl
 | nil=>simp only[Ab] at h;subst h;rfl
 | fn f fs cs=>simp only[Ab] at h;obtain⟨_,_,rfl,_⟩:=h;rfl
 | o v=>simp only[Ab] at h;subst h;exact h1
 | u=>simp[AV.one] at h1
theorem Mr {G:Gh} {I:Al} {x:AV} {y:Value} (h:Ab G I x y) (h1:x.flat=true):Ad G I x.cells y.cells.toList/\∀u∈y.cells.toList,u.oneCell'=true:=by
 cases x with
 | agg cs=>
  simp only[Ab] at h;obtain⟨ys,rfl,h2,h3⟩:=h;exact⟨h2,h3⟩
 | _=>
  have ho:=X6 h h1;have hc:y.cells=#[y]:=by cases y<;>first|rfl|(simp[Value.oneCell'] at ho)
  rw[hc];exact⟨Ad.cons h Ad.nil,by simpa using ho⟩
def AH (P:Program) (C:Cx) (o:Op) (type:TypeId) (objs:List OB) (tm:List AV) (K:List OB->AV->Prop):Prop :=
 ∀G I a w,In C G I w->MemOk G I objs w->Ad G I tm a.tmps.toList->∀(op:Oper) (next:Act->World->Prop) (Q:Exit->Act->World->Prop),op.op=o->op.type=type ->
  (∀objs' v y G' I' w',K objs' v->G.le G'->Al.le I I'->In C G' I' w'->MemOk G' I' objs' w'->Ab G' I' v y->next (a.put op.dst y) w')->op.wp P a w next Q
theorem Al.le.refl (I:Al):Al.le I I:=fun _ _ _ h=>h
theorem EV {P:Program} {op:Oper} {a:Act} {w w':World} {next:Act->World->Prop} {Q:Exit->Act->World->Prop} {y:Value}
  (h:(execOp a.eval op).run P w=.ok (.value y) w') (hn:next (a.put op.dst y) w'):op.wp P a w next Q:=by
 unfold Oper.wp;rw[h];exact hn
theorem TD {P:Program} {op:Oper} {a:Act} {w w':World} {next:Act->World->Prop} {Q:Exit->Act->World->Prop}
  (h:(execOp a.eval op).run P w=.ok .skip w') (hn:next (a.put op.dst undef) w'):op.wp P a w next Q:=by
 unfold Oper.wp;rw[h];exact hn
theorem Bk {P:Program} {C:Cx} {o:Op} {type:TypeId} {objs:List OB} {tm:List AV} {K:List OB->AV->Prop} (v:AV) (hk:K objs v)
  (h:∀(G:Gh) (I:Al) (a:Act) (w:World),MemOk G I objs w->Ad G I tm a.tmps.toList->∀op:Oper,op.op=o->op.type=type->∃y,(execOp a.eval op).run P w=.ok (.value y) w/\Ab G I v y):AH P C o type objs tm K:=by
 intro G I a w hin hm hd op next Q ho ht hn;obtain⟨y,hr,hy⟩:=h G I a w hm hd op ho ht;exact EV hr (hn objs v y G I w hk (Gh.le.refl G) (Al.le.refl I) hin hm hy)
def Gh.box (G:Gh) (b g:Nat):Gh:=⟨fun x=>if x=b then some g else G.blk x,G.cur⟩
def Gh.row (G:Gh) (b n:Nat) (v:Value):Gh:=⟨G.blk,fun x=>if x=b then some (n,v) else G.cur x⟩
theorem Gh.box_own (G:Gh) (b g x:Nat):(G.box b g).own x=if x=b then some g else G.own x:=by
 by_cases h:x=b
 ·simp[Gh.own,Gh.box,h]
 ·simp only[Gh.own,Gh.box,h,if_false]
theorem Gh.row_own (G:Gh) (b n:Nat) (v:Value) (hb:G.blk b=none) (x:Nat):(G.row b n v).own x=if x=b then v.ownBlock else G.own x:=by
 by_cases h:x=b
 ·subst h;simp[Gh.own,Gh.row,hb]
 ·simp only[Gh.own,Gh.row,h,if_false]
theorem In.alloc {C:Cx} {G:Gh} {I:Al} {w:World} (h:In C G I w) (o:Obj):In C G I (w.alloc o) :=
 ⟨h.os,h.tape,h.output,by simp;have:=h.size;omega,fun k hk hn=>(Below.heap_alloc w o k (Nat.lt_of_lt_of_le hk h.size)).trans (h.block k hk hn),h.imm,h.news,h.blk,h.gh⟩
theorem MemOk.alloc {G:Gh} {I:Al} {objs:List OB} {w:World} (h:MemOk G I objs w) (o:Obj):MemOk G I objs (w.alloc o):=by
 refine⟨fun g o' v hi=>?_,fun b T cs hb=>?_,fun b E sz gen n xs hb=>?_,fun b hh es hb=>?_,h.inj,fun b g hb=>by simp;have:=h.lt b g hb;omega,h.apart,h.fresh⟩
 ·have h1:=h.imm g o' v hi;rw[World.cell?_alloc_lt (h:=World.block_lt_of_cell? (h:=h1))];exact h1
 ·obtain⟨g,ys,h1,h2,h3,h4⟩:=h.box b T cs hb;exact⟨g,ys,h1,(Below.heap_alloc w o g (h.lt b g (Ex h1))).trans h2,h3,h4⟩
 ·obtain⟨v,ys,h1,h2,h3⟩:=h.row b E sz gen n xs hb;exact⟨v,ys,h1,World.ownsRow.alloc h2 o,h3⟩
 ·obtain⟨g,en,ck,h1,h2,h3⟩:=h.map b hh es hb;exact⟨g,en,ck,h1,(Below.heap_alloc w o g (h.lt b g (Ex h1))).trans h2,h3⟩
theorem In.ghost {C:Cx} {G G':Gh} {I:Al} {w:World} (h:In C G I w) (hle:G.le G') (hb:∀b g,G'.own b=some g->C.own g\/C.w.heap.size<=g):In C G' I w :=
 ⟨h.os,h.tape,h.output,h.size,h.block,h.imm,h.news,hb,h.gh.trans hle⟩
theorem Gh.box_le {G:Gh} {b g:Nat} (h:G.blk b=none):G.le (G.box b g):=by
 refine⟨fun x y hx=>?_,fun x n v hx=>⟨n,v,hx,.inl ⟨rfl,rfl⟩⟩⟩;show (if x=b then _ else _)=_;rw[if_neg (by rintro rfl;rw[h] at hx;cases hx)];exact hx
theorem Gh.row_le {G:Gh} {b n:Nat} {v:Value} (h:∀m u,G.cur b=some (m,u)->m<n):G.le (G.row b n v):=by
 refine⟨fun x y hx=>hx,fun x m u hx=>?_⟩
 by_cases e:x=b
 ·subst e;exact⟨n,v,by simp[Gh.row],.inr (h m u hx)⟩
 ·exact⟨m,u,by show (if x=b then _ else _)=_;rw[if_neg e];exact hx,.inl ⟨rfl,rfl⟩⟩
theorem QR {C:Cx} {G:Gh} {I:Al} {objs:List OB} {w:World} (hin:In C G I w) (h:MemOk G I objs w) (T:TypeId) (cs:List AV) (ys:Array Value) (hd:Ad G I cs ys.toList) (h1:∀u∈ys.toList,u.oneCell'=true) :
  ∃G',G.le G'/\In C G' I (w.alloc (.cells ys T))/\MemOk G' I (objs++[.box T cs]) (w.alloc (.cells ys T))/\Ab G' I (.p objs.length 0) (.pointer (some ⟨w.heap.size,0,none⟩)):=by
 have hf:=h.fresh objs.length (ze _);have hle:G.le (G.box objs.length w.heap.size):=Gh.box_le hf.1;have ha:=h.alloc (.cells ys T);have hbl:∀x y,(G.box objs.length w.heap.size).own x=some y->(x=objs.length/\y=w.heap.size)\/(x≠objs.length/\G.own x=some y):=by
  intro x y hx;rw[Gh.box_own] at hx
  split at hx
  ·rename_i e;injection hx with hx;exact .inl ⟨e,hx.symm⟩
  ·rename_i e;exact .inr ⟨e,hx⟩
 refine⟨_,hle,(hin.alloc _).ghost hle ?_,⟨ha.imm,?_,?_,?_,?_,?_,?_,?_⟩,?_⟩
 ·intro b g hb;rcases hbl b g hb with ⟨rfl,rfl⟩|⟨_,hb⟩
  ·exact .inr hin.size
  ·exact hin.blk b g hb
 ·intro b T' cs' hb;rcases zx b objs.length with hlt|hge
  ·rw[qh hlt] at hb;obtain⟨g,zs,k1,k2,k3,k4⟩:=ha.box b T' cs' hb;exact⟨g,zs,hle.blk b g k1,k2,Ad.mono hle (Al.le.refl I) _ _ k3,k4⟩
  ·rw[xv hge] at hb;have hb0:b=objs.length:=by
    rcases jw (b - objs.length) with h0|h0
    ·omega
    ·rw[qq (by simp;omega)] at hb;cases hb
   subst hb0;simp at hb;obtain⟨rfl,rfl⟩:=hb;exact⟨w.heap.size,ys.toList,by simp[Gh.box],by simpa using heap_alloc_new w (.cells ys T),Ad.mono hle (Al.le.refl I) _ _ hd,h1⟩
 ·intro b E sz gen n xs hb;rcases zx b objs.length with hlt|hge
  ·rw[qh hlt] at hb;obtain⟨v,zs,k1,k2,k3,k4,k5⟩:=ha.row b E sz gen n xs hb;refine⟨v,zs,k1,k2,Ad.mono hle (Al.le.refl I) _ _ k3,k4,?_⟩;show (if b=objs.length then _ else _)=_;rw[if_neg (by omega)];exact k5
  ·rw[xv hge] at hb;rcases jw (b - objs.length) with h0|h0
   ·rw[h0] at hb;simp at hb
   ·rw[qq (by simp;omega)] at hb;cases hb
 ·intro b hh es hb;rcases zx b objs.length with hlt|hge
  ·rw[qh hlt] at hb;obtain⟨g,en,ck,k1,k2,k3⟩:=ha.map b hh es hb;exact⟨g,en,ck,hle.blk b g k1,k2,k3.mono hle (Al.le.refl I)⟩
  ·rw[xv hge] at hb;rcases jw (b - objs.length) with h0|h0
   ·rw[h0] at hb;simp at hb
   ·rw[qq (by simp;omega)] at hb;cases hb
 ·intro b b' g hb hb';rcases hbl b g hb with ⟨rfl,rfl⟩|⟨_,hb⟩<;>rcases hbl b' _ hb' with ⟨rfl,e⟩|⟨_,hb'⟩
  ·rfl
  ·have:=h.lt b' _ hb';omega
  ·have:=h.lt b _ hb;omega
  ·exact h.inj b b' g hb hb'
 ·intro b g hb;rcases hbl b g hb with ⟨rfl,rfl⟩|⟨_,hb⟩
  ·simp
  ·exact ha.lt b g hb
 ·intro b g o v hb hi;rcases hbl b g hb with ⟨rfl,rfl⟩|⟨_,hb⟩
  ·have:=World.block_lt_of_cell? (h:=h.imm _ _ _ hi);simp at this
  ·exact h.apart b g o v hb hi
 ·intro b hb;simp at hb;have:=h.fresh b (by omega);refine⟨?_,this.2⟩;show (if b=objs.length then _ else _)=_;rw[if_neg (by omega)];exact this.1
 ·simp only[Ab];exact⟨w.heap.size,by simp[Gh.box],rfl⟩
theorem QS {C:Cx} {G:Gh} {I:Al} {objs:List OB} {w:World} (hin:In C G I w) (h:MemOk G I objs w) (E:TypeId) (xs:List AV) (ys:Array Value) (n:Nat) (hd:Ad G I xs ys.toList) (h1:∀u∈ys.toList,u.oneCell'=true) :
  ∃I',Al.le I I'/\In C G I' (w.alloc (.cells ys E))/\MemOk G I' objs (w.alloc (.cells ys E))/\Ab G I' (.row n xs) (.slice (some ⟨w.heap.size,0,none⟩) n n):=by
 have ha:=h.alloc (.cells ys E);have hia:=hin.alloc (.cells ys E)
 let I':Al:=fun g o v=>I g o v\/(g=w.heap.size/\ys.toList[o]? = some v)
 have hle:Al.le I I':=fun _ _ _ hi=>.inl hi;refine⟨I',hle,⟨hia.os,hia.tape,hia.output,hia.size,hia.block,fun g o v hi=>.inl (hin.imm g o v hi),?_,hia.blk,hia.gh⟩,⟨?_,?_,?_,?_,ha.inj,ha.lt,?_,ha.fresh⟩,?_⟩
 ·rintro g o v (hi|⟨rfl,_⟩)
  ·exact hin.news g o v hi
  ·exact .inr (.inr hin.size)
 ·rintro g o v (hi|⟨rfl,hy⟩)
  ·exact ha.imm g o v hi
  ·rw[World.cell?_alloc_new];simpa using hy
 ·intro b T cs hb;obtain⟨g,zs,k1,k2,k3,k4⟩:=ha.box b T cs hb;exact⟨g,zs,k1,k2,Ad.mono (Gh.le.refl G) hle _ _ k3,k4⟩
 ·intro b E' sz gen m us hb;obtain⟨v,zs,k1,k2,k3,k4,k5⟩:=ha.row b E' sz gen m us hb;exact⟨v,zs,k1,k2,Ad.mono (Gh.le.refl G) hle _ _ k3,k4,k5⟩
 ·intro b hh es hb;obtain⟨g,en,ck,k1,k2,k3⟩:=ha.map b hh es hb;exact⟨g,en,ck,k1,k2,k3.mono (Gh.le.refl G) hle⟩
 ·rintro b g o v hb (hi|⟨rfl,_⟩)
  ·exact h.apart b g o v hb hi
  ·have:=h.lt b _ hb;omega
 ·simp only[Ab];refine⟨some ⟨w.heap.size,0,none⟩,n,ys.toList,rfl,⟨ze _,by rintro _ ⟨⟩ _;rfl⟩,Ad.mono (Gh.le.refl G) hle _ _ hd,h1,fun j u hj=>⟨w.heap.size,0,rfl,.inr ⟨rfl,by simpa using hj⟩⟩⟩
theorem P7 (b:Nat) (T:TypeId):∀(vs:List Value) (o:Nat) (w:World) (cur:List Value),w.heap[b]? = some (.cells cur.toArray T (0,0))->o+vs.length<=cur.length ->
  (w.setCells b o vs).heap[b]? = some (.cells (cur.take o++vs++cur.drop (o+vs.length)).toArray T (0,0))/\(∀k,k≠b->(w.setCells b o vs).heap[k]? = w.heap[k]?)/\(w.setCells b o vs).heap.size=w.heap.size/\(w.setCells b o vs).os=w.os/\(w.setCells b o vs).tape=w.tape/\(w.setCells b o vs).output=w.output
 | [],o,w,cur,h,hl=>by simpa[World.setCells] using h
 | v::r,o,w,cur,h,hl=>by
  have hs:(w.setCell ⟨b,o,none⟩ v).heap[b]? = some (.cells (cur.set o v).toArray T (0,0)):=by
   simp[World.setCell,Array.getElem?_modify,h]
  simp only[zp] at hl;obtain⟨h1,h2,h3,h4,h5,h6⟩:=P7 b T r (o+1) (w.setCell ⟨b,o,none⟩ v) (cur.set o v) hs (by simp;omega);rw[World.setCells];refine⟨?_,fun k hk=>?_,?_,h4,h5,h6⟩
  ·rw[h1]
   congr 3
   have e1:(cur.set o v).take (o+1)=cur.take o++[v]:=by
    rw[List.take_succ_eq_append_getElem (by simp;omega),List.getElem_set_self,List.take_set_of_le (ze _)]
   have e2:(cur.set o v).drop (o+1+r.length)=cur.drop (o+(v::r).length):=by
    rw[List.drop_set_of_lt (by omega),zp,show o+1+r.length=o+(r.length+1) by omega]
   rw[e1,e2];simp
  ·rw[h2 k hk];exact Below.heap_setCell w _ v k hk
  ·rw[h3];simp[World.setCell]
def D4 {α:Type} (cs:List α) (o:Nat) (vs:List α):List α:=cs.take o++vs++cs.drop (o+vs.length)
theorem vM {C:Cx} {G:Gh} {I:Al} {objs:List OB} {w:World} (hin:In C G I w) (h:MemOk G I objs w) (b g o:Nat) (T:TypeId) (cs vs:List AV) (us:List Value) (hb:objs[b]? = some (.box T cs)) (hg:G.blk b=some g)
  (hd:Ad G I vs us) (h1:∀u∈us,u.oneCell'=true) (hl:o+vs.length<=cs.length) :
  In C G I (w.setCells g o us)/\MemOk G I (objs.set b (.box T (D4 cs o vs))) (w.setCells g o us):=by
 obtain⟨g',ys,k1,k2,k3,k4⟩:=h.box b T cs hb;obtain rfl:g=g':=zy.inj (hg.symm.trans k1);have hl1:=k3.length;have hl2:=hd.length;obtain⟨s1,s2,s3,s4,s5,s6⟩:=P7 g T us o w ys k2 (by omega);have hblt:b<objs.length:=by
  rcases zx b objs.length with h0|h0
  ·exact h0
  ·rw[qq h0] at hb;cases hb
 refine⟨⟨s4.trans hin.os,s5.trans hin.tape,s6.trans hin.output,by rw[s3];exact hin.size,fun k hk hn=>?_,hin.imm,hin.news,hin.blk,hin.gh⟩,⟨?_,?_,?_,?_,h.inj,fun b' g' hb'=>by rw[s3];exact h.lt b' g' hb',h.apart,?_⟩⟩
 ·rcases hin.blk b g (Ex hg) with ho|ho
  ·rw[s2 k (by rintro rfl;exact hn ho)];exact hin.block k hk hn
  ·rw[s2 k (by omega)];exact hin.block k hk hn
 ·intro g' o' v hi;rw[<-h.imm g' o' v hi];simp only[World.cell?];rw[s2 g' (by rintro rfl;exact h.apart b _ o' v (Ex hg) hi)]
 ·intro b' T' cs' hb'
  by_cases e:b'=b
  ·subst e;rw[zm hblt] at hb';obtain⟨rfl,rfl⟩:T=T'/\D4 cs o vs=cs':=by simpa using hb'
   refine⟨g,_,k1,s1,?_,?_⟩
   ·unfold D4;rw[hl2];exact Ad.append (Ad.append (Ad.take o k3) hd) (Ad.drop _ k3)
   ·intro u hu;rcases qc.1 hu with hu|hu
    ·rcases qc.1 hu with hu|hu
     ·exact k4 u (xe hu)
     ·exact h1 u hu
    ·exact k4 u (xr hu)
  ·rw[zo (fun e'=>e e'.symm)] at hb';obtain⟨g2,zs,m1,m2,m3,m4⟩:=h.box b' T' cs' hb';exact⟨g2,zs,m1,(s2 g2 (by rintro rfl;exact e (h.inj _ _ _ (Ex m1) (Ex hg)))).trans m2,m3,m4⟩
 ·intro b' E sz gen n xs hb'
  by_cases e:b'=b
  ·subst e;rw[zm hblt] at hb';simp at hb'
  ·rw[zo (fun e'=>e e'.symm)] at hb';obtain⟨v,zs,m1,m2,m3,m4,m5⟩:=h.row b' E sz gen n xs hb';refine⟨v,zs,m1,?_,m3,m4,m5⟩;obtain⟨q1,q2⟩:=m2;refine⟨q1,?_⟩;rcases q2 with q2|⟨g3,cap,cur,rfl,q3,q4,q5⟩
   ·exact .inl q2
   ·refine .inr ⟨g3,cap,cur,rfl,q3,(s2 g3 ?_).trans q4,q5⟩;rintro rfl;refine e (h.inj _ _ _ ?_ (Ex hg));rw[I5 m5 m1];rfl
 ·intro b' hh es hb'
  by_cases e:b'=b
  ·subst e;rw[zm hblt] at hb';simp at hb'
  ·rw[zo (fun e'=>e e'.symm)] at hb';obtain⟨g2,en,ck,m1,m2,m3⟩:=h.map b' hh es hb';exact⟨g2,en,ck,m1,(s2 g2 (by rintro rfl;exact e (h.inj _ _ _ (Ex m1) (Ex hg)))).trans m2,m3⟩
 ·intro b' hb';rw[zh] at hb';exact h.fresh b' hb'
theorem vN {C:Cx} {G:Gh} {I:Al} {objs:List OB} {w:World} (hin:In C G I w) (h:MemOk G I objs w) (b g o:Nat) (E sz gen n cap:Nat) (xs vs:List AV) (us:List Value) (hb:objs[b]? = some (.orow E sz gen n xs)) (hg:G.cur b=some (gen,.slice (some ⟨g,0,none⟩) n cap))
  (hd:Ad G I vs us) (h1:∀u∈us,u.oneCell'=true) (hl:o+vs.length<=xs.length) :
  In C G I (w.setCells g o us)/\MemOk G I (objs.set b (.orow E sz gen n (D4 xs o vs))) (w.setCells g o us):=by
 obtain⟨v,ys,k1,k2,k3,k4,k5⟩:=h.row b E sz gen n xs hb;obtain rfl:v=.slice (some ⟨g,0,none⟩) n cap:=by rw[hg] at k1;injection k1 with k1;injection k1 with _ k1;exact k1.symm
 have hown:G.own b=some g:=by rw[I5 k5 hg];rfl
 have hl1:=k3.length;have hl2:=hd.length;obtain⟨q1,q2⟩:=k2;rcases q2 with ⟨q2,_⟩|⟨g',cap',cur,q2,q3,q4,q5,q6,q7,q8⟩
 ·cases q2
 injection q2 with q2 _ q9;injection q2 with q2;injection q2 with q2;subst q2 q9
 have hcl:n*sz<=cur.size:=by rw[q7];exact Nat.mul_le_mul_right _ q5
 have q4':w.heap[g]? = some (.cells cur.toList.toArray E (0,0)):=by simpa using q4
 have hcl':cur.toList.length=cur.size:=by simp
 obtain⟨s1,s2,s3,s4,s5,s6⟩:=P7 g E us o w cur.toList q4' (by omega);have hblt:b<objs.length:=by
  rcases zx b objs.length with h0|h0
  ·exact h0
  ·rw[qq h0] at hb;cases hb
 refine⟨⟨s4.trans hin.os,s5.trans hin.tape,s6.trans hin.output,by rw[s3];exact hin.size,fun k hk hn=>?_,hin.imm,hin.news,hin.blk,hin.gh⟩,⟨?_,?_,?_,?_,h.inj,fun b' g' hb'=>by rw[s3];exact h.lt b' g' hb',h.apart,?_⟩⟩
 ·rcases hin.blk b g hown with ho|ho
  ·rw[s2 k (by rintro rfl;exact hn ho)];exact hin.block k hk hn
  ·rw[s2 k (by omega)];exact hin.block k hk hn
 ·intro g' o' v hi;rw[<-h.imm g' o' v hi];simp only[World.cell?];rw[s2 g' (by rintro rfl;exact h.apart b _ o' v hown hi)]
 ·intro b' T' cs' hb';have e:b'≠b:=by
   rintro rfl;rw[zm hblt] at hb';simp at hb'
  rw[zo (fun e'=>e e'.symm)] at hb';obtain⟨g2,zs,m1,m2,m3,m4⟩:=h.box b' T' cs' hb';exact⟨g2,zs,m1,(s2 g2 (by rintro rfl;exact e (h.inj _ _ _ (Ex m1) hown))).trans m2,m3,m4⟩
 ·intro b' E' sz' gen' n' xs' hb'
  by_cases e:b'=b
  ·subst e;rw[zm hblt] at hb';simp only[zy.injEq,OB.orow.injEq] at hb';obtain⟨rfl,rfl,rfl,rfl,rfl⟩:=hb';have hsp:(D4 ys o us).length=ys.length:=by
    unfold D4;simp only[zg,zq,zr];omega
   refine⟨_,D4 ys o us,hg,⟨by rw[hsp];exact q1,.inr ⟨g,cap,_,rfl,q3,s1,q5,q6,?_,?_⟩⟩,?_,?_,k5⟩
   ·rw[<-q7];simp only[List.size_toArray,zg,zq,zr];omega
   ·rw[List.toList_toArray];unfold D4;have e1:cur.toList.take o=ys.take o:=by rw[<-q8,List.take_take,Nat.min_eq_left (by omega)]
    have e2:ys.drop (o+us.length)=(cur.toList.drop (o+us.length)).take (n*sz - (o+us.length)):=by rw[<-q8,List.drop_take]
    rw[List.take_append,zg,zq,e2,e1];rw[List.take_of_length_le (by simp only[zg,zq];omega)];rw[show n*sz - (min o cur.toList.length+us.length)=n*sz - (o+us.length) by omega]
   ·unfold D4;rw[hl2];exact Ad.append (Ad.append (Ad.take o k3) hd) (Ad.drop _ k3)
   ·intro u hu;unfold D4 at hu;rcases qc.1 hu with hu|hu
    ·rcases qc.1 hu with hu|hu
     ·exact k4 u (xe hu)
     ·exact h1 u hu
    ·exact k4 u (xr hu)
  ·rw[zo (fun e'=>e e'.symm)] at hb';obtain⟨v,zs,m1,m2,m3,m4,m5⟩:=h.row b' E' sz' gen' n' xs' hb';refine⟨v,zs,m1,?_,m3,m4,m5⟩;obtain⟨q1',q2'⟩:=m2;refine⟨q1',?_⟩;rcases q2' with q2' | ⟨g3,cap',cur',rfl,q3',q4'',q5'⟩
   ·exact .inl q2'
   ·refine .inr ⟨g3,cap',cur',rfl,q3',(s2 g3 ?_).trans q4'',q5'⟩;rintro rfl;refine e (h.inj _ _ _ ?_ hown);rw[I5 m5 m1];rfl
 ·intro b' hh es hb';have e:b'≠b:=by
   rintro rfl;rw[zm hblt] at hb';simp at hb'
  rw[zo (fun e'=>e e'.symm)] at hb';obtain⟨g2,en,ck,m1,m2,m3⟩:=h.map b' hh es hb';exact⟨g2,en,ck,m1,(s2 g2 (by rintro rfl;exact e (h.inj _ _ _ (Ex m1) hown))).trans m2,m3⟩
 ·intro b' hb';rw[zh] at hb';exact h.fresh b' hb'
section
variable {P:Program} {C:Cx} {type:TypeId} {objs:List OB} {tm:List AV} {K:List OB->AV->Prop}
theorem YP (x:Operand) (h:K objs ((Ag x).ev tm)):AH P C (.move x) type objs tm K :=
 Bk _ h fun G I a w hm hd op ho ht=>⟨a.eval x,by unfold execOp;rw[ho];rfl,Ar hd x⟩
theorem dL (x:Operand) (h:K objs ((Ag x).ev tm)):AH P C (.assign x) type objs tm K :=
 Bk _ h fun G I a w hm hd op ho ht=>⟨a.eval x,by unfold execOp;rw[ho];rfl,Ar hd x⟩
theorem YQ (c x y:Operand) (t:Bool) (hc:(Ag c).ev tm=.b t) (h1:t=true->K objs ((Ag x).ev tm)) (h2:t=false->K objs ((Ag y).ev tm)):AH P C (.pick c x y) type objs tm K:=by
 cases t with
 | true=>
  refine Bk _ (h1 rfl) fun G I a w hm hd op ho ht=>?_;have:=Ar hd c;rw[hc] at this;simp only[Ab] at this;exact⟨a.eval x,by unfold execOp;rw[ho];simp[this,asBool],Ar hd x⟩
 | false=>
  refine Bk _ (h2 rfl) fun G I a w hm hd op ho ht=>?_;have:=Ar hd c;rw[hc] at this;simp only[Ab] at this;exact⟨a.eval y,by unfold execOp;rw[ho];simp[this,asBool],Ar hd y⟩
theorem JM (G:Gh) (I:Al):∀ys:List Value,Ad G I (ys.map Fh) ys
 | []=>Ad.nil
 | y::ys=>Ad.cons (SE G I y) (JM G I ys)
theorem bG (T:TypeId) (i:TypeInfo) (z:Value) (hi:P.info? T=some i) (hz:i.zero=some z) (h1:(z.cells.toList.all (·.oneCell'))=true)
  (h:K (objs++[.box T (z.cells.toList.map Fh)]) (.p objs.length 0)):AH P C (.alloc T) type objs tm K:=by
 intro G I a w hin hm hd op next Q ho ht hn;obtain⟨G',k1,k2,k3,k4⟩:=QR hin hm T (z.cells.toList.map Fh) z.cells (JM G I _) (fun u hu=>(zw.1 h1) u hu);refine EV (w':=w.alloc (.cells z.cells T)) (y:=.pointer (some ⟨w.heap.size,0,none⟩)) ?_ (hn _ _ _ _ _ _ h k1 (Al.le.refl I) k2 k3 k4);unfold execOp;rw[ho];simp[Instr.alloc,zeroValue,typeInfo,hi,hz,newVar,newRow]
theorem sF (T:TypeId) (x:Operand) (h1:((Ag x).ev tm).flat=true) (h:K (objs++[.box T ((Ag x).ev tm).cells]) (.p objs.length 0)):AH P C (.box T x) type objs tm K:=by
 intro G I a w hin hm hd op next Q ho ht hn;obtain⟨d1,d2⟩:=Mr (Ar hd x) h1;obtain⟨G',k1,k2,k3,k4⟩:=QR hin hm T _ (a.eval x).cells d1 d2;refine EV (w':=w.alloc (.cells (a.eval x).cells T)) (y:=.pointer (some ⟨w.heap.size,0,none⟩)) ?_ (hn _ _ _ _ _ _ h k1 (Al.le.refl I) k2 k3 k4);unfold execOp;rw[ho];simp[Instr.box,newVar,newRow]
theorem CG (g j:Nat) (o:Nat):(⟨g,o,none⟩:Addr).add j=⟨g,o+j,none⟩:=Addr.add_mid g o j
theorem bK (T:TypeId) (x:Operand) (d:TypeDesc) (hu:P.underlying T=some d) (hr:d.isRow=false) (b off:Nat) (B:TypeId) (cs:List AV) (v:AV) (hx:(Ag x).ev tm=.p b off) (hb:objs[b]? = some (.box B cs)) (hc:cs[off]? = some v)
  (h:K objs v):AH P C (.load T x) type objs tm K :=
 Bk _ h fun G I a w hm hd op ho ht=>by
  have h1:=Ar hd x;rw[hx] at h1;simp only[Ab] at h1;obtain⟨g,hg,he⟩:=h1;obtain⟨g',ys,k1,k2,k3,k4⟩:=hm.box b B cs hb;obtain rfl:g=g':=zy.inj (hg.symm.trans k1);obtain⟨y,hy,hyd⟩:=Ad.get off k3 hc;refine⟨y,?_,hyd⟩;have hcell:w.cell? ⟨g,off,none⟩=some y:=by rw[cell_of_row w g off _ B (0,0) k2];simpa using hy
  unfold execOp;rw[ho];have hagg:(isAgg T).run P w=.ok false w:=by
   unfold isAgg;rw[Sem.run_bind,run_underlying hu w]
   cases d<;>simp_all
  simp[Instr.loadAt,Instr.sureAddr,he,loadVar,hagg,load,Sem.run,hcell]
theorem bL (T:TypeId) (x:Operand) (d:TypeDesc) (hu:P.underlying T=some d) (hr:d.isRow=true) (sz:Nat) (hs:(P.info? T).map (·.size)=some sz) (b off:Nat) (B:TypeId) (cs:List AV) (hx:(Ag x).ev tm=.p b off) (hb:objs[b]? = some (.box B cs)) (hc:off+sz<=cs.length)
  (h:K objs (.agg ((cs.drop off).take sz))):AH P C (.load T x) type objs tm K :=
 Bk _ h fun G I a w hm hd op ho ht=>by
  have h1:=Ar hd x;rw[hx] at h1;simp only[Ab] at h1;obtain⟨g,hg,he⟩:=h1;obtain⟨g',ys,k1,k2,k3,k4⟩:=hm.box b B cs hb;obtain rfl:g=g':=zy.inj (hg.symm.trans k1);have hl:=k3.length;refine⟨.agg ((ys.drop off).take sz).toArray,?_,?_⟩
  ·unfold execOp;rw[ho];have:=run_loadAt_mid (P:=P) w g off T ((ys.drop off).take sz) d ?_ hu hr (by rw[hs];simp;omega)
   ·simp[he,this]
   ·intro j v hj;rw[cell_of_row w g (off+j) _ B (0,0) k2];rw[xw] at hj
    split at hj
    ·simpa[jx] using hj
    ·cases hj
  ·simp only[Ab];exact⟨_,rfl,Ad.take sz (Ad.drop off k3),fun u hu=>k4 u (xr (xe hu))⟩
theorem dO (T:TypeId) (x:Operand) (d:TypeDesc) (hu:P.underlying T=some d) (hr:d.isRow=false) (xs:List AV) (j:Nat) (v:AV) (hx:(Ag x).ev tm=.prow xs j) (hc:xs[j]? = some v)
  (h:K objs v):AH P C (.load T x) type objs tm K :=
 Bk _ h fun G I a w hm hd op ho ht=>by
  have h1:=Ar hd x;rw[hx] at h1;simp only[Ab] at h1;obtain⟨g,off,ys,he,k3,k4,k5⟩:=h1;obtain⟨y,hy,hyd⟩:=Ad.get j k3 hc;refine⟨y,?_,hyd⟩;have hcell:=hm.imm _ _ _ (k5 j y hy);unfold execOp;rw[ho];have hagg:(isAgg T).run P w=.ok false w:=by
   unfold isAgg;rw[Sem.run_bind,run_underlying hu w]
   cases d<;>simp_all
  simp[Instr.loadAt,Instr.sureAddr,he,loadVar,hagg,load,Sem.run,hcell]
theorem dQ (T:TypeId) (x:Operand) (d:TypeDesc) (hu:P.underlying T=some d) (hr:d.isRow=true) (sz:Nat) (hs:(P.info? T).map (·.size)=some sz) (xs:List AV) (j:Nat) (hx:(Ag x).ev tm=.prow xs j) (hc:j+sz<=xs.length)
  (h:K objs (.agg ((xs.drop j).take sz))):AH P C (.load T x) type objs tm K :=
 Bk _ h fun G I a w hm hd op ho ht=>by
  have h1:=Ar hd x;rw[hx] at h1;simp only[Ab] at h1;obtain⟨g,off,ys,he,k3,k4,k5⟩:=h1;have hl:=k3.length;refine⟨.agg ((ys.drop j).take sz).toArray,?_,?_⟩
  ·unfold execOp;rw[ho];have:=run_loadAt_mid (P:=P) w g (off+j) T ((ys.drop j).take sz) d ?_ hu hr (by rw[hs];simp;omega)
   ·simp[he,this]
   ·intro i v hi;rw[xw] at hi
    split at hi
    ·rw[jx] at hi;rw[Nat.add_assoc];exact hm.imm _ _ _ (k5 (j+i) v hi)
    ·cases hi
  ·simp only[Ab];exact⟨_,rfl,Ad.take sz (Ad.drop j k3),fun u hu=>k4 u (xr (xe hu))⟩
theorem bM (T:TypeId) (x y:Operand) (sz:Nat) (hs:(P.info? T).map (·.size)=some sz) (b off:Nat) (B:TypeId) (cs:List AV) (hx:(Ag x).ev tm=.p b off) (hb:objs[b]? = some (.box B cs)) (hf:((Ag y).ev tm).flat=true) (hv:((Ag y).ev tm).cells.length=sz) (hc:off+sz<=cs.length)
  (h:K (objs.set b (.box B (D4 cs off ((Ag y).ev tm).cells))) .u):AH P C (.store T x y) type objs tm K:=by
 intro G I a w hin hm hd op next Q ho ht hn;obtain⟨d1,d2⟩:=Mr (Ar hd y) hf;have h1:=Ar hd x;rw[hx] at h1;simp only[Ab] at h1;obtain⟨g,hg,he⟩:=h1;obtain⟨k1,k2⟩:=vM hin hm b g off B cs _ _ hb hg d1 d2 (by rw[hv];exact hc);obtain⟨g',ys,m1,m2,m3,m4⟩:=hm.box b B cs hb;obtain rfl:g=g':=zy.inj (hg.symm.trans m1);have hl:=d1.length;have hl2:=m3.length;have hst:=run_storeCells_cells (P:=P) g off (a.eval y).cells.toList 0 w (fun j hj=>by
   rw[cell_of_row w g (off+0+j) _ B (0,0) m2];simp;omega) (fun j hj=>by simp[World.frozen?,m2]) d2
 refine TD (w':=w.setCells g off (a.eval y).cells.toList) ?_ (hn _ .u undef G I _ h (Gh.le.refl G) (Al.le.refl I) k1 k2 (by simp[Ab]));unfold execOp;rw[ho]
 cases hi:P.info? T with
 | none=>rw[hi] at hs;cases hs
 | some i=>
  rw[hi] at hs;have hsz:i.size=sz:=by simpa using hs
  have hz:(a.eval y).cells.size=i.size:=by rw[hsz,<-hv,hl];simp
  simp[Instr.storeAt,Instr.sureAddr,he,storeVar,sizeOf,typeInfo,hi,hz];simp at hst;simp[hst]
theorem Oo {G:Gh} {I:Al} {objs:List OB} {w:World} (hm:MemOk G I objs w) {b gen j E sz n:Nat} {xs:List AV} {y:Value} (hb:objs[b]? = some (.orow E sz gen n xs)) (h:Ab G I (.porow b gen j) y) :
  ∃g cap ys,y=.pointer (some ⟨g,j,none⟩)/\G.cur b=some (gen,.slice (some ⟨g,0,none⟩) n cap)/\Ad G I xs ys/\(∀u∈ys,u.oneCell'=true)/\(∀i u,ys[i]? = some u->w.cell? ⟨g,i,none⟩=some u)/\∃cur,w.heap[g]? = some (.cells cur E (0,0))/\n*sz<=cur.size/\ys.length=n*sz:=by
 simp only[Ab] at h;obtain⟨g',v,g,k1,k2,rfl,k3⟩:=h;obtain⟨v',ys,m1,m2,m3,m4,m5⟩:=hm.row b E sz gen n xs hb;rw[k1] at m1;injection m1 with m1;injection m1 with m1 m6
 subst m1 m6;obtain⟨n',c,rfl⟩:=k3 rfl;have m2':=m2;obtain⟨q1,q2⟩:=m2;rcases q2 with ⟨q2,_⟩|⟨g',cap',cur,q2,q3,q4,q5,q6,q7,q8⟩
 ·cases q2
 injection q2 with q2 q10 q9;injection q2 with q2;injection q2 with q2;subst q2 q9 q10
 refine⟨g,c,ys,rfl,k1,m3,m4,fun i u hi=>?_,cur,q4,by rw[q7];exact Nat.mul_le_mul_right _ q5,q1⟩;have:=m2'.cells (g:=g) rfl i u hi
 rwa [CG,Nat.zero_add] at this
theorem dN (T:TypeId) (x:Operand) (d:TypeDesc) (hu:P.underlying T=some d) (hr:d.isRow=false) (b gen j E sz n:Nat) (xs:List AV) (v:AV) (hx:(Ag x).ev tm=.porow b gen j) (hb:objs[b]? = some (.orow E sz gen n xs)) (hc:xs[j]? = some v)
  (h:K objs v):AH P C (.load T x) type objs tm K :=
 Bk _ h fun G I a w hm hd op ho ht=>by
  have h1:=Ar hd x;rw[hx] at h1;obtain⟨g,cap,ys,he,k2,k3,k4,k5,_⟩:=Oo hm hb h1;obtain⟨y,hy,hyd⟩:=Ad.get j k3 hc;refine⟨y,?_,hyd⟩;have hcell:=k5 j y hy;unfold execOp;rw[ho];have hagg:(isAgg T).run P w=.ok false w:=by
   unfold isAgg;rw[Sem.run_bind,run_underlying hu w]
   cases d<;>simp_all
  simp[Instr.loadAt,Instr.sureAddr,he,loadVar,hagg,load,Sem.run,hcell]
theorem dP (T:TypeId) (x:Operand) (d:TypeDesc) (hu:P.underlying T=some d) (hr:d.isRow=true) (s:Nat) (hs:(P.info? T).map (·.size)=some s) (b gen j E sz n:Nat) (xs:List AV) (hx:(Ag x).ev tm=.porow b gen j) (hb:objs[b]? = some (.orow E sz gen n xs)) (hc:j+s<=xs.length)
  (h:K objs (.agg ((xs.drop j).take s))):AH P C (.load T x) type objs tm K :=
 Bk _ h fun G I a w hm hd op ho ht=>by
  have h1:=Ar hd x;rw[hx] at h1;obtain⟨g,cap,ys,he,k2,k3,k4,k5,_⟩:=Oo hm hb h1;have hl:=k3.length;refine⟨.agg ((ys.drop j).take s).toArray,?_,?_⟩
  ·unfold execOp;rw[ho];have:=run_loadAt_mid (P:=P) w g j T ((ys.drop j).take s) d ?_ hu hr (by rw[hs];simp;omega)
   ·simp[he,this]
   ·intro i v hi;rw[xw] at hi
    split at hi
    ·rw[jx] at hi;exact k5 (j+i) v hi
    ·cases hi
  ·simp only[Ab];exact⟨_,rfl,Ad.take s (Ad.drop j k3),fun u hu=>k4 u (xr (xe hu))⟩
theorem dR (T:TypeId) (x y:Operand) (s:Nat) (hs:(P.info? T).map (·.size)=some s) (b gen j E sz n:Nat) (xs:List AV) (hx:(Ag x).ev tm=.porow b gen j) (hb:objs[b]? = some (.orow E sz gen n xs)) (hf:((Ag y).ev tm).flat=true) (hv:((Ag y).ev tm).cells.length=s) (hc:j+s<=xs.length)
  (h:K (objs.set b (.orow E sz gen n (D4 xs j ((Ag y).ev tm).cells))) .u):AH P C (.store T x y) type objs tm K:=by
 intro G I a w hin hm hd op next Q ho ht hn;obtain⟨d1,d2⟩:=Mr (Ar hd y) hf;have h1:=Ar hd x;rw[hx] at h1;obtain⟨g,cap,ys,he,hg,k3,k4,k5,cur,hcur,hcs,hys⟩:=Oo hm hb h1;obtain⟨k1,k2⟩:=vN hin hm b g j E sz gen n cap xs _ _ hb hg d1 d2 (by rw[hv];exact hc);have hl:=d1.length;have hl2:=k3.length;have hst:=run_storeCells_cells (P:=P) g j (a.eval y).cells.toList 0 w (fun i hi=>by
   have hi':j+i<cur.size:=by omega
   rw[show j+0+i=j+i by omega,cell_of_row w g (j+i) cur E (0,0) hcur];simp[hi']) (fun i hi=>by simp[World.frozen?,hcur]) d2
 refine TD (w':=w.setCells g j (a.eval y).cells.toList) ?_ (hn _ .u undef G I _ h (Gh.le.refl G) (Al.le.refl I) k1 k2 (by simp[Ab]));unfold execOp;rw[ho]
 cases hi:P.info? T with
 | none=>rw[hi] at hs;cases hs
 | some i=>
  rw[hi] at hs;have hsz:i.size=s:=by simpa using hs
  have hz:(a.eval y).cells.size=i.size:=by rw[hsz,<-hv,hl];simp
  simp[Instr.storeAt,Instr.sureAddr,he,storeVar,sizeOf,typeInfo,hi,hz];simp at hst;simp[hst]
theorem LF (x:Operand) (h:K objs ((Ag x).ev tm)) (hx:(∃b o,(Ag x).ev tm=.p b o)\/(∃xs j,(Ag x).ev tm=.prow xs j)\/(∃f fs cs,(Ag x).ev tm=.fn f fs cs)\/(∃b gen j,(Ag x).ev tm=.porow b gen j)):AH P C (.nilCheck x) type objs tm K :=
 Bk _ h fun G I a w hm hd op ho ht=>by
  have h1:=Ar hd x;refine⟨a.eval x,?_,h1⟩;rcases hx with ⟨b,o,e⟩|⟨xs,j,e⟩|⟨f,fs,cs,e⟩|⟨b,gen,j,e⟩
  ·rw[e] at h1;simp only[Ab] at h1;obtain⟨g,_,he⟩:=h1;unfold execOp;rw[ho];simp[he]
  ·rw[e] at h1;simp only[Ab] at h1;obtain⟨g,off,ys,he,_⟩:=h1;unfold execOp;rw[ho];simp[he]
  ·rw[e] at h1;simp only[Ab] at h1;obtain⟨us,ys,he,_⟩:=h1;unfold execOp;rw[ho];simp[he]
  ·rw[e] at h1;simp only[Ab] at h1;obtain⟨_,_,g,_,_,he,_⟩:=h1;unfold execOp;rw[ho];simp[he]
theorem iU (f:FuncId) (fs cs:Array Operand) (h:K objs (.fn f (fs.toList.map fun x=>(Ag x).ev tm) (cs.toList.map fun x=>(Ag x).ev tm))):AH P C (.makeFunc (.func f) fs cs) type objs tm K :=
 Bk _ h fun G I a w hm hd op ho ht=>by
  refine⟨.func (.func f) (fs.map a.eval) (cs.map a.eval),by unfold execOp;rw[ho];simp[Instr.makeFunc],?_⟩;have key:∀l:List Operand,Ad G I (l.map fun x=>(Ag x).ev tm) (l.map a.eval):=by
   intro l
   induction l with
   | nil=>exact Ad.nil
   | cons x l ih=>exact Ad.cons (Ar hd x) ih
  simp only[Ab];exact⟨(fs.map a.eval).toList,(cs.map a.eval).toList,by rw[Array.toArray_toList,Array.toArray_toList],by simpa using key fs.toList,by simpa using key cs.toList⟩
theorem gX (x:Operand) (k:Nat) (cs:List AV) (v:AV) (hx:(Ag x).ev tm=.tup cs) (hk:cs[k]? = some v) (h:K objs v):AH P C (.extract x k) type objs tm K :=
 Bk _ h fun G I a w hm hd op ho ht=>by
  have h1:=Ar hd x;rw[hx] at h1;simp only[Ab] at h1;obtain⟨ys,he,k3⟩:=h1;obtain⟨y,hy,hyd⟩:=Ad.get k k3 hk;exact⟨y,by unfold execOp;rw[ho];simp[he,Instr.extract,hy],hyd⟩
theorem sN (T:TypeId) (x:Operand) (t:Bool) (hx:(Ag x).ev tm=.b t) (h:K objs (.b (!t))):AH P C (.unOp .not T x) type objs tm K :=
 Bk _ h fun G I a w hm hd op ho ht=>by
  have h1:=Ar hd x;rw[hx] at h1;simp only[Ab] at h1;exact⟨.bool (!t),by unfold execOp;rw[ho];simp[h1,Op.unary],by simp[Ab]⟩
theorem sM (T:TypeId) (x:Operand) (k:IntKind) (n:Int) (hx:(Ag x).ev tm=.i k n) (h:K objs (.i k (k.wrap (0 - n)))):AH P C (.unOp .neg T x) type objs tm K :=
 Bk _ h fun G I a w hm hd op ho ht=>by
  have h1:=Ar hd x;rw[hx] at h1;simp only[Ab] at h1;exact⟨.int k (k.wrap (0 - n)),by unfold execOp;rw[ho];simp[h1,Op.unary,Op.intArith],by simp[Ab]⟩
theorem sH (src dst:TypeId) (x:Operand) (k j:IntKind) (n:Int) (hs:(P.underlying src).isSome=true) (hu:P.underlying dst=some (.int k)) (hx:(Ag x).ev tm=.i j n) (h:K objs (.i k (k.wrap n))):AH P C (.convert src dst x) type objs tm K :=
 Bk _ h fun G I a w hm hd op ho ht=>by
  have h1:=Ar hd x;rw[hx] at h1;simp only[Ab] at h1;exact⟨.int k (k.wrap n),by
   have hk:P.intKind dst=k:=by simp[Program.intKind,hu]
   have hr:=run_convert_int (P:=P) w src dst j n hs (by rw[hk];exact hu);rw[hk] at hr;unfold execOp;rw[ho];simp only[h1];simp[hr],by simp[Ab]⟩
theorem sI (src dst:TypeId) (x:Operand) (l:List UInt8) (hs:P.underlying src=some .string) (hu:P.underlying dst=some .string) (hx:(Ag x).ev tm=.s l) (h:K objs (.s l)):AH P C (.convert src dst x) type objs tm K :=
 Bk _ h fun G I a w hm hd op ho ht=>by
  have h1:=Ar hd x;rw[hx] at h1;simp only[Ab] at h1;exact⟨.string ⟨l.toArray⟩,by unfold execOp;rw[ho];simp[h1,convert,run_underlying hs,run_underlying hu],by simp[Ab]⟩
end
def WU:BinOp->Int->Int->Option Bool
 | .eql,x,y=>some (decide (x=y))
 | .neq,x,y=>some (decide (¬x=y))
 | .lss,x,y=>some (decide (x<y))
 | .leq,x,y=>some (decide (x<=y))
 | .gtr,x,y=>some (decide (y<x))
 | .geq,x,y=>some (decide (y<=x))
 | _,_,_=>none
def Xs:BinOp->Int->Int->Option Int
 | .add,x,y=>some (x+y)
 | .sub,x,y=>some (x - y)
 | .mul,x,y=>some (x*y)
 | _,_,_=>none
theorem Qy {α:Type} [DecidableEq α] (x y:α):(x==y)=decide (x=y):=by by_cases h:x=y<;>simp[h]
def svb (tm:List AV) (d:Int):Option Operand->Option Int
 | none=>some d
 | some x=>match (Ag x).ev tm with
  | .i _ n=>some n
  | _=>none
theorem cT (l:List UInt8) (i j:Nat):(⟨l.toArray⟩:ByteArray).extract i j=⟨((l.take j).drop i).toArray⟩:=by
 have:((⟨l.toArray⟩:ByteArray).extract i j).data=((l.take j).drop i).toArray:=by
  rw[ByteArray.data_extract]
  apply Array.ext'
  simp only[Array.toList_extract,List.extract_eq_take_drop];rw[List.drop_take]
 exact congrArg ByteArray.mk this
theorem G7 (l:List UInt8):(⟨l.toArray⟩:ByteArray).size=l.length:=by simp[ByteArray.size]
section
variable {P:Program} {C:Cx} {type:TypeId} {objs:List OB} {tm:List AV} {K:List OB->AV->Prop}
theorem Js (op:BinOp) (T T':TypeId) (x y:Operand) (k:IntKind) (m n:Int) (r:Bool) (hx:(Ag x).ev tm=.i k m) (hy:(Ag y).ev tm=.i k n) (hr:WU op m n=some r) (h:K objs (.b r)):AH P C (.binOp op T x y T') type objs tm K :=
 Bk _ h fun G I a w hm hd o ho ht=>by
  have h1:=Ar hd x;rw[hx] at h1;simp only[Ab] at h1;have h2:=Ar hd y;rw[hy] at h2;simp only[Ab] at h2;refine⟨.bool r,?_,by simp[Ab]⟩;unfold execOp;rw[ho]
  cases op<;>simp only[WU,zy.injEq,reduceCtorEq] at hr<;>subst hr<;>simp[h1,h2,eqGuard,binOp,Op.intCmp,bne,Qy]
theorem NH (op:BinOp) (T T':TypeId) (x y:Operand) (k:IntKind) (m n r:Int) (hx:(Ag x).ev tm=.i k m) (hy:(Ag y).ev tm=.i k n) (hr:Xs op m n=some r) (h:K objs (.i k (k.wrap r))):AH P C (.binOp op T x y T') type objs tm K :=
 Bk _ h fun G I a w hm hd o ho ht=>by
  have h1:=Ar hd x;rw[hx] at h1;simp only[Ab] at h1;have h2:=Ar hd y;rw[hy] at h2;simp only[Ab] at h2;refine⟨.int k (k.wrap r),?_,by simp[Ab]⟩;unfold execOp;rw[ho]
  cases op<;>simp only[Xs,zy.injEq,reduceCtorEq] at hr<;>subst hr<;>simp[h1,h2,eqGuard,binOp,Op.intArith]
theorem sO (T T':TypeId) (x y:Operand) (k:IntKind) (m n:Int) (hx:(Ag x).ev tm=.i k m) (hy:(Ag y).ev tm=.i k n) (hn:n≠0) (h:K objs (.i k (k.wrap (m.tdiv n)))):AH P C (.binOp .quo T x y T') type objs tm K :=
 Bk _ h fun G I a w hm hd o ho ht=>by
  have h1:=Ar hd x;rw[hx] at h1;simp only[Ab] at h1;have h2:=Ar hd y;rw[hy] at h2;simp only[Ab] at h2;refine⟨.int k (k.wrap (m.tdiv n)),?_,by simp[Ab]⟩;unfold execOp;rw[ho];simp[h1,h2,eqGuard,binOp,Op.intDiv,hn]
theorem sP (T T':TypeId) (x y:Operand) (k:IntKind) (m n:Int) (hx:(Ag x).ev tm=.i k m) (hy:(Ag y).ev tm=.i k n) (hn:n≠0) (h:K objs (.i k (m.tmod n))):AH P C (.binOp .rem T x y T') type objs tm K :=
 Bk _ h fun G I a w hm hd o ho ht=>by
  have h1:=Ar hd x;rw[hx] at h1;simp only[Ab] at h1;have h2:=Ar hd y;rw[hy] at h2;simp only[Ab] at h2;refine⟨.int k (m.tmod n),?_,by simp[Ab]⟩;unfold execOp;rw[ho];simp[h1,h2,eqGuard,binOp,Op.intDiv,hn]
theorem sG (T T':TypeId) (x y:Operand) (l m:List UInt8) (hx:(Ag x).ev tm=.s l) (hy:(Ag y).ev tm=.s m) (hl:l.length+m.length<=9223372036854775807) (h:K objs (.s (l++m))):AH P C (.binOp .add T x y T') type objs tm K :=
 Bk _ h fun G I a w hm hd o ho ht=>by
  have h1:=Ar hd x;rw[hx] at h1;simp only[Ab] at h1;have h2:=Ar hd y;rw[hy] at h2;simp only[Ab] at h2;refine⟨.string ⟨(l++m).toArray⟩,?_,by simp[Ab]⟩;unfold execOp;rw[ho];have hs:=run_string_add_sum (P:=P) w ⟨l.toArray⟩ ⟨m.toArray⟩ (by rw[G7,G7];exact hl);have e:(⟨l.toArray⟩++⟨m.toArray⟩:ByteArray)=⟨(l++m).toArray⟩:=by
   apply ByteArray.ext;simp[ByteArray.data_append]
  rw[e] at hs;simp[h1,h2,eqGuard,binOp,hs]
theorem QW (op:BinOp) (T T':TypeId) (x y:Operand) (l m:List UInt8) (r:Bool) (hx:(Ag x).ev tm=.s l) (hy:(Ag y).ev tm=.s m) (hr:(op=.eql/\r=decide (l=m))\/(op=.neq/\r=decide (¬l=m))) (h:K objs (.b r)):AH P C (.binOp op T x y T') type objs tm K :=
 Bk _ h fun G I a w hm hd o ho ht=>by
  have h1:=Ar hd x;rw[hx] at h1;simp only[Ab] at h1;have h2:=Ar hd y;rw[hy] at h2;simp only[Ab] at h2;refine⟨.bool r,?_,by simp[Ab]⟩;unfold execOp;rw[ho];have e1:(⟨l.toArray⟩:ByteArray).toList=l:=by rw[ByteArray.toList_eq]
  have e2:(⟨m.toArray⟩:ByteArray).toList=m:=by rw[ByteArray.toList_eq]
  rcases hr with ⟨rfl,rfl⟩|⟨rfl,rfl⟩<;>(simp[h1,h2,eqGuard,binOp,Op.stringOp,e1,e2,Qy];try (by_cases hh:l=m<;>simp[hh]))
theorem QU (op:BinOp) (T T':TypeId) (x y:Operand) (l m r:Bool) (hu:P.underlying T=some .bool) (hx:(Ag x).ev tm=.b l) (hy:(Ag y).ev tm=.b m) (hr:(op=.eql/\r=(l==m))\/(op=.neq/\r=!(l==m))) (h:K objs (.b r)):AH P C (.binOp op T x y T') type objs tm K :=
 Bk _ h fun G I a w hm hd o ho ht=>by
  have h1:=Ar hd x;rw[hx] at h1;simp only[Ab] at h1;have h2:=Ar hd y;rw[hy] at h2;simp only[Ab] at h2;refine⟨.bool r,?_,by simp[Ab]⟩;unfold execOp;rw[ho];have hs:=run_equal_bool (P:=P) w T l m hu;rcases hr with ⟨rfl,rfl⟩|⟨rfl,rfl⟩<;>simp[h1,h2,eqGuard,binOp,hs]
theorem sK (T:TypeId) (x y:Operand) (l:List UInt8) (k:IntKind) (n:Int) (hu:P.underlying T=some .string) (hx:(Ag x).ev tm=.s l) (hy:(Ag y).ev tm=.i k n) (h0:0<=n) (h1:n<l.length) (h:K objs (.i .u8 ((l.getD n.toNat 0).toNat:Int))):AH P C (.index T x y) type objs tm K :=
 Bk _ h fun G I a w hm hd o ho ht=>by
  have e1:=Ar hd x;rw[hx] at e1;simp only[Ab] at e1;have e2:=Ar hd y;rw[hy] at e2;simp only[Ab] at e2;refine⟨.int .u8 ((l.getD n.toNat 0).toNat:Int),?_,by simp[Ab]⟩;unfold execOp;rw[ho];have hlt:n.toNat<l.length:=by omega
  have hg:(⟨l.toArray⟩:ByteArray)[n.toNat]? = some (l.getD n.toNat 0):=by
   rw[getElem?_pos _ _ (by rw[G7];exact hlt)];rw[List.getD_eq_getElem?_getD,zk hlt];rfl
  simp[e1,e2,Instr.index,asIntOf,run_underlying hu,h0,hg]
theorem YV (T:TypeId) (x:Operand) (lo hi:Option Operand) (l:List UInt8) (i j:Int) (hu:P.underlying T=some .string) (hx:(Ag x).ev tm=.s l) (hlo:svb tm 0 lo=some i) (hhi:svb tm l.length hi=some j) (h0:0<=i) (h1:i<=j) (h2:j<=l.length)
  (h:K objs (.s ((l.take j.toNat).drop i.toNat))):AH P C (.slice T x lo hi none) type objs tm K :=
 Bk _ h fun G I a w hm hd o ho ht=>by
  have e1:=Ar hd x;rw[hx] at e1;simp only[Ab] at e1;refine⟨.string ⟨((l.take j.toNat).drop i.toNat).toArray⟩,?_,by simp[Ab]⟩;unfold execOp;rw[ho];have hsl:=G7 l;have hb:∀(d:Int) (z:Option Operand) (q:Int),svb tm d z=some q->z=none/\q=d\/∃u k,z=some u/\a.eval u=.int k q:=by
   intro d z q hz
   cases z with
   | none=>simp[svb] at hz;exact .inl ⟨rfl,hz.symm⟩
   | some u=>
    simp only[svb] at hz
    split at hz
    ·rename_i k n hn;have e:=Ar hd u;rw[hn] at e;simp only[Ab] at e;injection hz with hz;subst hz
     exact .inr ⟨u,k,rfl,e⟩
    ·cases hz
  rw[<-cT];rcases hb _ _ _ hlo with ⟨rfl,rfl⟩|⟨u,k,rfl,e2⟩<;>rcases hb _ _ _ hhi with ⟨rfl,rfl⟩|⟨v,k',rfl,e3⟩
  ·simp[e1,run_sliceAt_string w T _ _ _ _ hu,run_slice_string_all w T _ hu,hsl]
  ·have:=run_slice_string_h (P:=P) w T ⟨l.toArray⟩ hu k' j (by omega) (by rw[hsl];exact h2);simp[e1,e3,run_sliceAt_string w T _ _ _ _ hu,this]
  ·have:=run_slice_string_l (P:=P) w T ⟨l.toArray⟩ hu k i (by omega) (by rw[hsl];omega);simp[e1,e2,run_sliceAt_string w T _ _ _ _ hu,this,hsl]
  ·have:=run_slice_string (P:=P) w T ⟨l.toArray⟩ k k' i j hu h0 h1 (by rw[hsl];exact h2);simp[e1,e2,e3,run_sliceAt_string w T _ _ _ _ hu,this]
theorem YO (T:TypeId) (ty:TypeId) (x:Operand) (l:List UInt8) (hu:P.underlying T=some .string) (hx:(Ag x).ev tm=.s l) (h:K objs (.i .i64 l.length)):AH P C (.call { callee:=.builtin .len,args:=#[x],argTypes:=#[T] }) ty objs tm K :=
 Bk _ h fun G I a w hm hd o ho ht=>by
  have e1:=Ar hd x;rw[hx] at e1;simp only[Ab] at e1;refine⟨.int .i64 l.length,?_,by simp[Ab]⟩;unfold execOp;rw[ho];simp[resolve,invoke,builtin,Builtin.len_,e1,run_underlying hu,goInt,G7]
theorem LL (T:TypeId) (ty:TypeId) (x:Operand) (e:TypeId) (n:Nat) (hu:P.underlying T=some (.slice e))
  (hx:(∃xs,(Ag x).ev tm=.row n xs)\/((Ag x).ev tm=.nil/\n=0)\/(∃z,(Ag x).ev tm=.zn z/\n=0)\/(∃b gen E sz xs,(Ag x).ev tm=.orow b gen/\objs[b]? = some (.orow E sz gen n xs))) (h:K objs (.i .i64 n)):AH P C (.call { callee:=.builtin .len,args:=#[x],argTypes:=#[T] }) ty objs tm K :=
 Bk _ h fun G I a w hm hd o ho ht=>by
  have e1:=Ar hd x;refine⟨.int .i64 n,?_,by simp[Ab]⟩;have hv:∃q c,a.eval x=.slice q n c:=by
   rcases hx with ⟨xs,hx⟩|⟨hx,rfl⟩|⟨z,hx,rfl⟩|⟨b,gen,E,sz,xs,hx,hb⟩
   ·rw[hx] at e1;simp only[Ab] at e1;obtain⟨q,c,ys,e,_⟩:=e1;exact⟨q,c,e⟩
   ·rw[hx] at e1;simp only[Ab] at e1;exact⟨none,0,e1⟩
   ·rw[hx] at e1;simp only[Ab] at e1;obtain⟨q,c,e,_⟩:=e1;exact⟨q,c,e⟩
   ·rw[hx] at e1;simp only[Ab] at e1;obtain⟨g',v,k1,k2,k3,_⟩:=e1;obtain⟨v',ys,m1,m2,_⟩:=hm.row b E sz gen n xs hb;rw[k1] at m1;injection m1 with m1;injection m1 with m1 m3
    have:=k3 m1.symm;subst m3;rcases m2.2 with ⟨rfl,rfl⟩|⟨g,cap,cur,rfl,_⟩
    ·exact⟨none,0,this⟩
    ·exact⟨_,cap,this⟩
  obtain⟨q,c,hv⟩:=hv;unfold execOp;rw[ho];simp[resolve,invoke,builtin,Builtin.len_,hv,run_underlying hu,goInt]
theorem NI (T:TypeId) (x:Operand) (k:Nat) (fs:Array Field) (f:Field) (fz:Nat) (v:AV) (hu:P.underlying T=some (.struct fs)) (hf:fs[k]? = some f) (hz:(P.info? f.type).map (·.size)=some fz) (h0:fz≠0)
  (hv:(∃b off,(Ag x).ev tm=.p b off/\v=.p b (off+f.offset))\/(∃xs j,(Ag x).ev tm=.prow xs j/\v=.prow xs (j+f.offset))\/(∃b gen j,(Ag x).ev tm=.porow b gen j/\v=.porow b gen (j+f.offset))) (h:K objs v):AH P C (.fieldAddr T x k) type objs tm K :=
 Bk _ h fun G I a w hm hd o ho ht=>by
  have e1:=Ar hd x;have hp:∀g o':Nat,(fieldPlace ⟨g,o',none⟩ f).run P w=.ok ⟨g,o'+f.offset,none⟩ w:=by
   intro g o'
   cases hi:P.info? f.type with
   | none=>rw[hi] at hz;cases hz
   | some i=>
    rw[hi] at hz;have:i.size≠0:=by simp at hz;omega
    simp[fieldPlace,sizeOf,typeInfo,hi,this,CG]
  rcases hv with ⟨b,off,hx,rfl⟩|⟨xs,j,hx,rfl⟩|⟨b,gen,j,hx,rfl⟩
  ·rw[hx] at e1;simp only[Ab] at e1;obtain⟨g,hg,he⟩:=e1;refine⟨.pointer (some ⟨g,off+f.offset,none⟩),?_,by simp only[Ab];exact⟨g,hg,rfl⟩⟩;unfold execOp;rw[ho];simp[Instr.fieldAt,run_underlying hu,hf,he,Instr.sureAddr,hp]
  ·rw[hx] at e1;simp only[Ab] at e1;obtain⟨g,off,ys,he,k3,k4,k5⟩:=e1;refine⟨.pointer (some ⟨g,off+(j+f.offset),none⟩),?_,by simp only[Ab];exact⟨g,off,ys,rfl,k3,k4,k5⟩⟩;unfold execOp;rw[ho];simp[Instr.fieldAt,run_underlying hu,hf,he,Instr.sureAddr,hp,Nat.add_assoc]
  ·rw[hx] at e1;simp only[Ab] at e1;obtain⟨g',v,g,hg,hle,he,hn⟩:=e1;refine⟨.pointer (some ⟨g,j+f.offset,none⟩),?_,by simp only[Ab];exact⟨g',v,g,hg,hle,rfl,hn⟩⟩;unfold execOp;rw[ho];simp[Instr.fieldAt,run_underlying hu,hf,he,Instr.sureAddr,hp]
theorem KN {T:TypeId} {d:TypeDesc} (hu:P.underlying T=some d) (w:World):(isAgg T).run P w=.ok d.isRow w:=by
 unfold isAgg;rw[Sem.run_bind,run_underlying hu w]
 cases d<;>simp_all
theorem YK (T:TypeId) (x:Operand) (k:Nat) (fs:Array Field) (f:Field) (d:TypeDesc) (cs:List AV) (v:AV) (hu:P.underlying T=some (.struct fs)) (hf:fs[k]? = some f) (hd':P.underlying f.type=some d) (hr:d.isRow=false) (hx:(Ag x).ev tm=.agg cs) (hc:cs[f.offset]? = some v) (h:K objs v) :
  AH P C (.field T x k) type objs tm K :=
 Bk _ h fun G I a w hm hd o ho ht=>by
  have e1:=Ar hd x;rw[hx] at e1;simp only[Ab] at e1;obtain⟨ys,he,k3,k4⟩:=e1;obtain⟨y,hy,hyd⟩:=Ad.get f.offset k3 hc;refine⟨y,?_,hyd⟩;unfold execOp;rw[ho];simp[Instr.field,run_underlying hu,hf,he,asAgg,part,KN hd',hr,hy]
theorem YL (T:TypeId) (x:Operand) (k:Nat) (fs:Array Field) (f:Field) (d:TypeDesc) (sz:Nat) (cs:List AV) (hu:P.underlying T=some (.struct fs)) (hf:fs[k]? = some f) (hd':P.underlying f.type=some d) (hr:d.isRow=true) (hs:(P.info? f.type).map (·.size)=some sz) (hx:(Ag x).ev tm=.agg cs) (h:K objs (.agg ((cs.drop f.offset).take sz))) :
  AH P C (.field T x k) type objs tm K :=
 Bk _ h fun G I a w hm hd o ho ht=>by
  have e1:=Ar hd x;rw[hx] at e1;simp only[Ab] at e1;obtain⟨ys,he,k3,k4⟩:=e1;refine⟨.agg ((ys.drop f.offset).take sz).toArray,?_,?_⟩
  ·unfold execOp;rw[ho]
   cases hi:P.info? f.type with
   | none=>rw[hi] at hs;cases hs
   | some i=>
    rw[hi] at hs;have hsz:i.size=sz:=by simpa using hs
    have e:(ys.toArray.extract f.offset (f.offset+sz))=((ys.drop f.offset).take sz).toArray:=by
     apply Array.ext'
     simp[List.extract_eq_take_drop]
    simp[Instr.field,run_underlying hu,hf,he,asAgg,part,KN hd',hr,sizeOf,typeInfo,hi,hsz]
  ·simp only[Ab];exact⟨_,rfl,Ad.take sz (Ad.drop _ k3),fun u hu=>k4 u (xr (xe hu))⟩
theorem YM (T:TypeId) (x y:Operand) (e:TypeId) (sz len b off:Nat) (k:IntKind) (i:Int) (hu:P.underlying T=some (.array len e)) (hs:(P.info? e).map (·.size)=some sz) (hx:(Ag x).ev tm=.p b off) (hy:(Ag y).ev tm=.i k i) (h0:0<=i) (h1:i<len) (hz:0<sz)
  (h:K objs (.p b (off+i.toNat*sz))):AH P C (.indexAddr T x y) type objs tm K :=
 Bk _ h fun G I a w hm hd o ho ht=>by
  have e1:=Ar hd x;rw[hx] at e1;simp only[Ab] at e1;have e2:=Ar hd y;rw[hy] at e2;simp only[Ab] at e2;obtain⟨g,hg,he⟩:=e1;refine⟨.pointer (some ⟨g,off+i.toNat*sz,none⟩),?_,?_⟩
  ·unfold execOp;rw[ho]
   cases hi:P.info? e with
   | none=>rw[hi] at hs;cases hs
   | some inf=>
    rw[hi] at hs;have hsz:inf.size=sz:=by simpa using hs
    simp[e2,he,Instr.indexAt,asIntOf,run_underlying hu,h0,h1,sizeOf,typeInfo,hi,hsz,CG,Instr.sureAddr]
  ·simp only[Ab];exact⟨g,hg,rfl⟩
theorem sJ (T:TypeId) (x y:Operand) (e:TypeId) (sz n:Nat) (xs:List AV) (k:IntKind) (i:Int) (hu:P.underlying T=some (.slice e)) (hs:(P.info? e).map (·.size)=some sz) (hx:(Ag x).ev tm=.row n xs) (hy:(Ag y).ev tm=.i k i) (h0:0<=i) (h1:i<n) (hl:n*sz<=xs.length) (hz:0<sz)
  (h:K objs (.prow xs (i.toNat*sz))):AH P C (.indexAddr T x y) type objs tm K :=
 Bk _ h fun G I a w hm hd o ho ht=>by
  have e1:=Ar hd x;rw[hx] at e1;simp only[Ab] at e1;have e2:=Ar hd y;rw[hy] at e2;simp only[Ab] at e2;obtain⟨q,c,ys,he,hnc,k3,k4,k5⟩:=e1;have hlen:=k3.length;have hpos:0<n*sz:=Nat.mul_pos (by omega) hz;have hy0:ys[0]? = some (ys[0]'(by omega)):=zk (by omega);obtain⟨g,off,rfl,_⟩:=k5 0 _ hy0;refine⟨.pointer (some ⟨g,off+i.toNat*sz,none⟩),?_,?_⟩
  ·unfold execOp;rw[ho]
   cases hi:P.info? e with
   | none=>rw[hi] at hs;cases hs
   | some inf=>
    rw[hi] at hs;have hsz:inf.size=sz:=by simpa using hs
    simp[e2,he,Instr.indexAt,asIntOf,run_underlying hu,h0,h1,sizeOf,typeInfo,hi,hsz,CG]
  ·simp only[Ab];refine⟨g,off,ys,rfl,k3,k4,fun j u hj=>?_⟩;obtain⟨g',off',e,hi⟩:=k5 j u hj;injection e with e;injection e with e4 e5;subst e4 e5
   exact hi
theorem YN (T:TypeId) (x y:Operand) (e:TypeId) (sz n b gen E:Nat) (xs:List AV) (k:IntKind) (i:Int) (hu:P.underlying T=some (.slice e)) (hs:(P.info? e).map (·.size)=some sz) (hx:(Ag x).ev tm=.orow b gen) (hb:objs[b]? = some (.orow E sz gen n xs)) (hy:(Ag y).ev tm=.i k i) (h0:0<=i) (h1:i<n)
  (h:K objs (.porow b gen (i.toNat*sz))):AH P C (.indexAddr T x y) type objs tm K :=
 Bk _ h fun G I a w hm hd o ho ht=>by
  have e1:=Ar hd x;rw[hx] at e1;simp only[Ab] at e1;have e2:=Ar hd y;rw[hy] at e2;simp only[Ab] at e2;obtain⟨g',v,k1,k2,k3,_⟩:=e1;obtain⟨v',ys,m1,m2,m3,m4,m5⟩:=hm.row b E sz gen n xs hb;rw[k1] at m1;injection m1 with m1;injection m1 with m1 m6
  have hv:=k3 m1.symm;subst m1 m6;rcases m2.2 with ⟨rfl,h0'⟩|⟨g,cap,cur,rfl,q3,q4,q5,q6,q7,q8⟩
  ·omega
  refine⟨.pointer (some ⟨g,i.toNat*sz,none⟩),?_,?_⟩
  ·unfold execOp;rw[ho]
   cases hi:P.info? e with
   | none=>rw[hi] at hs;cases hs
   | some inf=>
    rw[hi] at hs;have hsz:inf.size=sz:=by simpa using hs
    simp[e2,hv,Instr.indexAt,asIntOf,run_underlying hu,h0,h1,sizeOf,typeInfo,hi,hsz,CG]
  ·simp only[Ab];exact⟨_,_,g,k1,ze _,rfl,fun _=>⟨n,cap,rfl⟩⟩
end
end Go.Proofs.YtbgaknpnkcdbfaaGreatDoor.Sx
