/- The texts that the proofs of these statements reach, in their order, as few files. -/
import Derived.Shelf.Strings.Builder1
import Derived.Shelf.Strings.Builder2
import Derived.Shelf.Small.Utf8
import Derived.Shelf.Small.Strs
import Derived.Shelf.Small.Wraps
import Derived.Shelf.Strings.BuilderF
import Derived.Shelf.Strings.BuilderK
import Derived.Shelf.Utf8.RuneCount
import Derived.Shelf.Strings.Builder2Cap
import Derived.Shelf.Strconv.Itoa0
import Derived.Shelf.Strconv.Itoa1
import Derived.Shelf.LaysM
import Derived.Shelf.Strconv.Itoa2
import Derived.Shelf.Strconv.Itoa3
import Derived.Shelf.Strings.Search1
import Derived.Shelf.Strings.Search2
import Derived.Shelf.Strings.Search3
import Derived.Shelf.Strings.Cut
import Derived.Shelf.Strings.Count
import Derived.Shelf.Strings.Shaped
import Derived.Shelf.Strings.Prefix
import Derived.Shelf.Strings.Split
import Derived.Shelf.Strings.Replace
import Derived.Shelf.Strings.SplitShaped
import Derived.Shelf.Unicode.Decode
import Derived.Shelf.Strings.Runes
import Derived.Shelf.Strings.RuneCount
import Derived.Shelf.Strings.IndexAny
import Derived.Shelf.Strings.AsciiSet
import Derived.Shelf.Strings.IndexAnyAll
import Derived.Shelf.Strings.Explode
import Derived.Shelf.Unicode.DecodeSlow
import Derived.Shelf.Unicode.DecodeAny
import Derived.Shelf.Strings.BuilderCap
import Derived.Test.YtbeoijfmfkifeaaGreatDoorProg
import Derived.WalkKit
import Derived.WalkLawsBesides
import Derived.WalkSmall
import Derived.WalkSpells
import Derived.Lib.Hide
import Derived.Lib.IndexAny
import Derived.ShutString
import Derived.Lib.Strings
import Derived.Deep.QuietTactic
import Derived.BigQuiet
import Derived.Laws.BytesArg
import Derived.Laws.IdiomStrings
import Derived.Lib.ConvBytes
import Derived.Lib.AppendStr
import Derived.Lib.LaidTab
import Derived.Lib.ItoaNum
import Derived.ChangeAgain
import Derived.Laws.Rows
import Derived.Lib.ItoaMem
import Derived.Lib.ItoaLen
import Derived.Lib.Walk
import Derived.Lib.ItoaWalk
import Derived.Lib.AppendIntMem
import Derived.BigCall
import Derived.BigGuard
import Derived.Test.YtbeoijfmfkifeaaGreatDoorCp2
/-
 DERIVED: THE SHELF's CONTRACTS AT THIS DUMP,IN PLAIN WORDS (tools/lay-plain.mjs out of 'TryzShelf.lean',which tools/lay-shelf.mjs wrote): THE SAME DECLARATIONS UNDER THE SAME NAMES: 'import','namespace','open','def','theorem' AND NOTHING ELSE: no command of the shelf's: FOR A HAND-IN. Each laying: the table of numbers ('.._ren') and one theorem,a field a fact of the dump's own or the kernel's comparison;each contract: ONE APPLICATION.
-/
set_option linter.unusedVariables false
set_option linter.unusedSimpArgs false
set_option maxRecDepth 100000
namespace Go.Proofs
open Go.Shelf
open Lib renaming hasPrefix->zk, indexByte->jl
def Tryz.lays137_ren:Go.Shelf.Ren:=⟨fun|137=>169|217=>189|266=>215|n=>n,fun|9=>9|5=>5|3=>3|n=>n,fun|n=>n⟩
theorem Tryz.lays137:Go.Proofs.Lays.n137 Tryz.prog Tryz.lays137_ren:={
 mixed:=by kernel_rfl
 f137:=Tryz.func169.trans (congrArg some (by kernel_rfl))
 f217:=Tryz.func189.trans (congrArg some (by kernel_rfl))
 f266:=Tryz.func215.trans (congrArg some (by kernel_rfl))
 t3:=Tryz.underlying3
 a3:=Tryz.isAgg3
 z3:=Tryz.sizeOf3
 v3:=Tryz.zeroValue3
 t5:=Tryz.underlying5
 a5:=Tryz.isAgg5
 z5:=Tryz.sizeOf5
 v5:=Tryz.zeroValue5
 t9:=Tryz.underlying9
 a9:=Tryz.isAgg9
 z9:=Tryz.sizeOf9
 v9:=Tryz.zeroValue9 }
open Go.RowKit in
/-- strings.IndexByte: "IndexByte returns the index of the first instance of c in s, or -1 if c is not present in s.": IT RETURNS 'Lib.indexByte s c'; the world is as it was. (LAID: no walk: one application.) -/
theorem Tryz.strings_IndexByte (s:ByteArray) (c:Int) (w:World) :
  Calls Tryz.prog 169 #[.string s,.int .u8 c] w fun e w'=>e=.returned (.int .i64 (jl s.data.toList c.toNat.toUInt8))/\w'=w:=Any.strings_IndexByte Tryz.lays137 s c w
def Tryz.lays103_ren:Go.Shelf.Ren:=⟨fun|103=>148|210=>176|206=>211|n=>n,fun|9=>9|4=>4|24=>170|3=>3|n=>n,fun|n=>n⟩
theorem Tryz.lays103:Go.Proofs.Lays.n103 Tryz.prog Tryz.lays103_ren:={
 mixed:=by kernel_rfl
 f103:=Tryz.func148.trans (congrArg some (by kernel_rfl))
 f206:=Tryz.func211.trans (congrArg some (by kernel_rfl))
 f210:=Tryz.func176.trans (congrArg some (by kernel_rfl))
 t3:=Tryz.underlying3
 a3:=Tryz.isAgg3
 z3:=Tryz.sizeOf3
 v3:=Tryz.zeroValue3
 t4:=Tryz.underlying4
 a4:=Tryz.isAgg4
 z4:=Tryz.sizeOf4
 v4:=Tryz.zeroValue4
 t9:=Tryz.underlying9
 a9:=Tryz.isAgg9
 z9:=Tryz.sizeOf9
 v9:=Tryz.zeroValue9
 t24:=Tryz.underlying170
 a24:=Tryz.isAgg170
 z24:=Tryz.sizeOf170
 v24:=Tryz.zeroValue170 }
open Go.RowKit in
/-- strings.CutPrefix: "CutPrefix returns s without the provided leading prefix string and reports whether it found the prefix. If s doesn't start with prefix, CutPrefix returns s, false. If prefix is the empty string, CutPrefix returns s, true.": IT RETURNS '(Lib.trimPrefix s p, Lib.hasPrefix s p)'; the world is as it was. (LAID: no walk: one application.) -/
theorem Tryz.strings_CutPrefix (s p:ByteArray) (w:World) :
  Calls Tryz.prog 148 #[.string s,.string p] w fun e w'=>e=.returned (.tuple #[.string ⟨(Lib.trimPrefix s.data.toList p.data.toList).toArray⟩,.bool (zk s.data.toList p.data.toList)])/\w'=w:=Any.strings_CutPrefix Tryz.lays103 s p w
def Tryz.laysM171_ren:Go.Shelf.Ren:=⟨fun|171=>175|243=>210|246=>220|283=>226|284=>227|285=>228|286=>229|129=>236|317=>235|318=>237|319=>238|320=>239|337=>241|338=>242|n=>n,fun|3=>3|9=>9|2=>2|4=>4|171=>221|0=>0|53=>31|37=>25|5=>5|173=>224|212=>229|51=>210|20=>20|213=>230|46=>128|232=>238|233=>239|n=>n,fun|17=>1|18=>4|19=>5|n=>n⟩
theorem Tryz.laysM171:Go.Proofs.LaysM.n171 Tryz.prog Tryz.laysM171_ren:={
 mixed:=by kernel_rfl
 f129:=Tryz.func236.trans (congrArg some (by kernel_rfl))
 f171:=Tryz.func175.trans (congrArg some (by kernel_rfl))
 f243:=Tryz.func210.trans (congrArg some (by kernel_rfl))
 f246:=Tryz.func220.trans (congrArg some (by kernel_rfl))
 f283:=Tryz.func226.trans (congrArg some (by kernel_rfl))
 f284:=Tryz.func227.trans (congrArg some (by kernel_rfl))
 f285:=Tryz.func228.trans (congrArg some (by kernel_rfl))
 f286:=Tryz.func229.trans (congrArg some (by kernel_rfl))
 f317:=Tryz.func235.trans (congrArg some (by kernel_rfl))
 f318:=Tryz.func237.trans (congrArg some (by kernel_rfl))
 f319:=Tryz.func238.trans (congrArg some (by kernel_rfl))
 f320:=Tryz.func239.trans (congrArg some (by kernel_rfl))
 f337:=Tryz.func241.trans (congrArg some (by kernel_rfl))
 f338:=Tryz.func242.trans (congrArg some (by kernel_rfl))
 t0:=Tryz.underlying0
 a0:=Tryz.isAgg0
 z0:=Tryz.sizeOf0
 v0:=Tryz.zeroValue0
 t2:=Tryz.underlying2
 a2:=Tryz.isAgg2
 z2:=Tryz.sizeOf2
 v2:=Tryz.zeroValue2
 t3:=Tryz.underlying3
 a3:=Tryz.isAgg3
 z3:=Tryz.sizeOf3
 v3:=Tryz.zeroValue3
 t4:=Tryz.underlying4
 a4:=Tryz.isAgg4
 z4:=Tryz.sizeOf4
 v4:=Tryz.zeroValue4
 t5:=Tryz.underlying5
 a5:=Tryz.isAgg5
 z5:=Tryz.sizeOf5
 v5:=Tryz.zeroValue5
 t9:=Tryz.underlying9
 a9:=Tryz.isAgg9
 z9:=Tryz.sizeOf9
 v9:=Tryz.zeroValue9
 t20:=Tryz.underlying20
 a20:=Tryz.isAgg20
 z20:=Tryz.sizeOf20
 v20:=Tryz.zeroValue20
 t37:=Tryz.underlying25
 a37:=Tryz.isAgg25
 z37:=Tryz.sizeOf25
 v37:=Tryz.zeroValue25
 t46:=Tryz.underlying128
 a46:=Tryz.isAgg128
 z46:=Tryz.sizeOf128
 v46:=Tryz.zeroValue128
 t51:=Tryz.underlying210
 a51:=Tryz.isAgg210
 z51:=Tryz.sizeOf210
 v51:=Tryz.zeroValue210
 t53:=Tryz.underlying31
 a53:=Tryz.isAgg31
 z53:=Tryz.sizeOf31
 v53:=Tryz.zeroValue31
 t171:=Tryz.underlying221
 a171:=Tryz.isAgg221
 z171:=Tryz.sizeOf221
 v171:=Tryz.zeroValue221
 t173:=Tryz.underlying224
 a173:=Tryz.isAgg224
 z173:=Tryz.sizeOf224
 v173:=Tryz.zeroValue224
 t212:=Tryz.underlying229
 a212:=Tryz.isAgg229
 z212:=Tryz.sizeOf229
 v212:=Tryz.zeroValue229
 t213:=Tryz.underlying230
 a213:=Tryz.isAgg230
 z213:=Tryz.sizeOf230
 t232:=Tryz.underlying238
 a232:=Tryz.isAgg238
 z232:=Tryz.sizeOf238
 v232:=Tryz.zeroValue238
 t233:=Tryz.underlying239
 a233:=Tryz.isAgg239
 z233:=Tryz.sizeOf239
 v233:=Tryz.zeroValue239
 g17:=by kernel_rfl
 g18:=by kernel_rfl
 g19:=by kernel_rfl
 i0:=by kernel_rfl
 i2:=by kernel_rfl
 i3:=by kernel_rfl
 i4:=by kernel_rfl
 i5:=by kernel_rfl
 i9:=by kernel_rfl
 i20:=by kernel_rfl
 i37:=by kernel_rfl
 i46:=by kernel_rfl
 i51:=by kernel_rfl
 i53:=by kernel_rfl
 i171:=by kernel_rfl
 i173:=by kernel_rfl
 i212:=by kernel_rfl
 i232:=by kernel_rfl
 i233:=by kernel_rfl
 m17:=by kernel_rfl
 m18:=by kernel_rfl
 m19:=by kernel_rfl }
open Go.RowKit Go.Sort Go.Lib in
/-- strconv.Itoa: "Itoa is equivalent to FormatInt(int64(i), 10).": i's DECIMAL NUMERAL ('Lib.itoa': a '-' where i is negative, then the digits), FOR EVERY int. The world behind the call: the world before it, new blocks behind the heap (the library's 'var a [24]byte'), draws. (LAID: no walk: one application.) -/
theorem Tryz.strconv_Itoa (n : Int) (h0 : -9223372036854775808 ≤ n) (h1 : n ≤ 9223372036854775807) (w : World) (htab : Lib.TabIs Tryz.prog w "internal/strconv.uint64pow10" .u64 Lib.pow10Tab) :
  Calls Tryz.prog 175 #[.int .i64 n] w fun e w'=>e=.returned (.string ⟨(Lib.itoa n).toArray⟩)/\∃k os,w'=grow (w.drewN k) os:=Any.strconv_Itoa Tryz.laysM171 n h0 h1 w htab
def Tryz.lays219_ren:Go.Shelf.Ren:=⟨fun|219=>155|217=>189|225=>190|224=>191|267=>192|266=>215|314=>216|n=>n,fun|9=>9|3=>3|4=>4|5=>5|46=>128|146=>211|51=>210|n=>n,fun|1=>0|n=>n⟩
theorem Tryz.lays219:Go.Proofs.Lays.n219 Tryz.prog Tryz.lays219_ren:={
 mixed:=by kernel_rfl
 f217:=Tryz.func189.trans (congrArg some (by kernel_rfl))
 f219:=Tryz.func155.trans (congrArg some (by kernel_rfl))
 f224:=Tryz.func191.trans (congrArg some (by kernel_rfl))
 f225:=Tryz.func190.trans (congrArg some (by kernel_rfl))
 f266:=Tryz.func215.trans (congrArg some (by kernel_rfl))
 f267:=Tryz.func192.trans (congrArg some (by kernel_rfl))
 f314:=Tryz.func216.trans (congrArg some (by kernel_rfl))
 t3:=Tryz.underlying3
 a3:=Tryz.isAgg3
 z3:=Tryz.sizeOf3
 v3:=Tryz.zeroValue3
 t4:=Tryz.underlying4
 a4:=Tryz.isAgg4
 z4:=Tryz.sizeOf4
 v4:=Tryz.zeroValue4
 t5:=Tryz.underlying5
 a5:=Tryz.isAgg5
 z5:=Tryz.sizeOf5
 v5:=Tryz.zeroValue5
 t9:=Tryz.underlying9
 a9:=Tryz.isAgg9
 z9:=Tryz.sizeOf9
 v9:=Tryz.zeroValue9
 t46:=Tryz.underlying128
 a46:=Tryz.isAgg128
 z46:=Tryz.sizeOf128
 v46:=Tryz.zeroValue128
 t51:=Tryz.underlying210
 a51:=Tryz.isAgg210
 z51:=Tryz.sizeOf210
 v51:=Tryz.zeroValue210
 t146:=Tryz.underlying211
 a146:=Tryz.isAgg211
 z146:=Tryz.sizeOf211
 v146:=Tryz.zeroValue211
 g1:=by kernel_rfl }
open Go.RowKit Go.Lib in
/-- internal/stringslite.Index (what strings.Index calls) AT A substr OF ONE BYTE c: IT RETURNS 'Lib.indexByte s c'; the world is as it was. (LAID: no walk: one application.) -/
theorem Tryz.stringslite_Index_one (s:ByteArray) (c:UInt8) (w:World) :
  Calls Tryz.prog 155 #[.string s,.string ⟨#[c]⟩] w fun e w'=>e=.returned (.int .i64 (jl s.data.toList c))/\w'=w:=Any.stringslite_Index_one Tryz.lays219 s c w
def Tryz.lays144_ren:Go.Shelf.Ren:=⟨fun|144=>173|143=>207|219=>155|217=>189|225=>190|224=>191|267=>192|266=>215|314=>216|n=>n,fun|9=>9|4=>4|3=>3|5=>5|46=>128|146=>211|51=>210|n=>n,fun|1=>0|n=>n⟩
theorem Tryz.lays144:Go.Proofs.Lays.n144 Tryz.prog Tryz.lays144_ren:={
 mixed:=by kernel_rfl
 f143:=Tryz.func207.trans (congrArg some (by kernel_rfl))
 f144:=Tryz.func173.trans (congrArg some (by kernel_rfl))
 f217:=Tryz.func189.trans (congrArg some (by kernel_rfl))
 f219:=Tryz.func155.trans (congrArg some (by kernel_rfl))
 f224:=Tryz.func191.trans (congrArg some (by kernel_rfl))
 f225:=Tryz.func190.trans (congrArg some (by kernel_rfl))
 f266:=Tryz.func215.trans (congrArg some (by kernel_rfl))
 f267:=Tryz.func192.trans (congrArg some (by kernel_rfl))
 f314:=Tryz.func216.trans (congrArg some (by kernel_rfl))
 t3:=Tryz.underlying3
 a3:=Tryz.isAgg3
 z3:=Tryz.sizeOf3
 v3:=Tryz.zeroValue3
 t4:=Tryz.underlying4
 a4:=Tryz.isAgg4
 z4:=Tryz.sizeOf4
 v4:=Tryz.zeroValue4
 t5:=Tryz.underlying5
 a5:=Tryz.isAgg5
 z5:=Tryz.sizeOf5
 v5:=Tryz.zeroValue5
 t9:=Tryz.underlying9
 a9:=Tryz.isAgg9
 z9:=Tryz.sizeOf9
 v9:=Tryz.zeroValue9
 t46:=Tryz.underlying128
 a46:=Tryz.isAgg128
 z46:=Tryz.sizeOf128
 v46:=Tryz.zeroValue128
 t51:=Tryz.underlying210
 a51:=Tryz.isAgg210
 z51:=Tryz.sizeOf210
 v51:=Tryz.zeroValue210
 t146:=Tryz.underlying211
 a146:=Tryz.isAgg211
 z146:=Tryz.sizeOf211
 v146:=Tryz.zeroValue211
 g1:=by kernel_rfl }
open Go.RowKit Go.Lib in
/-- strings.Contains: "Contains reports whether substr is within s.": AT A substr OF ONE BYTE c: IT RETURNS 'decide (0 ≤ Lib.indexByte s c)'; the world is as it was. (LAID: no walk: one application.) -/
theorem Tryz.strings_Contains_one (s:ByteArray) (c:UInt8) (w:World) :
  Calls Tryz.prog 173 #[.string s,.string ⟨#[c]⟩] w fun e w'=>e=.returned (.bool (decide (0<=jl s.data.toList c)))/\w'=w:=Any.strings_Contains_one Tryz.lays144 s c w
def Tryz.lays99_ren:Go.Shelf.Ren:=⟨fun|99=>208|206=>211|n=>n,fun|9=>9|4=>4|3=>3|n=>n,fun|n=>n⟩
theorem Tryz.lays99:Go.Proofs.Lays.n99 Tryz.prog Tryz.lays99_ren:={
 mixed:=by kernel_rfl
 f99:=Tryz.func208.trans (congrArg some (by kernel_rfl))
 f206:=Tryz.func211.trans (congrArg some (by kernel_rfl))
 t3:=Tryz.underlying3
 a3:=Tryz.isAgg3
 z3:=Tryz.sizeOf3
 v3:=Tryz.zeroValue3
 t4:=Tryz.underlying4
 a4:=Tryz.isAgg4
 z4:=Tryz.sizeOf4
 v4:=Tryz.zeroValue4
 t9:=Tryz.underlying9
 a9:=Tryz.isAgg9
 z9:=Tryz.sizeOf9
 v9:=Tryz.zeroValue9 }
open Go.RowKit Go.Lib in
/-- strings.HasPrefix: "HasPrefix reports whether the string s begins with prefix.": IT RETURNS 'Lib.hasPrefix s prefix'; the world is as it was. (LAID: no walk: one application.) -/
theorem Tryz.strings_HasPrefix (s p:ByteArray) (w:World) :
  Calls Tryz.prog 208 #[.string s,.string p] w fun e w'=>e=.returned (.bool (zk s.data.toList p.data.toList))/\w'=w:=Any.strings_HasPrefix Tryz.lays99 s p w
def Tryz.laysM146_ren:Go.Shelf.Ren:=⟨fun|146=>180|221=>213|268=>224|138=>221|143=>207|195=>230|197=>223|218=>231|219=>155|260=>233|217=>189|225=>190|224=>191|267=>192|266=>215|314=>216|n=>n,fun|9=>9|31=>145|3=>3|4=>4|0=>0|105=>218|21=>21|5=>5|46=>128|119=>233|139=>236|138=>235|146=>211|51=>210|n=>n,fun|1=>0|3=>2|4=>3|n=>n⟩
theorem Tryz.laysM146:Go.Proofs.LaysM.n146 Tryz.prog Tryz.laysM146_ren:={
 mixed:=by kernel_rfl
 f138:=Tryz.func221.trans (congrArg some (by kernel_rfl))
 f143:=Tryz.func207.trans (congrArg some (by kernel_rfl))
 f146:=Tryz.func180.trans (congrArg some (by kernel_rfl))
 f195:=Tryz.func230.trans (congrArg some (by kernel_rfl))
 f197:=Tryz.func223.trans (congrArg some (by kernel_rfl))
 f217:=Tryz.func189.trans (congrArg some (by kernel_rfl))
 f218:=Tryz.func231.trans (congrArg some (by kernel_rfl))
 f219:=Tryz.func155.trans (congrArg some (by kernel_rfl))
 f221:=Tryz.func213.trans (congrArg some (by kernel_rfl))
 f224:=Tryz.func191.trans (congrArg some (by kernel_rfl))
 f225:=Tryz.func190.trans (congrArg some (by kernel_rfl))
 f260:=Tryz.func233.trans (congrArg some (by kernel_rfl))
 f266:=Tryz.func215.trans (congrArg some (by kernel_rfl))
 f267:=Tryz.func192.trans (congrArg some (by kernel_rfl))
 f268:=Tryz.func224.trans (congrArg some (by kernel_rfl))
 f314:=Tryz.func216.trans (congrArg some (by kernel_rfl))
 t0:=Tryz.underlying0
 a0:=Tryz.isAgg0
 z0:=Tryz.sizeOf0
 v0:=Tryz.zeroValue0
 t3:=Tryz.underlying3
 a3:=Tryz.isAgg3
 z3:=Tryz.sizeOf3
 v3:=Tryz.zeroValue3
 t4:=Tryz.underlying4
 a4:=Tryz.isAgg4
 z4:=Tryz.sizeOf4
 v4:=Tryz.zeroValue4
 t5:=Tryz.underlying5
 a5:=Tryz.isAgg5
 z5:=Tryz.sizeOf5
 v5:=Tryz.zeroValue5
 t9:=Tryz.underlying9
 a9:=Tryz.isAgg9
 z9:=Tryz.sizeOf9
 v9:=Tryz.zeroValue9
 t21:=Tryz.underlying21
 a21:=Tryz.isAgg21
 z21:=Tryz.sizeOf21
 v21:=Tryz.zeroValue21
 t31:=Tryz.underlying145
 a31:=Tryz.isAgg145
 z31:=Tryz.sizeOf145
 v31:=Tryz.zeroValue145
 t46:=Tryz.underlying128
 a46:=Tryz.isAgg128
 z46:=Tryz.sizeOf128
 v46:=Tryz.zeroValue128
 t51:=Tryz.underlying210
 a51:=Tryz.isAgg210
 z51:=Tryz.sizeOf210
 v51:=Tryz.zeroValue210
 t105:=Tryz.underlying218
 a105:=Tryz.isAgg218
 z105:=Tryz.sizeOf218
 v105:=Tryz.zeroValue218
 t119:=Tryz.underlying233
 a119:=Tryz.isAgg233
 z119:=Tryz.sizeOf233
 t138:=Tryz.underlying235
 a138:=Tryz.isAgg235
 z138:=Tryz.sizeOf235
 v138:=Tryz.zeroValue235
 t139:=Tryz.underlying236
 a139:=Tryz.isAgg236
 z139:=Tryz.sizeOf236
 v139:=Tryz.zeroValue236
 t146:=Tryz.underlying211
 a146:=Tryz.isAgg211
 z146:=Tryz.sizeOf211
 v146:=Tryz.zeroValue211
 g1:=by kernel_rfl
 g3:=by kernel_rfl
 g4:=by kernel_rfl
 i0:=by kernel_rfl
 i3:=by kernel_rfl
 i4:=by kernel_rfl
 i5:=by kernel_rfl
 i9:=by kernel_rfl
 i21:=by kernel_rfl
 i31:=by kernel_rfl
 i46:=by kernel_rfl
 i51:=by kernel_rfl
 i105:=by kernel_rfl
 i138:=by kernel_rfl
 i139:=by kernel_rfl
 i146:=by kernel_rfl
 m1:=by kernel_rfl
 s1_3:=fun w h=>Go.Proofs.cell_of_shapedOpen_int (zero:=#[.int .i64 0]) (t:=3) h (of_decide_eq_true (by kernel_rfl)) (by kernel_rfl) rfl (by kernel_rfl) (by kernel_rfl) Tryz.underlying3
 m3:=by kernel_rfl
 m4:=by kernel_rfl }
open Go.RowKit Go.Lib in
/-- strings.Split, sep not empty. (LAID: no walk: one application.) -/
theorem Tryz.strings_Split_shaped (s sep:ByteArray) (w:World) (h:w.ShapedOpen Tryz.prog) (hs:s.size<4294967281) (h1:1<=sep.size) :
  Calls Tryz.prog 180 #[.string s,.string sep] w fun e w'=>
   e=.returned (.slice (some ⟨w.heap.size,0,none⟩) (Lib.countB s sep+1) (Lib.countB s sep+1))/\w'=w.alloc (.cells ((Lib.splitB sep 0 (Lib.countB s sep) s).map Value.string).toArray 9):=Any.strings_Split_shaped Tryz.laysM146 s sep w h hs h1
def Tryz.laysM155_ren:Go.Shelf.Ren:=⟨fun|155=>179|154=>212|138=>221|165=>222|143=>207|166=>214|197=>223|169=>183|195=>230|218=>231|240=>225|241=>232|219=>155|260=>233|276=>234|277=>240|217=>189|225=>190|224=>191|267=>192|266=>215|314=>216|n=>n,fun|9=>9|3=>3|4=>4|72=>183|0=>0|76=>206|105=>218|21=>21|5=>5|70=>181|20=>20|37=>25|75=>205|127=>208|164=>226|46=>128|119=>233|139=>236|138=>235|146=>211|51=>210|80=>188|n=>n,fun|1=>0|3=>2|4=>3|n=>n⟩
theorem Tryz.laysM155:Go.Proofs.LaysM.n155 Tryz.prog Tryz.laysM155_ren:={
 mixed:=by kernel_rfl
 f138:=Tryz.func221.trans (congrArg some (by kernel_rfl))
 f143:=Tryz.func207.trans (congrArg some (by kernel_rfl))
 f154:=Tryz.func212.trans (congrArg some (by kernel_rfl))
 f155:=Tryz.func179.trans (congrArg some (by kernel_rfl))
 f165:=Tryz.func222.trans (congrArg some (by kernel_rfl))
 f166:=Tryz.func214.trans (congrArg some (by kernel_rfl))
 f169:=Tryz.func183.trans (congrArg some (by kernel_rfl))
 f195:=Tryz.func230.trans (congrArg some (by kernel_rfl))
 f197:=Tryz.func223.trans (congrArg some (by kernel_rfl))
 f217:=Tryz.func189.trans (congrArg some (by kernel_rfl))
 f218:=Tryz.func231.trans (congrArg some (by kernel_rfl))
 f219:=Tryz.func155.trans (congrArg some (by kernel_rfl))
 f224:=Tryz.func191.trans (congrArg some (by kernel_rfl))
 f225:=Tryz.func190.trans (congrArg some (by kernel_rfl))
 f240:=Tryz.func225.trans (congrArg some (by kernel_rfl))
 f241:=Tryz.func232.trans (congrArg some (by kernel_rfl))
 f260:=Tryz.func233.trans (congrArg some (by kernel_rfl))
 f266:=Tryz.func215.trans (congrArg some (by kernel_rfl))
 f267:=Tryz.func192.trans (congrArg some (by kernel_rfl))
 f276:=Tryz.func234.trans (congrArg some (by kernel_rfl))
 f277:=Tryz.func240.trans (congrArg some (by kernel_rfl))
 f314:=Tryz.func216.trans (congrArg some (by kernel_rfl))
 t0:=Tryz.underlying0
 a0:=Tryz.isAgg0
 z0:=Tryz.sizeOf0
 v0:=Tryz.zeroValue0
 t3:=Tryz.underlying3
 a3:=Tryz.isAgg3
 z3:=Tryz.sizeOf3
 v3:=Tryz.zeroValue3
 t4:=Tryz.underlying4
 a4:=Tryz.isAgg4
 z4:=Tryz.sizeOf4
 v4:=Tryz.zeroValue4
 t5:=Tryz.underlying5
 a5:=Tryz.isAgg5
 z5:=Tryz.sizeOf5
 v5:=Tryz.zeroValue5
 t9:=Tryz.underlying9
 a9:=Tryz.isAgg9
 z9:=Tryz.sizeOf9
 v9:=Tryz.zeroValue9
 t20:=Tryz.underlying20
 a20:=Tryz.isAgg20
 z20:=Tryz.sizeOf20
 v20:=Tryz.zeroValue20
 t21:=Tryz.underlying21
 a21:=Tryz.isAgg21
 z21:=Tryz.sizeOf21
 v21:=Tryz.zeroValue21
 t37:=Tryz.underlying25
 a37:=Tryz.isAgg25
 z37:=Tryz.sizeOf25
 v37:=Tryz.zeroValue25
 t46:=Tryz.underlying128
 a46:=Tryz.isAgg128
 z46:=Tryz.sizeOf128
 v46:=Tryz.zeroValue128
 t51:=Tryz.underlying210
 a51:=Tryz.isAgg210
 z51:=Tryz.sizeOf210
 v51:=Tryz.zeroValue210
 t70:=Tryz.underlying181
 a70:=Tryz.isAgg181
 z70:=Tryz.sizeOf181
 v70:=Tryz.zeroValue181
 t72:=Tryz.underlying183
 a72:=Tryz.isAgg183
 z72:=Tryz.sizeOf183
 v72:=Tryz.zeroValue183
 t75:=Tryz.underlying205
 a75:=Tryz.isAgg205
 z75:=Tryz.sizeOf205
 v75:=Tryz.zeroValue205
 t76:=Tryz.underlying206
 a76:=Tryz.isAgg206
 z76:=Tryz.sizeOf206
 v76:=Tryz.zeroValue206
 t105:=Tryz.underlying218
 a105:=Tryz.isAgg218
 z105:=Tryz.sizeOf218
 v105:=Tryz.zeroValue218
 t119:=Tryz.underlying233
 a119:=Tryz.isAgg233
 z119:=Tryz.sizeOf233
 t127:=Tryz.underlying208
 a127:=Tryz.isAgg208
 z127:=Tryz.sizeOf208
 v127:=Tryz.zeroValue208
 t138:=Tryz.underlying235
 a138:=Tryz.isAgg235
 z138:=Tryz.sizeOf235
 v138:=Tryz.zeroValue235
 t139:=Tryz.underlying236
 a139:=Tryz.isAgg236
 z139:=Tryz.sizeOf236
 v139:=Tryz.zeroValue236
 t146:=Tryz.underlying211
 a146:=Tryz.isAgg211
 z146:=Tryz.sizeOf211
 v146:=Tryz.zeroValue211
 t164:=Tryz.underlying226
 a164:=Tryz.isAgg226
 z164:=Tryz.sizeOf226
 v164:=Tryz.zeroValue226
 g1:=by kernel_rfl
 g3:=by kernel_rfl
 g4:=by kernel_rfl
 t80:=Tryz.underlying188
 a80:=Tryz.isAgg188
 z80:=Tryz.sizeOf188
 v80:=Tryz.zeroValue188
 i0:=by kernel_rfl
 i3:=by kernel_rfl
 i4:=by kernel_rfl
 i5:=by kernel_rfl
 i9:=by kernel_rfl
 i20:=by kernel_rfl
 i21:=by kernel_rfl
 i37:=by kernel_rfl
 i46:=by kernel_rfl
 i51:=by kernel_rfl
 i70:=by kernel_rfl
 i72:=by kernel_rfl
 i75:=by kernel_rfl
 i76:=by kernel_rfl
 i80:=by kernel_rfl
 i105:=by kernel_rfl
 i127:=by kernel_rfl
 i138:=by kernel_rfl
 i139:=by kernel_rfl
 i146:=by kernel_rfl
 i164:=by kernel_rfl
 m1:=by kernel_rfl
 s1_3:=fun w h=>Go.Proofs.cell_of_shapedOpen_int (zero:=#[.int .i64 0]) (t:=3) h (of_decide_eq_true (by kernel_rfl)) (by kernel_rfl) rfl (by kernel_rfl) (by kernel_rfl) Tryz.underlying3
 m3:=by kernel_rfl
 m4:=by kernel_rfl }
theorem Tryz.Builder_Extra_M155:Builder.Extra Tryz.prog Tryz.laysM155_ren:={
 sizeBuilder:=by kernel_rfl
 liesBuilder:=by kernel_rfl
 t5:=Tryz.underlying5
 a5:=Tryz.isAgg5
 z5:=Tryz.sizeOf5
 v5:=Tryz.zeroValue5
 infoByte:=by kernel_rfl
 cellsByte:=by kernel_rfl
 sizeByte:=by kernel_rfl
 neB5:=by decide }
open Go.RowKit Go.Lib in
/-- strings.ReplaceAll, old not empty. (LAID: no walk: one application.) -/
theorem Tryz.strings_ReplaceAll_shaped (s old new:ByteArray) (w:World) (h:w.ShapedOpen Tryz.prog) (hs:s.size<4294967281) (h1:1<=old.size) (hlen:s.size+Lib.countB s old*new.size<=140737488355328) :
  Calls Tryz.prog 179 #[.string s,.string old,.string new] w fun e w'=>
   e=.returned (.string ⟨(Lib.replaceAll s.data.toList old.data.toList new.data.toList).toArray⟩)/\Below w.heap.size w w':=Any.strings_ReplaceAll_shaped Tryz.laysM155 Tryz.Builder_Extra_M155 s old new w h hs h1 hlen
def Tryz.lays153_ren:Go.Shelf.Ren:=⟨fun|153=>164|152=>199|226=>200|227=>201|228=>202|137=>169|119=>218|224=>191|225=>190|217=>189|266=>215|n=>n,fun|9=>9|3=>3|4=>4|5=>5|21=>21|117=>197|116=>196|0=>0|46=>128|124=>214|n=>n,fun|n=>n⟩
theorem Tryz.lays153:Go.Proofs.Lays.n153 Tryz.prog Tryz.lays153_ren:={
 mixed:=by kernel_rfl
 f119:=Tryz.func218.trans (congrArg some (by kernel_rfl))
 f137:=Tryz.func169.trans (congrArg some (by kernel_rfl))
 f152:=Tryz.func199.trans (congrArg some (by kernel_rfl))
 f153:=Tryz.func164.trans (congrArg some (by kernel_rfl))
 f217:=Tryz.func189.trans (congrArg some (by kernel_rfl))
 f224:=Tryz.func191.trans (congrArg some (by kernel_rfl))
 f225:=Tryz.func190.trans (congrArg some (by kernel_rfl))
 f226:=Tryz.func200.trans (congrArg some (by kernel_rfl))
 f227:=Tryz.func201.trans (congrArg some (by kernel_rfl))
 f228:=Tryz.func202.trans (congrArg some (by kernel_rfl))
 f266:=Tryz.func215.trans (congrArg some (by kernel_rfl))
 t0:=Tryz.underlying0
 a0:=Tryz.isAgg0
 z0:=Tryz.sizeOf0
 v0:=Tryz.zeroValue0
 t3:=Tryz.underlying3
 a3:=Tryz.isAgg3
 z3:=Tryz.sizeOf3
 v3:=Tryz.zeroValue3
 t4:=Tryz.underlying4
 a4:=Tryz.isAgg4
 z4:=Tryz.sizeOf4
 v4:=Tryz.zeroValue4
 t5:=Tryz.underlying5
 a5:=Tryz.isAgg5
 z5:=Tryz.sizeOf5
 v5:=Tryz.zeroValue5
 t9:=Tryz.underlying9
 a9:=Tryz.isAgg9
 z9:=Tryz.sizeOf9
 v9:=Tryz.zeroValue9
 t21:=Tryz.underlying21
 a21:=Tryz.isAgg21
 z21:=Tryz.sizeOf21
 v21:=Tryz.zeroValue21
 t46:=Tryz.underlying128
 a46:=Tryz.isAgg128
 z46:=Tryz.sizeOf128
 v46:=Tryz.zeroValue128
 t116:=Tryz.underlying196
 a116:=Tryz.isAgg196
 z116:=Tryz.sizeOf196
 t117:=Tryz.underlying197
 a117:=Tryz.isAgg197
 z117:=Tryz.sizeOf197
 v117:=Tryz.zeroValue197
 t124:=Tryz.underlying214
 a124:=Tryz.isAgg214
 z124:=Tryz.sizeOf214
 v124:=Tryz.zeroValue214 }
open Go.RowKit Go.Lib in
theorem Tryz.strings_IndexAny_long (hv116:∀w,(zeroValue 196).run Tryz.prog w=.ok (.agg (Array.replicate 256 (.bool false))) w) (s chars:ByteArray) (w:World) (h2:2<=chars.size) (h8:8<s.size) (hs:s.size<4294967281) (hcs:chars.size<4294967281) (hascii:∀(j:Nat) b,chars.data.toList[j]? = some b->b.toNat<128) :
  Calls Tryz.prog 164 #[.string s,.string chars] w fun e w'=>e=.returned (.int .i64 (Lib.indexAny s.data.toList chars.data.toList))/\w'=((w.alloc (.cells (Lib.setCells chars.data.toList) 196)).alloc (.cells (Lib.setCells chars.data.toList) 196)):=Any.strings_IndexAny_long Tryz.lays153 hv116 (by kernel_rfl) s chars w h2 h8 hs hcs hascii
def Tryz.lays150_ren:Go.Shelf.Ren:=⟨fun|150=>138|153=>164|152=>199|226=>200|227=>201|228=>202|137=>169|119=>218|224=>191|225=>190|217=>189|266=>215|n=>n,fun|9=>9|4=>4|3=>3|5=>5|21=>21|117=>197|116=>196|0=>0|46=>128|124=>214|n=>n,fun|n=>n⟩
theorem Tryz.lays150:Go.Proofs.Lays.n150 Tryz.prog Tryz.lays150_ren:={
 mixed:=by kernel_rfl
 f119:=Tryz.func218.trans (congrArg some (by kernel_rfl))
 f137:=Tryz.func169.trans (congrArg some (by kernel_rfl))
 f150:=Tryz.func138.trans (congrArg some (by kernel_rfl))
 f152:=Tryz.func199.trans (congrArg some (by kernel_rfl))
 f153:=Tryz.func164.trans (congrArg some (by kernel_rfl))
 f217:=Tryz.func189.trans (congrArg some (by kernel_rfl))
 f224:=Tryz.func191.trans (congrArg some (by kernel_rfl))
 f225:=Tryz.func190.trans (congrArg some (by kernel_rfl))
 f226:=Tryz.func200.trans (congrArg some (by kernel_rfl))
 f227:=Tryz.func201.trans (congrArg some (by kernel_rfl))
 f228:=Tryz.func202.trans (congrArg some (by kernel_rfl))
 f266:=Tryz.func215.trans (congrArg some (by kernel_rfl))
 t0:=Tryz.underlying0
 a0:=Tryz.isAgg0
 z0:=Tryz.sizeOf0
 v0:=Tryz.zeroValue0
 t3:=Tryz.underlying3
 a3:=Tryz.isAgg3
 z3:=Tryz.sizeOf3
 v3:=Tryz.zeroValue3
 t4:=Tryz.underlying4
 a4:=Tryz.isAgg4
 z4:=Tryz.sizeOf4
 v4:=Tryz.zeroValue4
 t5:=Tryz.underlying5
 a5:=Tryz.isAgg5
 z5:=Tryz.sizeOf5
 v5:=Tryz.zeroValue5
 t9:=Tryz.underlying9
 a9:=Tryz.isAgg9
 z9:=Tryz.sizeOf9
 v9:=Tryz.zeroValue9
 t21:=Tryz.underlying21
 a21:=Tryz.isAgg21
 z21:=Tryz.sizeOf21
 v21:=Tryz.zeroValue21
 t46:=Tryz.underlying128
 a46:=Tryz.isAgg128
 z46:=Tryz.sizeOf128
 v46:=Tryz.zeroValue128
 t116:=Tryz.underlying196
 a116:=Tryz.isAgg196
 z116:=Tryz.sizeOf196
 t117:=Tryz.underlying197
 a117:=Tryz.isAgg197
 z117:=Tryz.sizeOf197
 v117:=Tryz.zeroValue197
 t124:=Tryz.underlying214
 a124:=Tryz.isAgg214
 z124:=Tryz.sizeOf214
 v124:=Tryz.zeroValue214 }
open Go.RowKit Go.Lib in
theorem Tryz.strings_ContainsAny_laid (s chars:ByteArray) (w:World) (hs:s.size<4294967281) (hcs:chars.size<4294967281) (has:∀(j:Nat) b,s.data.toList[j]? = some b->b.toNat<128) (hac:∀(j:Nat) b,chars.data.toList[j]? = some b->b.toNat<128) :
  Calls Tryz.prog 138 #[.string s,.string chars] w fun e w'=>e=.returned (.bool (Lib.containsAny s.data.toList chars.data.toList))/\Below w.heap.size w w':=Any.strings_ContainsAny_laid Tryz.lays150 (by kernel_rfl) s chars w hs hcs has hac
end Go.Proofs
namespace Go.Proofs.YtbeoijfmfkifeaaGreatDoor
open Go.RowKit
open Int renaming toNat_natCast->zm
open Lib renaming hid->za
open List renaming all_append->xx, append_assoc->zu, append_nil->zy, cons_append->qy, eq_nil_of_length_eq_zero->qh, getElem?_eq_getElem->zq, length->qv, length_append->zg, length_map->jg, length_set->zf, length_take->zh, map_cons->zr, replicate->qo, take_of_length_le->je, take_succ_eq_append_getElem->qm
open Nat renaming le_refl->zd, sub_self->jw, zero_le->ze
theorem AO {a b:Bool} (h:a=b):Ending.returned (.bool a)=.returned (.bool b):=by rw[h]
theorem EF {k:IntKind} {a b:Int} (h:a=b):Ending.returned (.int k a)=.returned (.int k b):=by rw[h]
theorem GN {a b:ByteArray} (h:a=b):Ending.returned (.string a)=.returned (.string b):=by rw[h]
theorem K4 {a b:List UInt8} (h:a=b):Ending.returned (.string ⟨a.toArray⟩)=.returned (.string ⟨b.toArray⟩):=by rw[h]
theorem dd {p q:Prop} [Decidable p] [Decidable q] (h:p↔q):decide p=decide q:=decide_eq_decide.2 h
theorem dt {q:Prop} [Decidable q] (h:q):true=decide q:=(decide_eq_true h).symm
theorem df {q:Prop} [Decidable q] (h:¬q):false=decide q:=(decide_eq_false h).symm
abbrev S (l:List UInt8):ByteArray:=⟨l.toArray⟩
theorem Am (l:List UInt8):(S l).size=l.length:=size_of_list l
theorem Ao (l:List UInt8):(S l).data.toList=l:=rfl
theorem G4 (s:ByteArray):S s.data.toList=s:=rfl
theorem At (s:ByteArray):s.data.toList.length=s.size:=rfl
theorem TV (c:UInt8):((c.toNat:Int)).toNat.toUInt8=c:=by rw[zm];exact UInt8.ofNat_toNat
theorem Qm (s:ByteArray) (k:Nat) (h:k<s.size):s.data.toList[k]'(by rw[At];exact h)=s[k]:=rfl
theorem R0 (s:ByteArray) (k:Nat) (h:k<s.size):s.data.toList.getD k 0=s[k]:=by
 rw[List.getD_eq_getElem?_getD,zq (by rw[At];exact h)];rfl
theorem Gj (s:ByteArray) (k:Nat) (h:k<s.size):s.data.toList.take (k+1)=s.data.toList.take k++[s[k]]:=by
 rw[qm (by simpa using h)];rfl
theorem Df (s:ByteArray) (k:Nat) (h:k<s.size):s.data.toList.drop k=s[k]::s.data.toList.drop (k+1):=by
 rw[List.drop_eq_getElem_cons (by simpa using h)];rfl
theorem Gd {s:ByteArray} (h:s.size=0):s=S []:=by
 have:s.data.toList=[]:=qh (by rw[At];exact h);rw[<-G4 s,this]
def Qb (w w':World):Prop:=Below w.heap.size w w'
theorem Qb.refl (w:World):Qb w w:=Below.refl _ _
theorem Qb.trans {a b c:World} (h:Qb a b) (k:Qb b c):Qb a c:=Below.trans h (Below.mono k h.size)
theorem Qb.alloc {a b:World} (h:Qb a b) (o:Obj):Qb a (b.alloc o):=Below.alloc h h.size o
theorem Qb.drew {a b:World} (h:Qb a b):Qb a b.drew:=Below.drew h
theorem Qb.drewN {a b:World} (h:Qb a b) (n:Nat):Qb a (b.drewN n):=below_drewN h n
theorem Qb.set {a b:World} (h:Qb a b) {p:Addr} (hp:a.heap.size<=p.block) (u:Value):Qb a (b.setCell p u):=Below.setCell h hp u
theorem Qb.grown {a b c:World} (h:Qb a b) {row:Option Nat} (hg:b.grownBy c row) (hr:∀k,row=some k->a.heap.size<=k):Qb a c:=Below.grown h hg h.size hr
theorem Qb.size {a b:World} (h:Qb a b):a.heap.size<=b.heap.size:=Below.size h
theorem Qb.below {a b:World} (h:Qb a b):Below a.heap.size a b:=h
def Bi (r:Int×List UInt8):Value:=.tuple #[.string (S r.2),.int .i64 r.1]
def Ph:Value->Nat | .string c=>c.size|_=>0
theorem Dw (c:ByteArray):Ph (.string c)=c.size:=rfl
theorem size_extract (c:ByteArray) (a b:Nat) (h:b<=c.size):(c.extract a b).size=b - a:=by
 rw[ByteArray.size_extract];omega
theorem JN {P:Program} {f:FuncId} {args:Array Value} {w:World} {n:Nat} {v:Value}
  (h:Calls P f args (w.drewN n) fun e w'=>e=.returned v/\w.drewN n=w'):Calls P f args (w.drewN n) fun e w''=>e=.returned v/\∃m,w''=w.drewN m :=
 h.mono fun _ _ ⟨he,hm⟩=>⟨he,n,hm.symm⟩
def FZ (c:UInt8):Bool:=decide (65<=c.toNat/\c.toNat<=90)
def Ca (c:UInt8):Bool:=decide (97<=c.toNat/\c.toNat<=122\/65<=c.toNat/\c.toNat<=90)
def AC (c:UInt8):Bool:=decide (48<=c.toNat/\c.toNat<=57)
def Bn (c:UInt8):Bool:=decide (48<=c.toNat/\c.toNat<=57\/97<=c.toNat/\c.toNat<=102\/65<=c.toNat/\c.toNat<=70)
def Aw (c:UInt8) (l:List UInt8):Bool:=l.contains c
theorem Q3 (c:UInt8):Aw c []=false:=rfl
theorem oK (c d:UInt8):(c==d)=(d.toNat==c.toNat):=by
 by_cases h:c=d
 ·subst h;rw[beq_self_eq_true,beq_self_eq_true]
 ·rw[beq_eq_false_iff_ne.2 h,beq_eq_false_iff_ne.2 (fun e=>h (UInt8.toNat_inj.1 e).symm)]
theorem R2 (l:List UInt8) (c d:UInt8):Aw c (l++[d])=(Aw c l||(d.toNat==c.toNat)):=by
 unfold Aw;rw[<-oK];simp only[List.contains_append,List.contains_cons,List.contains_nil,Bool.or_false]
def LX (c:UInt8):Bool:=Ca c||AC c
def A8 (c:UInt8):Bool:=LX c||Aw c [45,46,95,126]
theorem gG (c:UInt8) (w:World) :
  Calls Tryz.prog 156 #[.int .u8 c.toNat] w fun e w'=>e=.returned (.bool (FZ c))/\w=w':=by
 go_enter Tryz.func156,Tryz.ntmps156
 go_wp2
 all_goals go_ret
 all_goals exact⟨AO (by unfold FZ;first|exact dt (by omega)|exact df (by omega)|(rw[Bool.eq_iff_iff];simp only[Bool.or_eq_true,Bool.and_eq_true,decide_eq_true_eq];omega)),rfl⟩
theorem EW (c:UInt8) (w:World) :
  Calls Tryz.prog 206 #[.int .u8 c.toNat] w fun e w'=>e=.returned (.bool (Ca c))/\w=w':=by
 go_enter Tryz.func206,Tryz.ntmps206
 go_wp2
 all_goals go_ret
 all_goals exact⟨AO (by unfold Ca;first|exact dt (by omega)|exact df (by omega)|(rw[Bool.eq_iff_iff];simp only[Bool.or_eq_true,Bool.and_eq_true,decide_eq_true_eq];omega)),rfl⟩
theorem Eg (c:UInt8) (w:World) :
  Calls Tryz.prog 177 #[.int .u8 c.toNat] w fun e w'=>e=.returned (.bool (AC c))/\w=w':=by
 go_enter Tryz.func177,Tryz.ntmps177
 go_wp2
 all_goals go_ret
 all_goals exact⟨AO (by unfold AC;first|exact dt (by omega)|exact df (by omega)|(rw[Bool.eq_iff_iff];simp only[Bool.or_eq_true,Bool.and_eq_true,decide_eq_true_eq];omega)),rfl⟩
theorem Y2 (c:UInt8) (w:World) :
  Calls Tryz.prog 217 #[.int .u8 c.toNat] w fun e w'=>e=.returned (.bool (Bn c))/\w=w':=by
 go_enter Tryz.func217,Tryz.ntmps217
 go_wp2
 all_goals go_ret
 all_goals exact⟨AO (by unfold Bn;first|exact dt (by omega)|exact df (by omega)|(rw[Bool.eq_iff_iff];simp only[Bool.or_eq_true,Bool.and_eq_true,decide_eq_true_eq];omega)),rfl⟩
theorem eJ (c:UInt8) (s:ByteArray) (w:World) :
  Calls Tryz.prog 196 #[.int .u8 c.toNat,.string s] w fun e w'=>e=.returned (.bool (Aw c s.data.toList))/\w=w':=by
 go_enter Tryz.func196,Tryz.ntmps196
 go_wp2_with (go_at_call 169;refine(Tryz.strings_IndexByte _ _ _).mono ?_;rintro e w' ⟨rfl,rfl⟩)
 go_ret
 exact⟨AO (by unfold Aw;rw[Lib.contains_iff_indexByte]),rfl⟩
theorem X1 (c:UInt8) (w:World) :
  Calls Tryz.prog 195 #[.int .u8 c.toNat] w fun e w'=>e=.returned (.bool (LX c))/\w=w':=by
 go_enter Tryz.func195,Tryz.ntmps195
 go_wp2_with (first|(go_at_call 206;refine(EW _ _).mono ?_;rintro e w' ⟨rfl,rfl⟩)|(go_at_call 177;refine(Eg _ _).mono ?_;rintro e w' ⟨rfl,rfl⟩))
 all_goals go_ret
 all_goals exact⟨AO (by simp_all [LX]),rfl⟩
theorem HZ (c:UInt8) (w:World) :
  Calls Tryz.prog 160 #[.int .u8 c.toNat] w fun e w'=>e=.returned (.bool (A8 c))/\w=w':=by
 go_enter Tryz.func160,Tryz.ntmps160
 go_wp2_with (first|(go_at_call 195;refine(X1 _ _).mono ?_;rintro e w' ⟨rfl,rfl⟩)|(go_at_call 196;refine(eJ _ _ _).mono ?_;rintro e w' ⟨rfl,rfl⟩))
 all_goals go_ret
 all_goals exact⟨AO (by simp_all [A8]),rfl⟩
def Bl (c:UInt8):UInt8:=if FZ c then c+32 else c
theorem Sm (c:UInt8) (w:World) :
  Calls Tryz.prog 123 #[.int .u8 c.toNat] w fun e w'=>e=.returned (.int .u8 (Bl c).toNat)/\w=w':=by
 go_enter Tryz.func123,Tryz.ntmps123
 go_wp2_with (go_at_call 156;refine(gG _ _).mono ?_;rintro e w' ⟨rfl,rfl⟩)
 all_goals go_ret
 ·have h:FZ c=true:=by assumption
  exact⟨EF (by simp[Bl,h,UInt8.toNat_add]),rfl⟩
 ·have h:FZ c=false:=by assumption
  exact⟨EF (by simp[Bl,h]),rfl⟩
theorem EY (c:UInt8) (w:World) :
  Calls Tryz.prog 93 #[.int .u8 c.toNat] w fun e w'=>e=.returned (.bool (Ca c))/\w=w':=by
 go_enter Tryz.func93,Tryz.ntmps93
 go_wp2
 all_goals go_ret
 all_goals exact⟨AO (by unfold Ca;first|exact dt (by omega)|exact df (by omega)|(rw[Bool.eq_iff_iff];simp only[Bool.or_eq_true,Bool.and_eq_true,decide_eq_true_eq];omega)),rfl⟩
theorem EZ (c:UInt8) (w:World) :
  Calls Tryz.prog 94 #[.int .u8 c.toNat] w fun e w'=>e=.returned (.bool (AC c))/\w=w':=by
 go_enter Tryz.func94,Tryz.ntmps94
 go_wp2
 all_goals go_ret
 all_goals exact⟨AO (by unfold AC;first|exact dt (by omega)|exact df (by omega)|(rw[Bool.eq_iff_iff];simp only[Bool.or_eq_true,Bool.and_eq_true,decide_eq_true_eq];omega)),rfl⟩
theorem N0 (c:UInt8) (w:World) :
  Calls Tryz.prog 124 #[.int .u8 c.toNat] w fun e w'=>e=.returned (.bool (Bn c))/\w=w':=by
 go_enter Tryz.func124,Tryz.ntmps124
 go_wp2
 all_goals go_ret
 all_goals exact⟨AO (by unfold Bn;first|exact dt (by omega)|exact df (by omega)|(rw[Bool.eq_iff_iff];simp only[Bool.or_eq_true,Bool.and_eq_true,decide_eq_true_eq];omega)),rfl⟩
theorem DY (c:UInt8) (s:ByteArray) (w:World) (hs:s.size<=maxLen) :
  Calls Tryz.prog 66 #[.int .u8 c.toNat,.string s] w fun e w'=>e=.returned (.bool (Aw c s.data.toList))/\w=w':=by
 unfold maxLen at hs
 go_enter Tryz.func66,Tryz.ntmps66
 go_wp2
 go_loop [5] (fun i=>∃k:Nat,k<=s.size/\i=.int .i64 k/\Aw c (s.data.toList.take k)=false) (fun i=>s.size - (intOf i).toNat)
 case atStart=>exact⟨0,ze _,rfl,Q3 c⟩
 case round=>
  obtain⟨k,hk,rfl,hno⟩:=hrel;have HN:=za hno;clear hno
  by_cases hlt:k<s.size
  ·have HT:=za (Gj s k hlt)
   go_wp2
   ·have he:(↑s[k].toNat==(↑c.toNat:Int))=true:=by assumption
    go_ret
    have h:Aw c s.data.toList=true:=by
     have h1:Aw c (s.data.toList.take (k+1))=true:=by
      rw[HT.out,R2];have:s[k].toNat=c.toNat:=by have:=eq_of_beq he;omega
      simp[this]
     unfold Aw at h1 ⊢;rw[List.contains_iff_mem] at h1 ⊢;exact List.mem_of_mem_take h1
    exact⟨AO h.symm,rfl⟩
   ·have he:(↑s[k].toNat==(↑c.toNat:Int))=false:=by assumption
    go_round
    case rel=>
     refine⟨k+1,by omega,by go_num,?_⟩;rw[HT.out,R2,HN.out];have:¬s[k].toNat=c.toNat:=by intro h;simp[h] at he
     simp[this]
    case measure=>simp[intOf];omega
  ·go_wp2
   go_ret
   exact⟨AO (by have h:=HN.out;rw[je (by rw[At];omega)] at h;rw[h]),rfl⟩
theorem EK (c:UInt8) (w:World) :
  Calls Tryz.prog 70 #[.int .u8 c.toNat] w fun e w'=>e=.returned (.bool (A8 c))/\w=w':=by
 go_enter Tryz.func70,Tryz.ntmps70
 go_wp2_with (first|(go_at_call 93;refine(EY _ _).mono ?_;rintro e w' ⟨rfl,rfl⟩)|(go_at_call 94;refine(EZ _ _).mono ?_;rintro e w' ⟨rfl,rfl⟩)|(go_at_call 66;refine(DY _ _ _ (by decide)).mono ?_;rintro e w' ⟨rfl,rfl⟩))
 all_goals go_ret
 all_goals exact⟨AO (by simp_all [A8,LX]),rfl⟩
theorem Je:(Tryz.prog.info? 5).map (fun i=>(i.zero,i.size,i.bytes))=some (some (.int .u8 0),1,1):=by kernel_rfl
def bv (l:List UInt8):List Value:=l.map fun c=>.int .u8 c.toNat
theorem JK (l:List UInt8):(bv l).length=l.length:=by simp[bv]
theorem Lk (a b:List UInt8):bv (a++b)=bv a++bv b:=by simp[bv]
theorem oN (l:List UInt8) (i:Nat) (c:UInt8):(bv l).set i (.int .u8 c.toNat)=bv (l.set i c):=by simp[bv,List.map_set]
theorem oM (l:List UInt8) (i:Nat) (h:i<l.length):(bv l)[i]? = some (.int .u8 l[i].toNat):=by simp[bv,h]
def AX (w:World) (base:Nat) (v:Value) (l:List UInt8):Prop:=w.ownsRow base 5 1 v l.length (bv l)
theorem AX.nil (w:World) (base:Nat):AX w base (.slice none 0 0) []:=World.ownsRow_nil w base _ _
theorem AX.drew {w:World} {base:Nat} {v:Value} {l:List UInt8} (h:AX w base v l):AX w.drew base v l:=h
theorem AX.drewN {w:World} {base:Nat} {v:Value} {l:List UInt8} (h:AX w base v l) (n:Nat):AX (w.drewN n) base v l:=h
theorem AX.alloc {w:World} {base:Nat} {v:Value} {l:List UInt8} (h:AX w base v l) (o:Obj):AX (w.alloc o) base v l:=World.ownsRow.alloc h o
theorem AX.below {w w':World} {base:Nat} {v:Value} {l:List UInt8} (h:AX w base v l) (hb:Qb w w'):AX w' base v l:=by
 refine World.ownsRow.kept (row:=none) h ⟨hb.os,hb.tape,hb.output,Below.size hb,fun k hk _=>Below.block hb k hk⟩ ?_;rcases h.2 with ⟨rfl,_⟩|⟨g,cap,cur,rfl,_⟩
 ·exact .inl rfl
 ·exact .inr (by simp[Value.ownBlock])
theorem QY:∀(l:List UInt8) (s:ByteArray),(l.map fun c=>(c.toNat:Int)).foldl (fun r n=>r.push (UInt8.ofNat n.toNat)) s=⟨s.data++l.toArray⟩
 | [],s=>by simp
 | n::ns,s=>by
  rw[zr,List.foldl_cons,QY ns];simp[ByteArray.push]
theorem Hk {w:World} {base:Nat} {v:Value} {l:List UInt8} (h:AX w base v l) :
  (convert 25 9 v).run Tryz.prog w=.ok (.string ⟨l.toArray⟩) w:=by
 rcases h.2 with ⟨rfl,hn⟩|⟨g,cap,cur,rfl,hb,hg,hnc,hcm,hcs,htake⟩
 ·have:l=[]:=qh hn;subst this;exact run_convert_bytes_nil w 25 5 Tryz.underlying25 Tryz.underlying5 0 0 _ Tryz.underlying9
 ·have hl:(loadCells ⟨g,0,none⟩ l.length).run Tryz.prog w=.ok ((l.map fun c=>(c.toNat:Int)).map (Value.int .u8)).toArray w:=by
   have:=run_loadCells_list (P:=Tryz.prog) w ⟨g,0,none⟩ (bv l) (fun j v hj=>World.ownsRow.cells h (g:=g) rfl j v hj);rw[JK] at this;rw[this];simp[bv,Function.comp_def]
  rw[run_convert_bytes_string w _ _ 5 _ _ _ Tryz.underlying25 Tryz.underlying5 Tryz.underlying9,run_bytesToString w _ _ cap _ hl,QY];simp[ByteArray.empty,ByteArray.emptyWithCapacity]
  rfl
def H6 (c:Nat):Array Value:=madeCells (Value.int .u8 0).cells (c*1)
theorem Yc (c:Nat):(H6 c).size=c:=by unfold H6;rw[size_madeCells];omega
theorem Yb (c:Nat):(H6 c).toList=bv (qo c 0):=by
 show (madeCells #[.int .u8 0] (c*1)).toList=_;rw[toList_madeCells_one];simp[bv]
theorem RH (n c:Nat) (hn:n<=c) (hc:c<=281474976710656) (w:World) :
  (Instr.makeSlice 25 (.int .i64 (n:Int)) (.int .i64 (c:Int))).run Tryz.prog w=.ok (.slice (some ⟨w.heap.size,0,none⟩) n c) (w.alloc (.cells (H6 c) 5)):=by
 obtain⟨i0,hi,hz0,hz1,hz2⟩:=info_parts Je;have hb:(i0.bytes:Int)*(c:Int)<=281474976710656:=by rw[hz2];omega
 have hr:=run_make (P:=Tryz.prog) w 25 5 i0 (.int .u8 0) Tryz.underlying25 hi hz0 .i64 .i64 n c (by omega) (by omega) hb (by omega);simp only[zm,hz1] at hr;exact hr
theorem Lc (c:Nat) (hc:c<=281474976710656) (w:World) :
  (Instr.makeSlice 25 (.int .i64 0) (.int .i64 (c:Int))).run Tryz.prog w=.ok (.slice (some ⟨w.heap.size,0,none⟩) 0 c) (w.alloc (.cells (H6 c) 5)) :=
 RH 0 c (ze _) hc w
theorem JJ (w:World) (B n c:Nat) (hB:B<=w.heap.size) (hn:n<=c) (hc:c<=281474976710656) :
  AX (w.alloc (.cells (H6 c) 5)) B (.slice (some ⟨w.heap.size,0,none⟩) n c) (qo n 0):=by
 refine⟨by simp[JK],.inr ⟨w.heap.size,c,H6 c,by simp,hB,heap_alloc_new w _,by simpa using hn,by simp only[maxLen];omega,by rw[Yc];omega,?_⟩⟩;rw[Yb,List.length_replicate];simp[bv,List.take_replicate,Nat.min_eq_left hn]
theorem AX.cell {w:World} {B g n cap:Nat} {l:List UInt8} (h:AX w B (.slice (some ⟨g,0,none⟩) n cap) l) (j:Nat) (hj:j<l.length):w.cell? ⟨g,j,none⟩=some (.int .u8 l[j].toNat):=by
 have h':=h;rcases h'.2 with ⟨e,_⟩|⟨g',cap',cur,e,_⟩
 ·simp at e
 ·simp only[Value.slice.injEq] at e;obtain⟨_,rfl,_⟩:=e;rw[World.ownsRow.cellAt (h:World.ownsRow _ _ _ _ _ _ _) j (by omega),oM l j hj]
theorem AX.frozen {w:World} {B g n cap:Nat} {l:List UInt8} (h:AX w B (.slice (some ⟨g,0,none⟩) n cap) l) (j:Nat):w.frozen? ⟨g,j,none⟩=false:=by
 have h':=h;rcases h'.2 with ⟨e,_⟩|⟨g',cap',cur,e,_⟩
 ·simp at e
 ·simp only[Value.slice.injEq] at e;obtain⟨_,rfl,_⟩:=e;exact World.ownsRow.frozenAt (h:World.ownsRow _ _ _ _ _ _ _) j
theorem AX.stored {w:World} {B g n cap:Nat} {l:List UInt8} (h:AX w B (.slice (some ⟨g,0,none⟩) n cap) l) (j:Nat) (c:UInt8) :
  AX (w.setCell ⟨g,j,none⟩ (.int .u8 c.toNat)) B (.slice (some ⟨g,0,none⟩) n cap) (l.set j c):=by
 have h':=h;rcases h'.2 with ⟨e,_⟩|⟨g',cap',cur,e,_⟩
 ·simp at e
 ·simp only[Value.slice.injEq] at e;obtain⟨_,rfl,_⟩:=e;have:=(World.ownsRow.stored (h:World.ownsRow _ _ _ _ _ _ _) j (.int .u8 c.toNat)).1;unfold AX;rw[<-oN,zf];exact this
def FS (w:World) (g:Nat) (l:List UInt8):Prop:=∀j (h:j<l.length),w.cell? ⟨g,j,none⟩=some (.int .u8 l[j].toNat)/\w.frozen? ⟨g,j,none⟩=false
theorem B9 (g j:Nat):(⟨g,0,none⟩:Addr).add j=⟨g,j,none⟩:=by unfold Addr.add;split<;>simp_all
theorem FS.str {w:World} {g:Nat} {l:List UInt8} (h:FS w g l) (n cap:Nat) (hn:n=l.length) :
  (convert 25 9 (.slice (some ⟨g,0,none⟩) n cap)).run Tryz.prog w=.ok (.string ⟨l.toArray⟩) w:=by
 subst hn;exact run_convert_bytes_back w _ _ 5 _ cap l Tryz.underlying25 Tryz.underlying5 Tryz.underlying9 (fun j hj=>by rw[B9];exact(h j hj).1)
theorem FS.stored {w:World} {g:Nat} {l:List UInt8} (h:FS w g l) (k:Nat) (hk:k<l.length) (c:UInt8) :
  FS (w.setCell ⟨g,k,none⟩ (.int .u8 c.toNat)) g (l.set k c):=by
 intro j hj;rw[zf] at hj;refine⟨?_,(World.frozen?_setCell _ _ _ _).trans (h j hj).2⟩
 by_cases e:k=j
 ·subst e;rw[World.cell?_setCell_same _ _ _ (h k hj).1];simp
 ·rw[World.cell?_setCell_other _ _ _ _ (fun e2=>e (by injection e2)),(h j hj).1];simp[e]
theorem eB (w:World) (s:ByteArray):FS (Lib.bytesWorld w 5 s) w.heap.size s.data.toList:=by
 intro j hj;rw[At] at hj;refine⟨?_,?_⟩
 ·rw[Lib.bytesWorld_cell w _ s j hj,R0 s j hj];rfl
 ·have hs:(Lib.bytesCells w 5 s).size≠j:=by
   have:s.size<=(Lib.bytesCells w 5 s).size:=by
    simp only[Lib.bytesCells,Array.size_append,Array.size_map];exact Nat.le_add_right _ _
   omega
  simp[World.frozen?,Lib.bytesWorld_at_new];omega
theorem gO (w:World) (e:TypeId) (s:ByteArray):Qb w (Lib.bytesWorld w e s):=by
 refine⟨rfl,rfl,rfl,by rw[Lib.bytesWorld_size];omega,fun k hk=>Lib.bytesWorld_at_old w e s k hk⟩
theorem bF (s:ByteArray) (w:World) :
  (convert 9 25 (.string s)).run Tryz.prog w=.ok (.slice (some ⟨w.heap.size,0,none⟩) s.size (grownCap w s.size 0 5)) (Lib.bytesWorld w 5 s) :=
 Lib.run_convert_string_bytes w _ _ _ s Tryz.underlying9 Tryz.underlying25 Tryz.underlying5
theorem AX.appended {w':World} {B:Nat} {v':Value} {l m:List UInt8} {xs:List Value} {n:Nat} (h:w'.ownsRow B 5 1 v' n xs) (hx:xs=bv (l++m)) (hn:n=(l++m).length):AX w' B v' (l++m):=by
 subst hx hn;exact h
theorem O3 (vs:List UInt8):∀u∈bv vs,u.oneCell'=true:=by
 intro u hu;obtain⟨c,_,rfl⟩:=List.mem_map.1 hu
 rfl
theorem Lz {w w':World} {B:Nat} {v:Value} {l:List UInt8} (h:AX w B v l) (hB:B<=w.heap.size) (hg:w.grownBy w' v.ownBlock):Below B w w' :=
 (Below.refl B w).grown hg hB (fun k hk=>(World.ownsRow.lt h k hk).1)
theorem Gl {w:World} {ops:Array Oper} {rest:List Oper} {o:Oper} {a:Act} {Q:Exit->Act->World->Prop} (hgd:o.guard=none) (s x:Operand)
  (ho:o.op=.call { callee:=.builtin .append,args:=#[s,x],argTypes:=#[25,25] })
  (B:Nat) (v:Value) (l m:List UInt8) (hs:a.eval s=v) (hrow:AX w B v l) (ad:Addr) (n c:Nat) (hx:a.eval x=.slice (some ad) n c) (hn:n=m.length)
  (hnews:∀j u,(bv m)[j]? = some u->w.cell? (ad.add j)=some u) (hlen:l.length+m.length<=140737488355328) (hB:B<=w.heap.size)
  (h:∀v' w',AX w' B v' (l++m)->Below B w w'->wpList Tryz.prog ops Q rest (a.put o.dst v') w'):wpList Tryz.prog ops Q (o::rest) a w:=by
 obtain⟨i0,hi,hz0,hz1,hz2⟩:=info_parts Je;subst hn;exact wpList_append_own w hgd s x _ ho B 5 i0 _ 1 1 Tryz.underlying25 hi hz0 hz1 hz2 rfl (by omega) v l.length (bv l) hs hrow ad m.length c (bv m) hx (by rw[JK];omega) hnews (O3 m)
  (by simp only[maxLen];omega) (by omega) hB fun v' w' h1 h2 _=>h v' w' (AX.appended h1 (Lk l m).symm (by simp)) (Lz hrow hB h2)
theorem iW {w:World} {ops:Array Oper} {o:Oper} {a:Act} {K:Act->World->Prop} {Q:Exit->Act->World->Prop} {E:Prop} (hgd:o.guard=none) (s x:Operand)
  (ho:o.op=.call { callee:=.builtin .append,args:=#[s,x],argTypes:=#[25,25] })
  (B:Nat) (v:Value) (l m:List UInt8) (hs:a.eval s=v) (hrow:AX w B v l) (ad:Addr) (n c:Nat) (hx:a.eval x=.slice (some ad) n c) (hn:n=m.length)
  (hnews:∀j u,(bv m)[j]? = some u->w.cell? (ad.add j)=some u) (hlen:l.length+m.length<=140737488355328) (hB:B<=w.heap.size)
  (h:∀v' w',AX w' B v' (l++m)->Below B w w'->K (a.put o.dst v') w'):if Region.wanted o (yielded ops a.tmps)=true then Oper.wp Tryz.prog o a w K Q else E:=by
 have hw:Region.wanted o (yielded ops a.tmps)=true:=by simp[Region.wanted,hgd]
 rw[if_pos hw];obtain⟨i0,hi,hz0,hz1,hz2⟩:=info_parts Je;subst hn;exact wp_append_own w s x _ ho B 5 i0 _ 1 1 Tryz.underlying25 hi hz0 hz1 hz2 rfl (by omega) v l.length (bv l) hs hrow ad m.length c (bv m) hx (by rw[JK];omega) hnews (O3 m)
  (by simp only[maxLen];omega) (by omega) hB fun v' w' h1 h2 _=>h v' w' (AX.appended h1 (Lk l m).symm (by simp)) (Lz hrow hB h2)
theorem TA (s:ByteArray):Lib.strCells s=bv s.data.toList:=by simp[Lib.strCells,bv]
theorem jY {w:World} {ops:Array Oper} {rest:List Oper} {o:Oper} {a:Act} {Q:Exit->Act->World->Prop} (hgd:o.guard=none) (sl x:Operand)
  (ho:o.op=.call { callee:=.builtin .append,args:=#[sl,x],argTypes:=#[25,9] })
  (B:Nat) (v:Value) (l:List UInt8) (hs:a.eval sl=v) (hrow:AX w B v l) (s:ByteArray) (hx:a.eval x=.string s)
  (hlen:l.length+s.size<=140737488355328) (hB:B<=w.heap.size)
  (h:∀v' w',AX w' B v' (l++s.data.toList)->Below B w w'->wpList Tryz.prog ops Q rest (a.put o.dst v') w'):wpList Tryz.prog ops Q (o::rest) a w:=by
 obtain⟨i0,hi,hz0,hz1,hz2⟩:=info_parts Je;exact Lib.wpList_append_own_string w hgd sl x _ _ ho B 5 i0 Tryz.underlying25 Tryz.underlying9 hi hz0 hz1 hz2 v l.length (bv l) hs hrow s hx
  (by simp only[maxLen];omega) hlen hB fun v' w' h1 h2 _=>h v' w' (AX.appended h1 (by rw[TA,Lk]) (by rw[zg,At])) (Lz hrow hB h2)
theorem YM (W:World) (xs:List Int) (n:Nat) (hn:n=xs.length) :
  (convert 25 9 (.slice (some ⟨W.heap.size,0,none⟩) n n)).run Tryz.prog (W.alloc (.cells (xs.map (Value.int .u8)).toArray 5))=.ok (.string (strOfNums xs)) (W.alloc (.cells (xs.map (Value.int .u8)).toArray 5)):=by
 refine run_convert_bytes_arg _ 25 5 Tryz.underlying25 Tryz.underlying5 W.heap.size 0 n n xs hn.symm ?_ _ Tryz.underlying9;intro i hi;rw[World.cell?_alloc_at _ _ _ _ rfl];have h:i<xs.length:=by omega
 simp[List.getD,zq h]
def Ay (l:List UInt8):List UInt8:=l.map Bl
theorem WW (l:List UInt8) (k n:Nat) (hn:l.length=n) (hk:k<n) :
  (Ay (l.take k)++qo (n - k) 0).set k (Bl (l[k]'(by omega)))=Ay (l.take (k+1))++qo (n - (k+1)) 0:=by
 have h1:(Ay (l.take k)).length=k:=by simp[Ay];omega
 rw[List.set_append_right _ _ (by omega),h1,jw,show n - k=(n - (k+1))+1 from by omega,List.replicate_succ,List.set_cons_zero,qm (by omega)];simp only[Ay,List.map_append,zr,List.map_nil,zu,List.singleton_append]
theorem NF (s:ByteArray) (w:World) (hs:s.size<=140737488351232) :
  Calls Tryz.prog 89 #[.string s] w fun e w'=>e=.returned (.string (S (Ay s.data.toList)))/\Qb w w':=by
 have hmk:=fun W=>RH s.size s.size (zd _) (by omega) W
 go_enter Tryz.func89,Tryz.ntmps89
 go_wp2_with fail
 clear hmk
 go_loopw [4,10] (fun _ i wr=>∃k:Nat,k<=s.size/\i=.int .i64 k/\AX wr w.heap.size (.slice (some ⟨w.heap.size,0,none⟩) s.size s.size) (Ay (s.data.toList.take k)++qo (s.size - k) 0)/\Qb w wr) (fun _ i _=>s.size - (intOf i).toNat)
 case atStart=>exact⟨0,ze _,rfl,JJ w _ _ _ (zd _) (zd _) (by omega),(Qb.refl w).alloc _⟩
 case round=>
  obtain⟨k,hk,rfl,hrow,hq⟩:=hrel
  by_cases hlt:k<s.size
  ·have hlen:(Ay (s.data.toList.take k)++qo (s.size - k) 0).length=s.size:=by simp[Ay,At];omega
   obtain⟨u,hc⟩:∃u,wr.cell? ⟨w.heap.size,k,none⟩=some u:=⟨_,hrow.cell k (by omega)⟩;have hf:wr.frozen? ⟨w.heap.size,k,none⟩=false:=hrow.frozen k;have hrow':=hrow.stored k (Bl s[k]);have hset:=WW s.data.toList k s.size (At s) hlt;rw[Qm s k hlt] at hset;rw[hset] at hrow';clear hset hrow hlen;have HR:=za hrow';clear hrow'
   go_wp2_with (go_at_call 123;refine(Sm _ _).mono ?_;rintro e w' ⟨rfl,rfl⟩)
   go_roundw
   case rel=>exact⟨k+1,by omega,by go_num,HR.out,hq.set (zd _) _⟩
   case measure=>simp[intOf];omega
  ·obtain rfl:k=s.size:=by omega
   have hl:Ay (s.data.toList.take s.size)++qo (s.size - s.size) 0=Ay s.data.toList:=by
    rw[je (by rw[At];omega)];simp
   rw[hl] at hrow;have hst:=Hk hrow;clear hl
   go_wp2
   go_ret
   exact⟨rfl,hq⟩
def Es (l:List UInt8):Bool:=l.all AC&&!l.isEmpty
def AN (a b:List UInt8):Bool:=Ay a==Ay b
theorem ES (p:UInt8->Bool) (s:ByteArray) (k:Nat) (h:k<s.size):(s.data.toList.take (k+1)).all p=((s.data.toList.take k).all p&&p s[k]):=by
 rw[Gj s k h,xx];simp
theorem GV (p:UInt8->Bool) (l:List UInt8) (k:Nat) (h:(l.take k).all p=false):l.all p=false:=by
 rw[<-List.take_append_drop k l,xx,h,Bool.false_and]
theorem Ee (s:ByteArray) (k:Nat) (h:¬k<s.size):s.data.toList.take k=s.data.toList:=je (by rw[At];omega)
theorem cN (s:ByteArray) (w:World) (hs:s.size<=maxLen) :
  Calls Tryz.prog 198 #[.string s] w fun e w'=>e=.returned (.bool (Es s.data.toList))/\w=w':=by
 unfold maxLen at hs
 go_enter Tryz.func198,Tryz.ntmps198
 go_wp2_with fail
 go_loop [3,6] (fun _ i=>∃k:Nat,k<=s.size/\i=.int .i64 k/\Hid ((s.data.toList.take k).all AC=true)) (fun _ i=>s.size - (intOf i).toNat)
 case atStart=>exact⟨0,ze _,rfl,za rfl⟩
 case round=>
  obtain⟨k,hk,rfl,HA⟩:=hrel
  by_cases hlt:k<s.size
  ·have HT:=za (ES AC s k hlt)
   go_wp2_with (go_at_call 177;refine(Eg _ _).mono ?_;rintro e w' ⟨rfl,rfl⟩)
   ·have hd:(!AC s[k])=true:=by assumption
    go_ret
    exact⟨AO (by
     unfold Es;rw[GV AC _ (k+1) (by rw[HT.out];simpa using fun _=>hd)];rfl),rfl⟩
   ·have hd:(!AC s[k])=false:=by assumption
    go_round
    case rel=>exact⟨k+1,by omega,by go_num,za (by rw[HT.out,HA.out];simpa using hd)⟩
    case measure=>simp[intOf];omega
  ·have HF:Hid ((s.data.toList).all AC=true):=za (by rw[<-Ee s k hlt];exact HA.out)
   go_wp2_with fail
   go_ret
   exact⟨AO (by rw[ByteArray.toList_eq];unfold Es;rw[HF.out];rfl),rfl⟩
theorem VS {a b:List UInt8} (h:a.length≠b.length):AN a b=false:=by
 unfold AN Ay;rw[beq_eq_false_iff_ne];intro e;exact h (by have:=congrArg qv e;simpa using this)
theorem RG (s:ByteArray) (k:Nat) (h:k<s.size):Ay (s.data.toList.take (k+1))=Ay (s.data.toList.take k)++[Bl s[k]]:=by
 rw[Gj s k h];simp[Ay]
theorem nN {a b:List UInt8} {k:Nat} (h:Ay (a.take k)≠Ay (b.take k)):AN a b=false:=by
 unfold AN;rw[beq_eq_false_iff_ne];intro e
 apply h
 simp only[Ay,List.map_take] at e ⊢;rw[e]
theorem Ef (a b:ByteArray) (w:World) (ha:a.size<=maxLen) (hb:b.size<=maxLen) :
  Calls Tryz.prog 134 #[.string a,.string b] w fun e w'=>e=.returned (.bool (AN a.data.toList b.data.toList))/\Qb w w':=by
 unfold maxLen at ha hb
 go_enter Tryz.func134,Tryz.ntmps134
 by_cases hl:a.size=b.size
 ·have HL:=za hl;have hl1:a.size<=b.size:=by omega
  have hb1:((a.size:Int) != (b.size:Int))=false:=by simp[hl]
  clear hl
  go_wp2_with fail
  go_loopw [5,13] (fun _ i wr=>∃k:Nat,k<=a.size/\i=.int .i64 k/\Hid (Ay (a.data.toList.take k)=Ay (b.data.toList.take k))/\Qb w wr) (fun _ i _=>a.size - (intOf i).toNat)
  case atStart=>exact⟨0,ze _,rfl,za rfl,Qb.refl w⟩
  case round=>
   obtain⟨k,hk,rfl,HA,hq⟩:=hrel
   by_cases hlt:k<a.size
   ·have hlt2:k<b.size:=by omega
    have HT:=za (RG a k hlt);have HU:=za (RG b k hlt2)
    go_wp2_with fail
    go_quiet ((go_at_call 123;exact JN (Sm _ _)))
    go_wp2_with fail
    ·have hd:((Bl a[k]).toNat:Int) != ((Bl b[k]).toNat:Int):=by assumption
     go_ret
     refine⟨AO (nN (k:=k+1) ?_).symm,hq.drewN _⟩;rw[HT.out,HU.out,HA.out];intro e;have e1:=List.append_cancel_left e;injection e1 with e1
     rw[e1] at hd;simp at hd
    ·have hd:(((Bl a[k]).toNat:Int) != ((Bl b[k]).toNat:Int))=false:=by assumption
     go_roundw
     case rel=>
      refine⟨k+1,by omega,by go_num,za ?_,hq.drewN _⟩;rw[HT.out,HU.out,HA.out];have e1:(Bl a[k]).toNat=(Bl b[k]).toNat:=by simp only[bne_eq_false_iff_eq] at hd;omega
      rw[UInt8.toNat_inj.1 e1]
     case measure=>simp[intOf];omega
   ·go_wp2_with fail
    go_ret
    refine⟨AO ?_,hq⟩;have h:=HA.out;rw[Ee a k hlt,Ee b k (by have:=HL.out;omega)] at h;unfold AN;rw[h,beq_self_eq_true]
 ·have hb1:((a.size:Int) != (b.size:Int))=true:=by simp;omega
  have HL:=za hl;clear hl
  go_wp2_with fail
  go_ret
  exact⟨AO (VS (by rw[At,At];exact HL.out)).symm,Qb.refl w⟩
theorem Ra (s:ByteArray) (k:Nat) (hk:k<s.size) :
  (Ay (s.data.toList.take k)++s.data.toList.drop k).set k (Bl s[k])=Ay (s.data.toList.take (k+1))++s.data.toList.drop (k+1):=by
 have h1:(Ay (s.data.toList.take k)).length=k:=by simp only[Ay,jg,zh,At];omega
 rw[List.set_append_right _ _ (by omega),h1,jw,Df s k hk,List.set_cons_zero,Gj s k hk];simp only[Ay,List.map_append,zr,List.map_nil,zu,List.singleton_append]
theorem Q9 (s:ByteArray) (k:Nat) (hk:k<s.size) (h:k<(Ay (s.data.toList.take k)++s.data.toList.drop k).length) :
  (Ay (s.data.toList.take k)++s.data.toList.drop k)[k]'h=s[k]:=by
 have h1:(Ay (s.data.toList.take k)).length=k:=by simp only[Ay,jg,zh,At];omega
 rw[List.getElem_append_right (by omega)];simp only[h1,jw];simp only[Df s k hk,List.getElem_cons_zero]
theorem X6 {c:UInt8} (h1:65<=(c.toNat:Int)) (h2:(c.toNat:Int)<=90):((c.toNat:Int)+32) % 256=((Bl c).toNat:Int):=by
 have:FZ c=true:=by unfold FZ;exact decide_eq_true (by omega)
 simp[Bl,this,UInt8.toNat_add]
theorem bC {c:UInt8} (h1:65<=(c.toNat:Int)) (h2:(c.toNat:Int)<=90):((c.toNat:Int)+32)=((Bl c).toNat:Int):=by
 rw[<-X6 h1 h2];omega
theorem Q8 {c:UInt8} (h:¬(65<=(c.toNat:Int)/\(c.toNat:Int)<=90)):Bl c=c:=by
 have:FZ c=false:=by unfold FZ;exact decide_eq_false (by omega)
 simp[Bl,this]
theorem JO (s:ByteArray) (w:World) (hs:s.size<=140737488351232) :
  Calls Tryz.prog 48 #[.string s] w fun e w'=>e=.returned (.string (S (Ay s.data.toList)))/\Qb w w':=by
 have hcv:=bF s
 go_enter Tryz.func48,Tryz.ntmps48
 go_wp2_with fail
 clear hcv
 go_loopw [4,9] (fun _ i wr=>∃k:Nat,k<=s.size/\i=.int .i64 k/\FS wr w.heap.size (Ay (s.data.toList.take k)++s.data.toList.drop k)/\Qb w wr) (fun _ i _=>s.size - (intOf i).toNat)
 case atStart=>exact⟨0,ze _,rfl,eB w s,gO w _ s⟩
 case round=>
  obtain⟨k,hk,rfl,hrow,hq⟩:=hrel
  by_cases hlt:k<s.size
  ·have hlen:k<(Ay (s.data.toList.take k)++s.data.toList.drop k).length:=by simp only[Ay,zg,jg,zh,List.length_drop,At];omega
   obtain⟨hc,hf⟩:=hrow k hlen;rw[Q9 s k hlt] at hc;have hrow':=hrow.stored k hlen (Bl s[k]);rw[Ra s k hlt] at hrow';have hsame:Bl s[k]=s[k]->FS wr w.heap.size (Ay (s.data.toList.take (k+1))++s.data.toList.drop (k+1)):=fun e=>by
    rw[<-Ra s k hlt,e,<-Q9 s k hlt hlen,List.set_getElem_self];exact hrow
   clear hrow hlen;have HR:=za (And.intro hrow' hsame);clear hsame;clear hrow'
   go_wp2_with fail
   ·have h1:65<=(s[k].toNat:Int):=by assumption
    have h2:(s[k].toNat:Int)<=90:=by assumption
    go_roundw
    case rel=>
     refine⟨k+1,by omega,by go_num,?_,hq.set (zd _) _⟩;rw[bC h1 h2];exact HR.out.1
    case measure=>simp[intOf];omega
   ·have h2:90<(s[k].toNat:Int):=by assumption
    go_roundw
    case rel=>exact⟨k+1,by omega,by go_num,HR.out.2 (Q8 (by omega)),hq⟩
    case measure=>simp[intOf];omega
   ·have h2:¬65<=(s[k].toNat:Int):=by assumption
    go_roundw
    case rel=>exact⟨k+1,by omega,by go_num,HR.out.2 (Q8 (by omega)),hq⟩
    case measure=>simp[intOf];omega
  ·obtain rfl:k=s.size:=by omega
   have hl:Ay (s.data.toList.take s.size)++s.data.toList.drop s.size=Ay s.data.toList:=by
    rw[Ee s _ (by omega),List.drop_of_length_le (by rw[At];omega),zy]
   rw[hl] at hrow;have hst:=hrow.str s.size (grownCap w s.size 0 5) (by simp[Ay,At]);clear hl hrow
   go_wp2
   go_ret
   exact⟨rfl,hq⟩
theorem eS (s:ByteArray) (w:World) (hs:s.size<=maxLen) :
  Calls Tryz.prog 127 #[.string s] w fun e w'=>e=.returned (.bool (Es s.data.toList))/\w=w':=by
 unfold maxLen at hs
 go_enter Tryz.func127,Tryz.ntmps127
 go_wp2_with fail
 go_loop [3] (fun i=>∃k:Nat,k<=s.size/\i=.int .i64 k/\Hid ((s.data.toList.take k).all AC=true)) (fun i=>s.size - (intOf i).toNat)
 case atStart=>exact⟨0,ze _,rfl,za rfl⟩
 case round=>
  obtain⟨k,hk,rfl,HA⟩:=hrel
  by_cases hlt:k<s.size
  ·have HT:=za (ES AC s k hlt)
   go_wp2_with (go_at_call 94;refine(EZ _ _).mono ?_;rintro e w' ⟨rfl,rfl⟩)
   ·have hd:(!AC s[k])=true:=by assumption
    go_ret
    exact⟨AO (by
     unfold Es;rw[GV AC _ (k+1) (by rw[HT.out];simpa using fun _=>hd)];rfl),rfl⟩
   ·have hd:(!AC s[k])=false:=by assumption
    go_round
    case rel=>exact⟨k+1,by omega,by go_num,za (by rw[HT.out,HA.out];simpa using hd)⟩
    case measure=>simp[intOf];omega
  ·have HF:Hid ((s.data.toList).all AC=true):=za (by rw[<-Ee s k hlt];exact HA.out)
   go_wp2_with fail
   go_ret
   exact⟨AO (by rw[ByteArray.toList_eq];unfold Es;rw[HF.out];rfl),rfl⟩
def Ep (c:UInt8):Bool:=decide (c.toNat=32\/c.toNat=9)
def FN (l:List UInt8):List UInt8:=(l.reverse.dropWhile Ep).reverse
def Ki (l:List UInt8):List UInt8:=FN (l.dropWhile Ep)
theorem Zc (l:List UInt8) (x:UInt8):FN (l++[x])=if Ep x=true then FN l else l++[x]:=by
 unfold FN;rw[List.reverse_append,List.reverse_singleton,List.singleton_append,List.dropWhile_cons]
 split<;>simp
theorem J2 {a:ByteArray} {l:List UInt8} (h:a.data.toList=l):a=S l:=by rw[<-h]
def TP (n:Nat) (l:List UInt8) (f t:Nat):Prop :=
 ∃A M B,l=A++M++B/\(∀a∈A,Ep a=true)/\(∀b∈B,Ep b=true)/\M.dropWhile Ep=M/\FN M=M /\
  ((M=[]/\f=n/\t=0)\/(M≠[]/\f=A.length/\t=A.length+M.length))
theorem TP.other {n:Nat} {l:List UInt8} {f t:Nat} {c:UInt8} (h:TP n l f t) (hc:Ep c=false) (hl:l.length<n):TP n (l++[c]) (min f l.length) (l.length+1):=by
 obtain⟨A,M,B,rfl,hA,hB,h1,h2,h3⟩:=h;rcases h3 with ⟨rfl,rfl,rfl⟩|⟨h3,rfl,rfl⟩
 ·refine⟨A++B,[c],[],by simp,?_,by simp,by simp[hc],by simp[FN,hc],.inr ⟨by simp,?_,?_⟩⟩
  ·intro a ha;rcases List.mem_append.1 ha with ha|ha
   ·exact hA a ha
   ·exact hB a ha
  ·simp at hl ⊢;omega
  ·simp
 ·refine⟨A,M++B++[c],[],by simp,hA,by simp,?_,?_,.inr ⟨by simp,?_,?_⟩⟩
  ·cases M with
   | nil=>exact absurd rfl h3
   | cons x M=>
    have hx:¬Ep x=true:=by
     intro hx;rw[List.dropWhile_cons,if_pos hx] at h1;have:=congrArg qv h1;have h4:=(List.dropWhile_sublist (p:=Ep) (l:=M)).length_le;simp at this;omega
    simp only[qy];rw[List.dropWhile_cons,if_neg hx]
  ·rw[Zc,if_neg (by rw[hc];exact Bool.false_ne_true)]
  ·simp
  ·simp;omega
theorem dN {B:List UInt8} (hB:∀b∈B,Ep b=true) (l:List UInt8):FN (l++B)=FN l:=by
 unfold FN;rw[List.reverse_append,List.dropWhile_append_of_pos];intro a ha;exact hB a (List.mem_reverse.1 ha)
theorem TP.done {l:List UInt8} {f t:Nat} (h:TP l.length l f t):(t<=f/\Ki l=[])\/(f<t/\t<=l.length/\Ki l=(l.drop f).take (t - f)):=by
 obtain⟨A,M,B,rfl,hA,hB,h1,h2,h3⟩:=h;have ht:Ki (A++M++B)=FN ((M++B).dropWhile Ep):=by
  unfold Ki;rw[zu,List.dropWhile_append_of_pos hA]
 rcases h3 with ⟨rfl,rfl,rfl⟩|⟨h3,rfl,rfl⟩
 ·refine .inl ⟨ze _,?_⟩;rw[ht,List.nil_append,<-zy B,List.dropWhile_append_of_pos hB]
  rfl
 ·have hp:0<M.length:=List.length_pos_iff.2 h3;refine .inr ⟨by omega,by simp,?_⟩;have hm:(M++B).dropWhile Ep=M++B:=by
   cases M with
   | nil=>exact absurd rfl h3
   | cons x M=>
    have hx:¬Ep x=true:=by
     intro hx;rw[List.dropWhile_cons,if_pos hx] at h1;have:=congrArg qv h1;have h4:=(List.dropWhile_sublist (p:=Ep) (l:=M)).length_le;simp at this;omega
    simp only[qy];rw[List.dropWhile_cons,if_neg hx]
  rw[ht,hm,dN hB,h2,zu,List.drop_left,Nat.add_sub_cancel_left,List.take_left]
theorem E2 (a b:ByteArray) (w:World) (ha:a.size<=140737488351232) (hb:b.size<=140737488351232) :
  Calls Tryz.prog 67 #[.string a,.string b] w fun e w'=>e=.returned (.bool (AN a.data.toList b.data.toList))/\Qb w w':=by
 go_enter Tryz.func67,Tryz.ntmps67
 go_wp2_with fail
 refine(JO a _ ha).mono ?_;rintro e w1 ⟨rfl,hq1⟩
 go_wp2_with fail
 refine(JO b _ hb).mono ?_;rintro e w2 ⟨rfl,hq2⟩
 go_wp2_with fail
 go_ret
 exact⟨rfl,hq1.trans hq2⟩
end Go.Proofs.YtbeoijfmfkifeaaGreatDoor
namespace Go.Proofs.YtbeoijfmfkifeaaGreatDoor.Sx
open Go.RowKit
theorem A2 {a b:Prop} (x:a) (y:b):a/\b:=⟨x,y⟩
set_option linter.defProp false in
def rP:=A2 @pY <| A2 @qB <| A2 @Xq <| A2 @pZ <| A2 @lT <| A2 @pX <| A2 @pU <| A2 @pV <| A2 @pT <| A2 @lW <| A2 @lV <| A2 @CY.eq_1 <| A2 @lY <| A2 @lX <| A2 @FO.eq_1 <| A2 @FO.eq_2 <| A2 @C6 <| A2 @Zh <| A2 @dR <| A2 @eW <| A2 @qA <| A2 @Xo <| A2 @Xp <| A2 @Xj <| A2 @Y0 <| A2 @Xk <| A2 @Y1 <| A2 @V7 <| A2 @Xi <| A2 @CN.eq_1 <| A2 @CN.eq_2 <| A2 @I1.eq_1 <| A2 @I1.eq_2 <| A2 @J7.eq_1 <| A2 @J7.eq_2 <| A2 @J7.eq_3 <| A2 @J7.eq_4 <| A2 @Fv.eq_1 <| A2 @Fv.eq_2 <| A2 @Fg.eq_1 <| A2 @Fg.eq_2 <| A2 @Fg.eq_3 <| A2 @Fg.eq_4 <| A2 @Fg.eq_5 <| A2 @Fg.eq_6 <| A2 @fN <| A2 @bS <| A2 @bB <| A2 @pA <| A2 @pB <| A2 @qR <| A2 @WE <| A2 @oY <| A2 @oZ <| A2 @qQ <| A2 @WD <| A2 @rC <| A2 @lU <| A2 @kO.eq_1 <| A2 @mQ <| A2 @WR <| A2 @WQ <| A2 @V6 <| A2 @L0.eq_1 <| A2 @L0.eq_2 <| A2 @L0.eq_3 <| A2 @Xg <| A2 @Ey.eq_1 <| A2 @Ey.eq_2 <| A2 @Ey.eq_3 <| A2 @Ey.eq_4 <| A2 @Ey.eq_5 <| A2 @Ey.eq_6 <| A2 @Ey.eq_7 <| A2 @Ey.eq_8 <| A2 @Vk.eq_1 <| A2 @mF <| A2 @E7.eq_1 <| A2 @E7.eq_2 <| A2 @E7.eq_3 <| A2 @E7.eq_4 <| A2 @E7.eq_5 <| A2 @E7.eq_6 <| A2 @E7.eq_7 <| A2 @E7.eq_8 <| A2 @E7.eq_9 <| A2 @E7.eq_10 <| A2 @E7.eq_11 <| A2 @L6.eq_1 <| A2 @L6.eq_2 <| A2 @L6.eq_3 <| A2 @mD <| A2 @nY <| A2 @nZ <| A2 @I9.eq_1 <| A2 @I9.eq_2 <| A2 @I9.eq_3 <| A2 @I9.eq_4 <| A2 @V5 <| A2 @ON.eq_1 <| A2 @ON.eq_2 <| A2 @Vy.eq_1 <| A2 @mC <| A2 @OR.eq_1 <| A2 @OR.eq_2 <| A2 @Vj.eq_1 <| A2 @V2 <| A2 @IZ.eq_1 <| A2 @IZ.eq_3 <| A2 @IZ.eq_4 <| A2 @V4 <| A2 @lN <| A2 @V3 <| A2 @XG <| A2 @mE <| A2 @Ah.eq_1 <| A2 @Ah.eq_3 <| A2 @Ah.eq_4 <| A2 @Ah.eq_5 <| A2 @Ah.eq_6 <| A2 @Ah.eq_7 <| A2 @Ah.eq_9 <| A2 @Ah.eq_10 <| A2 @Ah.eq_11 <| A2 @Ah.eq_13 <| A2 @Ah.eq_14 <| A2 @Ah.eq_15 <| A2 @Ah.eq_17 <| A2 @Ah.eq_18 <| A2 @Ah.eq_20 <| A2 @Ah.eq_21 <| A2 @Ah.eq_22 <| A2 @Ah.eq_23 <| A2 @Ah.eq_24 <| A2 @Ah.eq_25 <| A2 @Ah.eq_26 <| A2 @Ah.eq_27 <| A2 @Ah.eq_28 <| A2 @Ah.eq_34 <| A2 @Ah.eq_35 <| A2 @Ah.eq_37 <| A2 @Ah.eq_39 <| A2 @Ah.eq_40 <| A2 @Ah.eq_41 <| A2 @Ah.eq_42 <| A2 @Ah.eq_44 <| A2 @Ah.eq_45 <| A2 @Ah.eq_46 <| A2 @Ah.eq_47 <| A2 @qW <| A2 @nC <| A2 @pP <| A2 @pI <| A2 @pJ <| A2 @nA <| A2 @nB <| A2 @pH <| A2 @XL <| A2 @XK <| A2 @Zz <| A2 @XJ <| A2 @qX <| A2 @XI <| A2 @XH <| A2 @pL <| A2 @pN <| A2 @pM <| A2 @pK <| A2 @pD <| A2 @V8 <| A2 @V9 <| A2 @XM <| A2 @pG <| A2 @pF <| A2 @pO <| A2 @pE <| A2 @rA <| A2 @qZ <| A2 @qY <| A2 @Gv.eq_1 <| A2 @Gv.eq_2 <| A2 @Ft.eq_1 <| A2 @Ft.eq_2 <| A2 @pW <| A2 @nG <| A2 @dS.eq_1 <| A2 @dS.eq_2 <| A2 @dS.eq_3 <| A2 @dS.eq_4 <| A2 @dS.eq_5 <| A2 @dS.eq_6 <| A2 @dS.eq_7 <| A2 @dS.eq_8 <| A2 @dS.eq_9 <| A2 @dS.eq_10 <| A2 @dS.eq_11 <| A2 @dS.eq_12 <| A2 @dS.eq_13 <| A2 @dS.eq_14 <| A2 @dS.eq_15 <| A2 @dS.eq_16 <| A2 @dS.eq_17 <| A2 @dS.eq_18 <| A2 @dS.eq_19 <| A2 @dS.eq_20 <| A2 @dS.eq_21 <| A2 @dS.eq_22 <| A2 @dS.eq_23 <| A2 @dS.eq_24 <| A2 @dS.eq_25 <| A2 @dS.eq_26 <| A2 @dS.eq_27 <| A2 @dS.eq_28 <| A2 @dS.eq_29 <| A2 @dS.eq_30 <| A2 @dS.eq_31 <| A2 @dS.eq_32 <| A2 @dS.eq_33 <| A2 @dS.eq_34 <| A2 @dS.eq_35 <| A2 @dS.eq_36 <| A2 @dS.eq_37 <| A2 @dS.eq_38 <| A2 @dS.eq_39 <| A2 @dS.eq_40 <| A2 @dS.eq_41 <| A2 @dS.eq_42 <| A2 @dS.eq_43 <| A2 @dS.eq_44 <| A2 @dS.eq_45 <| A2 @dS.eq_46 <| A2 @mO <| A2 @mN <| A2 @mM <| A2 @mL <| A2 @lG <| A2 @lH <| A2 @oD <| A2 @oC <| A2 @oB <| A2 @oA <| A2 @mJ <| A2 @mK <| A2 @Zg <| A2 @aE <| A2 @lD <| A2 @lC @Xn
set_option linter.defProp false in
def rO:=A2 @List.length_cons.{0} <| A2 @List.length_nil.{0} <| A2 @List.length_append.{0} <| A2 @List.length_replicate.{0} <| A2 @List.length_set.{0} <| A2 @List.cons_append.{0} <| A2 @List.nil_append.{0} <| A2 @List.append_nil.{0} <| A2 @List.getElem?_cons_zero.{0} <| A2 @List.getElem?_cons_succ.{0} <| A2 @List.getElem?_nil.{0} <| A2 @Option.getD_some.{0} <| A2 @Option.getD_none.{0} <| A2 @List.set_cons_zero.{0} <| A2 @List.set_cons_succ.{0} <| A2 @List.set_nil.{0} <| A2 @List.map_cons.{0,0} <| A2 @List.map_nil.{0,0} <| A2 @List.take_succ_cons.{0} <| A2 @List.take_zero.{0} <| A2 @List.drop_succ_cons.{0} <| A2 @List.drop_zero.{0} <| A2 @List.take_nil.{0} <| A2 @List.drop_nil.{0} <| A2 @List.take_length.{0} <| A2 @Int.toNat_natCast <| A2 @Int.toNat_natCast_add_one <| A2 @Bool.not_true <| A2 @Bool.not_false <| A2 @Bool.and_true <| A2 @Bool.true_and <| A2 @Bool.and_false <| A2 @Bool.false_and <| A2 @true_and <| A2 @and_true <| A2 @true_implies <| A2 @false_implies <| A2 @Option.bind_some.{0,0} <| A2 @Option.map_some.{0,0} <| A2 @Bool.false_eq_true <| A2 @Bool.true_eq_false <| A2 @decide_true <| A2 @decide_false <| A2 @not_true_eq_false <| A2 @not_false_eq_true @beq_self_eq_true.{0}
set_option linter.defProp false in
def Aa:=A2 @Rt <| A2 rP <| A2 rO <| A2 @forall_const.{1} <| A2 @implies_true.{1} <| A2 @implies_true.{0} <| A2 @if_true.{1} <| A2 @if_false.{1} <| A2 @ite_true.{1} <| A2 @ite_false.{1} <| A2 @exists_eq_left'.{1} <| A2 @exists_eq'.{1} <| A2 @ne_eq.{1} <| A2 @EL.eq_1 <| A2 @EL.eq_2 <| A2 @AD.eq_1 <| A2 @AD.eq_2 <| A2 @SV.ev.eq_1 <| A2 @SV.ev.eq_2 <| A2 @AV.flat.eq_1 <| A2 @AV.flat.eq_2 <| A2 @AV.one.eq_1 <| A2 @AV.one.eq_2 <| A2 @AV.one.eq_3 <| A2 @AV.one.eq_4 <| A2 @AV.one.eq_5 <| A2 @AV.cells.eq_1 <| A2 @AV.cells.eq_2 <| A2 @EC.eq_1 <| A2 @EC.eq_2 <| A2 @GB.eq_1 <| A2 @GB.eq_2 <| A2 @GB.eq_3 <| A2 @Fe.eq_1 <| A2 @Fe.eq_2 <| A2 @Bt.eq_1 <| A2 @Bt.eq_2 <| A2 @Bt.eq_3 <| A2 @Bt.eq_4 <| A2 @Bt.eq_5 <| A2 @CR.eq_1 <| A2 @CR.eq_2 <| A2 @AV.plain.eq_1 <| A2 @AV.plain.eq_2 <| A2 @AV.plain.eq_3 <| A2 @AV.plain.eq_4 <| A2 @AV.plain.eq_5 <| A2 @AV.plain.eq_6 <| A2 @AV.plain.eq_7 <| A2 @AV.plain.eq_8 <| A2 @AV.plain.eq_9 <| A2 @AV.plain.eq_10 <| A2 @AV.plain.eq_11 <| A2 @AV.plain.eq_12 <| A2 @AV.plain.eq_13 <| A2 @AE.eq_1 <| A2 @AE.eq_2 <| A2 @Dk.eq_1 <| A2 @Dk.eq_2 <| A2 @Dk.eq_3 <| A2 @Dk.eq_4 <| A2 @Cv.eq_1 <| A2 @D7.eq_1 <| A2 @D7.eq_2 <| A2 @Dp.eq_1 <| A2 @Dp.eq_2 <| A2 @Dp.eq_3 <| A2 @Dp.eq_4 <| A2 @Dp.eq_5 <| A2 @Fc.eq_1 <| A2 @Fc.eq_2 <| A2 @Fc.eq_3 <| A2 @List.replicate.eq_1.{0} @List.replicate.eq_2.{0}
end Go.Proofs.YtbeoijfmfkifeaaGreatDoor.Sx
namespace Go.Proofs.YtbeoijfmfkifeaaGreatDoor
open Go.RowKit Sx
open Option renaming some->zx
class Shp (P:Program) [Tabs P]:Prop where
 sh:∀w:World,Tabs.T (P:=P) w->w.ShapedOpen P
class Pow (P:Program) [Tabs P]:Prop where
 pw : ∀ w : World, Tabs.T (P := P) w → Lib.TabIs P w "internal/strconv.uint64pow10" .u64 Lib.pow10Tab
theorem Tx {P:Program} {w w':World} (h:w.ShapedOpen P) (hk:∀k,k<w.heap.size->w'.heap[k]? = w.heap[k]?):w'.ShapedOpen P:=by
 have lt:∀{k:Nat} {o:Obj},w.heap[k]? = some o->k<w.heap.size:=fun {k o} e=>by
  rcases Nat.lt_or_ge k w.heap.size with h1|h1
  ·exact h1
  ·rw[Array.getElem?_eq_none h1] at e;cases e
 refine⟨fun g zero t hg hz=>?_,fun k hk1 hk2=>?_⟩
 ·obtain⟨cs,h1,h2,h3⟩:=h.1 g zero t hg hz;refine⟨cs,(hk g (lt h1)).trans h1,h2,fun hb=>Row.ok_of_shape (fun b x hx=>?_) (h3 hb)⟩;rcases Nat.lt_or_ge b w.heap.size with h4|h4
  ·simpa[World.shape?,hk b h4] using hx
  ·simp[World.shape?,Array.getElem?_eq_none h4] at hx
 ·obtain⟨o,o₀,h1,h2,h3⟩:=h.2 k hk1 hk2;exact⟨o,o₀,(hk k (lt h1)).trans h1,h2,h3⟩
mutual
/-- a value without memory, as it is -/
def val:AV->Option Value
 | .s l=>some (.string ⟨l.toArray⟩)
 | .i k n=>some (.int k n)
 | .b x=>some (.bool x)
 | .agg cs=>match EN cs with
  | some vs=>if vs.all (·.oneCell')=true then some (.agg vs.toArray) else none
  | none=>none
 | .tup cs=>(EN cs).map fun vs=>.tuple vs.toArray
 | _=>none
def EN:List AV->Option (List Value)
 | []=>some []
 | x::xs=>match val x,EN xs with
  | some v,some vs=>some (v::vs)
  | _,_=>none
end
mutual
theorem Hm (G:Gh) (I:Ak):∀(x:AV) (v:Value),val x=some v->∀y,Ab G I x y↔y=v
 | .s l,v,h,y=>by simp only[val,zx.injEq] at h;subst h;simp[Ab]
 | .i k n,v,h,y=>by simp only[val,zx.injEq] at h;subst h;simp[Ab]
 | .b x,v,h,y=>by simp only[val,zx.injEq] at h;subst h;simp[Ab]
 | .agg cs,v,h,y=>by
  simp only[val] at h
  split at h
  ·rename_i vs h1
   split at h
   ·rename_i h2;injection h with h;subst h
    simp only[Ab]
    constructor
    ·rintro⟨ys,rfl,k1,_⟩;rw[(Fo G I cs vs h1 ys).1 k1]
    ·rintro rfl;exact⟨vs,rfl,(Fo G I cs vs h1 vs).2 rfl,fun u hu=>(List.all_eq_true.1 h2) u hu⟩
   ·cases h
  ·cases h
 | .tup cs,v,h,y=>by
  simp only[val,Option.map_eq_some_iff] at h;obtain⟨vs,h1,rfl⟩:=h;simp only[Ab]
  constructor
  ·rintro⟨ys,rfl,k1⟩;rw[(Fo G I cs vs h1 ys).1 k1]
  ·rintro rfl;exact⟨vs,rfl,(Fo G I cs vs h1 vs).2 rfl⟩
 | .p _ _,v,h,y=>by simp[val] at h
 | .row _ _,v,h,y=>by simp[val] at h
 | .prow _ _,v,h,y=>by simp[val] at h
 | .orow _ _,v,h,y=>by simp[val] at h
 | .porow _ _ _,v,h,y=>by simp[val] at h
 | .bsl _ _ _,v,h,y=>by simp[val] at h
 | .m _,v,h,y=>by simp[val] at h
 | .ip _ _ _,v,h,y=>by simp[val] at h
 | .zn _,v,h,y=>by simp[val] at h
 | .nil,v,h,y=>by simp[val] at h
 | .fn _ _ _,v,h,y=>by simp[val] at h
 | .o _,v,h,y=>by simp[val] at h
 | .u,v,h,y=>by simp[val] at h
theorem Fo (G:Gh) (I:Ak):∀(xs:List AV) (vs:List Value),EN xs=some vs->∀ys,Ac G I xs ys↔ys=vs
 | [],vs,h,ys=>by simp only[EN,zx.injEq] at h;subst h;simp[Ac]
 | x::xs,vs,h,ys=>by
  simp only[EN] at h
  split at h
  ·rename_i v vs' h1 h2;injection h with h;subst h
   simp only[Ac]
   constructor
   ·rintro⟨y,ys',rfl,k1,k2⟩;rw[(Hm G I x v h1 y).1 k1,(Fo G I xs vs' h2 ys').1 k2]
   ·rintro rfl;exact⟨v,vs',rfl,(Hm G I x v h1 v).2 rfl,(Fo G I xs vs' h2 vs').2 rfl⟩
  ·cases h
end
section
variable {P:Program} [Tabs P] {f:FuncId} {args:List AV} {vs:List Value} {r:AV} {v:Value} {objs:List OB} {K:List OB->AV->Prop}
theorem conv (ha:EN args=some vs) (hr:val r=some v) (h:∀w,Calls P f vs.toArray w fun e w'=>e=.returned v/\Qb w w') (hk:K objs r):Ai P f args objs K :=
 dZ r hk fun G I w ys hm hd=>by
  rw[(Fo G I args vs ha ys).1 hd];exact⟨v,h w,(Hm G I r v hr v).2 rfl⟩
theorem FY (ha:EN args=some vs) (hr:val r=some v) (h:∀w,Calls P f vs.toArray w fun e w'=>e=.returned v/\w=w') (hk:K objs r):Ai P f args objs K :=
 conv ha hr (fun w=>(h w).mono (by rintro e w' ⟨rfl,rfl⟩;exact⟨rfl,Qb.refl _⟩)) hk
theorem Ma (ha:EN args=some vs) (hr:val r=some v) (h:∀w,Tabs.T (P:=P) w->Calls P f vs.toArray w fun e w'=>e=.returned v/\Qb w w') (hk:K objs r):Ai P f args objs K :=
 N4 r hk fun G I w ys hT hm hd=>by
  rw[(Fo G I args vs ha ys).1 hd];exact⟨v,h w hT,(Hm G I r v hr v).2 rfl⟩
end
end Go.Proofs.YtbeoijfmfkifeaaGreatDoor
namespace Go.Proofs.YtbeoijfmfkifeaaGreatDoor
open Sx
theorem Bd (l:List OB) (x:OB):(l++[x])[l.length]? = some x:=by simp
theorem BX (l:List OB) (x y:OB):(l++[x]).set l.length y=l++[y]:=by simp
end Go.Proofs.YtbeoijfmfkifeaaGreatDoor
namespace Go.Proofs.YtbeoijfmfkifeaaGreatDoor
open Go.RowKit
open Lib renaming hid->za, indexByte->jl
open List renaming length_drop->zt, take_of_length_le->je
theorem WJ:(Tryz.prog.info? 9).map (fun i=>(i.zero,i.size,i.bytes))=some (some (.string ByteArray.empty),1,16):=by kernel_rfl
def sv (ls:List (List UInt8)):List Value:=ls.map fun l=>.string (S l)
theorem Sf (ls:List (List UInt8)):(sv ls).length=ls.length:=by simp[sv]
theorem cG (a b:List (List UInt8)):sv (a++b)=sv a++sv b:=by simp[sv]
theorem Pi (ls:List (List UInt8)) (i:Nat) (h:i<ls.length):(sv ls)[i]? = some (.string (S ls[i])):=by simp[sv,h]
theorem My (ls:List (List UInt8)):∀u∈sv ls,u.oneCell'=true:=by
 intro u hu;obtain⟨c,_,rfl⟩:=List.mem_map.1 hu
 rfl
def Cd (w:World) (base:Nat) (v:Value) (ls:List (List UInt8)):Prop:=w.ownsRow base 9 1 v ls.length (sv ls)
theorem Cd.nil (w:World) (base:Nat):Cd w base (.slice none 0 0) []:=World.ownsRow_nil w base _ _
theorem Cd.drew {w:World} {base:Nat} {v:Value} {l:List (List UInt8)} (h:Cd w base v l):Cd w.drew base v l:=h
theorem Cd.drewN {w:World} {base:Nat} {v:Value} {l:List (List UInt8)} (h:Cd w base v l) (n:Nat):Cd (w.drewN n) base v l:=h
theorem Cd.alloc {w:World} {base:Nat} {v:Value} {l:List (List UInt8)} (h:Cd w base v l) (o:Obj):Cd (w.alloc o) base v l:=World.ownsRow.alloc h o
theorem Cd.below {w w':World} {base:Nat} {v:Value} {l:List (List UInt8)} (h:Cd w base v l) (hb:Qb w w'):Cd w' base v l:=by
 refine World.ownsRow.kept (row:=none) h ⟨hb.os,hb.tape,hb.output,Below.size hb,fun k hk _=>Below.block hb k hk⟩ ?_;rcases h.2 with ⟨rfl,_⟩|⟨g,cap,cur,rfl,_⟩
 ·exact .inl rfl
 ·exact .inr (by simp[Value.ownBlock])
theorem Cd.form {w:World} {base:Nat} {v:Value} {l:List (List UInt8)} (h:Cd w base v l) (hl:0<l.length):∃g cap,v=.slice (some ⟨g,0,none⟩) l.length cap/\base<=g/\g<w.heap.size/\l.length<=cap:=by
 rcases h.2 with ⟨rfl,hn⟩|⟨g,cap,cur,rfl,hb,hg,hnc,_⟩
 ·omega
 ·refine⟨g,cap,rfl,hb,?_,hnc⟩;rcases Nat.lt_or_ge g w.heap.size with h1|h1
  ·exact h1
  ·rw[Array.getElem?_eq_none h1] at hg;cases hg
theorem Cd.cell {w:World} {B g n cap:Nat} {l:List (List UInt8)} (h:Cd w B (.slice (some ⟨g,0,none⟩) n cap) l) (j:Nat) (hj:j<l.length):w.cell? ⟨g,j,none⟩=some (.string (S l[j])):=by
 have h':=h;rcases h'.2 with ⟨e,_⟩|⟨g',cap',cur,e,_⟩
 ·simp at e
 ·simp only[Value.slice.injEq] at e;obtain⟨_,rfl,_⟩:=e;rw[World.ownsRow.cellAt (h:World.ownsRow _ _ _ _ _ _ _) j (by omega),Pi l j hj]
theorem fK {w w':World} {B:Nat} {v:Value} {l:List (List UInt8)} (h:Cd w B v l) (hB:B<=w.heap.size) (hg:w.grownBy w' v.ownBlock):Below B w w' :=
 (Below.refl B w).grown hg hB (fun k hk=>(World.ownsRow.lt h k hk).1)
theorem Cd.appended {w':World} {B:Nat} {v':Value} {l m:List (List UInt8)} {xs:List Value} {n:Nat} (h:w'.ownsRow B 9 1 v' n xs) (hx:xs=sv (l++m)) (hn:n=(l++m).length):Cd w' B v' (l++m):=by
 subst hx hn;exact h
theorem U9 {w:World} {ops:Array Oper} {rest:List Oper} {o:Oper} {a:Act} {Q:Exit->Act->World->Prop} (hgd:o.guard=none) (s x:Operand)
  (ho:o.op=.call { callee:=.builtin .append,args:=#[s,x],argTypes:=#[145,145] })
  (B:Nat) (v:Value) (l m:List (List UInt8)) (hs:a.eval s=v) (hrow:Cd w B v l) (ad:Addr) (n c:Nat) (hx:a.eval x=.slice (some ad) n c) (hn:n=m.length)
  (hnews:∀j u,(sv m)[j]? = some u->w.cell? (ad.add j)=some u) (hlen:l.length+m.length<=1000000000) (hB:B<=w.heap.size)
  (h:∀v' w',Cd w' B v' (l++m)->Below B w w'->wpList Tryz.prog ops Q rest (a.put o.dst v') w'):wpList Tryz.prog ops Q (o::rest) a w:=by
 obtain⟨i0,hi,hz0,hz1,hz2⟩:=info_parts WJ;subst hn;exact wpList_append_own w hgd s x _ ho B 9 i0 _ 1 16 Tryz.underlying145 hi hz0 hz1 hz2 rfl (by omega) v l.length (sv l) hs hrow ad m.length c (sv m) hx (by rw[Sf];omega) hnews (My m)
  (by simp only[maxLen];omega) (by omega) hB fun v' w' h1 h2 _=>h v' w' (Cd.appended h1 (cG l m).symm (by simp)) (fK hrow hB h2)
theorem Pt (W:World) (a:ByteArray):∀j u,(sv [a.data.toList])[j]? = some u->(W.alloc (.cells #[.string a] 9)).cell? ((⟨W.heap.size,0,none⟩:Addr).add j)=some u:=by
 intro j u hj;rw[B9,World.cell?_alloc_at _ _ _ _ rfl];have:sv [a.data.toList]=[.string a]:=by simp[sv]
 rw[this] at hj;simpa using hj
def Af (c:UInt8):List UInt8->List UInt8×List UInt8×Bool
 | []=>([],[],false)
 | x::t=>if x=c then ([],t,true) else (x::(Af c t).1,(Af c t).2.1,(Af c t).2.2)
theorem Du (c:UInt8):∀l:List UInt8,(jl l c=-1/\Af c l=(l,[],false)/\c∉l)\/∃k:Nat,jl l c=k/\k<l.length/\Af c l=(l.take k,l.drop (k+1),true)/\l[k]? = some c
 | []=>.inl ⟨rfl,rfl,by simp⟩
 | x::t=>by
  unfold jl Af
  by_cases h:x=c
  ·subst h;exact .inr ⟨0,by simp,by simp,by simp,by simp⟩
  ·rw[if_neg (by simpa using h),if_neg h];rcases Du c t with ⟨h1,h2,h3⟩|⟨k,h1,h2,h3,h4⟩
   ·refine .inl ⟨by rw[h1];rfl,by rw[h2],?_⟩;simp only[List.mem_cons,not_or];exact⟨fun e=>h e.symm,h3⟩
   ·refine .inr ⟨k+1,?_,by simpa using h2,?_,by simpa using h4⟩
    ·rw[h1,if_neg (by simp only[beq_iff_eq];omega)];omega
    ·rw[h3];simp
theorem EU (c:UInt8) (l:List UInt8):(Af c l).1.length<=l.length/\((Af c l).2.2=true->(Af c l).1.length+(Af c l).2.1.length+1=l.length)/\((Af c l).2.2=false->(Af c l).1=l/\(Af c l).2.1=[]):=by
 rcases Du c l with ⟨h1,h2,h3⟩|⟨k,h1,h2,h3,h4⟩
 ·rw[h2];simp
 ·rw[h3];simp;omega
theorem Dn (c:UInt8) (l:List UInt8):(Af c l).1.length<=l.length/\(Af c l).2.1.length<=l.length:=by
 rcases Du c l with ⟨h1,h2,h3⟩|⟨k,h1,h2,h3,h4⟩
 ·rw[h2];simp
 ·rw[h3];simp;omega
def Ap (c:UInt8):List UInt8->List (List UInt8)
 | []=>[[]]
 | x::t=>if x=c then []::Ap c t else match Ap c t with
  | p::ps=>(x::p)::ps
  | []=>[[x]]
theorem Cp (c:UInt8):∀l,∃p ps,Ap c l=p::ps
 | []=>⟨_,_,rfl⟩
 | x::t=>by
  unfold Ap
  by_cases h:x=c
  ·rw[if_pos h];exact⟨_,_,rfl⟩
  ·rw[if_neg h];obtain⟨p,ps,e⟩:=Cp c t;rw[e];exact⟨_,_,rfl⟩
theorem E4 (c:UInt8) (l:List UInt8):0<(Ap c l).length:=by obtain⟨p,ps,e⟩:=Cp c l;rw[e];simp
theorem IM (c:UInt8):∀l,(Ap c l).length<=l.length+1
 | []=>by simp[Ap]
 | x::t=>by
  have:=IM c t;unfold Ap
  by_cases h:x=c
  ·rw[if_pos h];simp;omega
  ·rw[if_neg h];obtain⟨p,ps,e⟩:=Cp c t;rw[e] at this ⊢;simp at this ⊢;omega
theorem C7 (c x:UInt8) (t:List UInt8):Ap c (x::t)=if x=c then []::Ap c t else match Ap c t with
  | p::ps=>(x::p)::ps
  | []=>[[x]]:=rfl
theorem Gf (c x:UInt8) (t:List UInt8):Af c (x::t)=if x=c then ([],t,true) else (x::(Af c t).1,(Af c t).2.1,(Af c t).2.2):=rfl
theorem DM (c:UInt8):∀l,Ap c l=if (Af c l).2.2=true then (Af c l).1::Ap c (Af c l).2.1 else [l]
 | []=>rfl
 | x::t=>by
  have ih:=DM c t;rw[C7,Gf]
  by_cases h:x=c
  ·rw[if_pos h,if_pos h,if_pos rfl]
  ·rw[if_neg h,if_neg h,ih]
   by_cases h2:(Af c t).2.2=true
   ·rw[if_pos h2,if_pos h2]
   ·rw[if_neg h2,if_neg h2]
def GR (c:UInt8) (r:List (List UInt8)×List UInt8) (x:UInt8):List (List UInt8)×List UInt8:=if x=c then (r.1++[r.2],[]) else (r.1,r.2++[x])
def Fh (c:UInt8) (l:List UInt8):List (List UInt8)×List UInt8:=l.foldl (GR c) ([],[])
theorem dA (c x:UInt8) (l:List UInt8):Fh c (l++[x])=GR c (Fh c l) x:=by unfold Fh;rw[List.foldl_append];rfl
theorem N3 (c:UInt8):∀(l:List UInt8) (d:List (List UInt8)) (cur p:List UInt8) (ps:List (List UInt8)),Ap c l=p::ps->(l.foldl (GR c) (d,cur)).1++[(l.foldl (GR c) (d,cur)).2]=d++(cur++p)::ps
 | [],d,cur,p,ps,h=>by
  rw[Ap] at h;injection h with h1 h2;subst h1 h2;simp
 | x::t,d,cur,p,ps,h=>by
  rw[C7] at h;obtain⟨q,qs,e⟩:=Cp c t;rw[List.foldl_cons]
  by_cases hx:x=c
  ·rw[if_pos hx] at h;injection h with h1 h2
   subst h1;rw[show GR c (d,cur) x=(d++[cur],[]) from if_pos hx,N3 c t _ _ q qs e,<-h2,e];simp
  ·rw[if_neg hx,e] at h;injection h with h1 h2
   subst h1 h2;rw[show GR c (d,cur) x=(d,cur++[x]) from if_neg hx,N3 c t _ _ q qs e];simp
theorem fA (c:UInt8) (l:List UInt8):Ap c l=(Fh c l).1++[(Fh c l).2]:=by
 obtain⟨p,ps,e⟩:=Cp c l;unfold Fh;rw[N3 c l [] [] p ps e,e];rfl
def BO (x:List UInt8×List UInt8×Bool):Value:=.tuple #[.string (S x.1),.string (S x.2.1),.bool x.2.2]
theorem X4 (s:ByteArray) (c:UInt8) (w:World) (hs:s.size<=maxLen) :
  Calls Tryz.prog 122 #[.string s,.string ⟨#[c]⟩] w fun e w'=>e=.returned (BO (Af c s.data.toList))/\Qb w w':=by
 unfold maxLen at hs;rcases Du c s.data.toList with ⟨h1,h2,_⟩|⟨k,h1,h2,h3,_⟩
 ·have HI:=za h1;have HC:=za h2;clear h1 h2
  go_enter Tryz.func122,Tryz.ntmps122
  go_wp2_with fail
  refine(Tryz.stringslite_Index_one _ _ _).mono ?_;rintro e w' ⟨rfl,rfl⟩;rw[HI.out]
  go_wp2_with fail
  go_ret3
  exact⟨by rw[HC.out];rfl,Qb.refl _⟩
 ·rw[At] at h2;have HI:=za h1;have HC:=za h3;clear h1 h3;have i0:(0:Int)<=(k:Int):=by omega
  have i1:(k:Int)<(s.size:Int):=by omega
  have q1:IntKind.i64.wrap ((k:Int)+1)=(k:Int)+1:=IntWalk.i64_in _ (by omega);have q2:(0:Int)<=(k:Int)+1:=by omega
  have q3:((k:Int)+1).toNat=k+1:=by omega
  have q4:(k:Int)+1<=(s.size:Int):=by omega
  go_enter Tryz.func122,Tryz.ntmps122
  go_wp2_with fail
  refine(Tryz.stringslite_Index_one _ _ _).mono ?_;rintro e w' ⟨rfl,rfl⟩;rw[HI.out]
  go_wp2_with fail
  go_quiet (fail)
  go_wp2_with fail
  go_ret3
  refine⟨?_,(Qb.refl _).drewN _⟩;rw[HC.out];refine congrArg Ending.returned (congrArg Value.tuple ?_);rw[show S (s.data.toList.take k)=s.extract 0 k from by rw[<-G4 (s.extract 0 k),Lib.extract_data];simp,show S (s.data.toList.drop (k+1))=s.extract (k+1) s.size from by
   rw[<-G4 (s.extract (k+1) s.size),Lib.extract_data];congr 2;rw[je];rw[zt,At];omega]
  try rfl
theorem CD (s:ByteArray) (c:UInt8) (w:World) (hs:s.size<=maxLen) :
  Calls Tryz.prog 88 #[.string s,.string ⟨#[c]⟩] w fun e w'=>e=.returned (BO (Af c s.data.toList))/\Qb w w':=by
 go_enter Tryz.func88,Tryz.ntmps88
 go_wp2_with fail
 refine(X4 _ _ _ hs).mono ?_;rintro e w' ⟨rfl,hq⟩;unfold BO
 go_wp2_with fail
 go_ret3
 exact⟨rfl,hq⟩
theorem FJ (s:ByteArray) (k:Nat):s.extract 0 k=S (s.data.toList.take k):=by rw[<-G4 (s.extract 0 k),Lib.extract_data];simp
theorem Tr (s:ByteArray) (i j:Nat):s.extract i j=S ((s.data.toList.drop i).take (j - i)):=by rw[<-G4 (s.extract i j),Lib.extract_data]
theorem EI (s:ByteArray) (k:Nat):s.extract k s.size=S (s.data.toList.drop k):=by
 rw[Tr,je (by rw[zt,At];omega)]
def Y5 (l:List UInt8) (c:UInt8) (w:World) (e:Ending) (w':World):Prop:=∃v,e=.returned v/\Cd w' w.heap.size v (Ap c l)/\Qb w w'
theorem Lx (s:ByteArray) (c:UInt8) (w:World) (hs:s.size<=1000000) :
  Calls Tryz.prog 95 #[.string s,.int .u8 c.toNat] w (Y5 s.data.toList c w):=by
 go_enter Tryz.func95,Tryz.ntmps95
 go_wp2_with fail
 go_loopw [5,6,7] (fun v f i wr=>∃(k j:Nat) (ls:List (List UInt8)),k<=s.size/\j<=k/\ls.length<=k/\i=.int .i64 k/\f=.int .i64 j/\Cd wr w.heap.size v ls/\Hid (Fh c (s.data.toList.take k)=(ls,(s.data.toList.drop j).take (k - j)))/\Qb w wr) (fun _ _ i _=>s.size - (intOf i).toNat)
 case atStart=>exact⟨0,0,[],Nat.zero_le _,Nat.le_refl _,Nat.le_refl _,rfl,rfl,Cd.nil _ _,za (by simp[Fh]),Qb.refl w⟩
 case round=>
  obtain⟨k,j,ls,hk,hj,hls,rfl,rfl,hrow,HL,hq⟩:=hrel;have hB:w.heap.size<=wr.heap.size:=hq.size;have HX:=za (Tr s j k)
  by_cases hlt:k<s.size
  ·have HS:=za ((congrArg (Fh c) (Gj s k hlt)).trans (dA c s[k] (s.data.toList.take k)))
   by_cases hc:s[k]=c
   ·have hb:((s[k].toNat:Int)==(c.toNat:Int))=true:=by rw[hc];exact beq_self_eq_true _
    have HN:Hid (Fh c (s.data.toList.take (k+1))=(ls++[(s.extract j k).data.toList],(s.data.toList.drop (k+1)).take (k+1 - (k+1)))):=za (by
     rw[HS.out,HL.out];unfold GR;rw[if_pos hc,HX.out];simp)
    clear hc HS HL
    go_wp2_with (at_builtin;refine U9 rfl (.tmp 19) (.tmp 24) rfl w.heap.size _ ls [(s.extract j k).data.toList] rfl (hrow.alloc _) _ _ _ rfl rfl (Pt _ _) (by simp;omega) (by simp;omega) ?_;intro v1 w1 hr1 hb1)
    go_roundw
    case rel=>exact⟨k+1,k+1,_,by omega,by omega,by simp;omega,by go_num,by go_num,hr1,HN,Below.trans (hq.alloc _) hb1⟩
    case measure=>simp[intOf];omega
   ·have hb:((s[k].toNat:Int)==(c.toNat:Int))=false:=by
     rw[beq_eq_false_iff_ne];intro e;exact hc (UInt8.toNat_inj.1 (by omega))
    have HN:Hid (Fh c (s.data.toList.take (k+1))=(ls,(s.data.toList.drop j).take (k+1 - j))):=za (by
     rw[HS.out,HL.out];unfold GR;rw[if_neg hc];have e1:(s.data.toList.drop j).take (k+1 - j)=(s.data.toList.drop j).take (k - j)++[s[k]]:=by
      rw[show k+1 - j=(k - j)+1 from by omega,List.take_succ_eq_append_getElem (by rw[zt,At];omega),List.getElem_drop]
      congr 2
      rw[<-Qm s k hlt]
      congr 1;omega
     rw[e1])
    clear hc HS HL
    go_wp2_with fail
    go_roundw
    case rel=>exact⟨k+1,j,ls,by omega,by omega,by omega,by go_num,rfl,hrow,HN,hq⟩
    case measure=>simp[intOf];omega
  ·obtain rfl:k=s.size:=by omega
   have HN:Hid (Ap c s.data.toList=ls++[(s.extract j s.size).data.toList]):=za (by
    rw[fA,<-Ee s s.size hlt,HL.out,HX.out])
   clear HL
   go_wp2_with (at_builtin;refine U9 rfl (.tmp 28) (.tmp 32) rfl w.heap.size _ ls [(s.extract j s.size).data.toList] rfl (hrow.alloc _) _ _ _ rfl rfl (Pt _ _) (by simp;omega) (by simp;omega) ?_;intro v1 w1 hr1 hb1)
   go_ret
   exact⟨v1,rfl,by rw[HN.out];exact hr1,Below.trans (hq.alloc _) hb1⟩
end Go.Proofs.YtbeoijfmfkifeaaGreatDoor
namespace Go.Proofs.YtbeoijfmfkifeaaGreatDoor
open Lib renaming hasPrefix->zk, hid->za, indexByte->jl
open List renaming isPrefixOf_iff_prefix->ye, length->qv, length_nil->qp, length_take->zh, take_zero->xl
open Nat renaming zero_le->ze
structure UriP where
 scheme:List UInt8
 auth:List UInt8
 path:List UInt8
 query:List UInt8
 frag:List UInt8
 hs:Bool
 ha:Bool
 hq:Bool
 hf:Bool
def I3:UriP:=⟨[],[],[],[],[],false,false,false,false⟩
def Ba (l:List UInt8):List UInt8:=(Af 47 l).1
def D1 (c:UInt8):Bool:=Ca c||AC c||Aw c [43,45,46]
def Ed:List UInt8->Bool
 | []=>false
 | c::t=>Ca c&&t.all D1
def DV (l:List UInt8):Bool:=zk l [47,47]
theorem dH {l:List UInt8} (h:DV l=true):Lib.trimPrefix l [47,47]=l.drop 2:=by unfold Lib.trimPrefix;rw[if_pos (show zk l [47,47]=true from h)];rfl
theorem cI {l:List UInt8} (h:DV l=true):2<=l.length:=by
 have:=(ye.1 h).length_le;simpa using this
def Ck (l:List UInt8):List UInt8:=(Af 63 (Af 35 l).1).1
def Dd (l:List UInt8):List UInt8×List UInt8×Bool:=Af 58 (Ba (Ck l))
def EP (l:List UInt8):List UInt8:=if (Dd l).2.2=true then (Ck l).drop ((Dd l).1.length+1) else Ck l
def Db (r:List UInt8):List UInt8:=if DV r=true then Ba (r.drop 2) else []
def D8 (r:List UInt8):List UInt8:=if DV r=true then (r.drop 2).drop (Db r).length else r
def AQ (l:List UInt8):Int×UriP :=
 if 16384<l.length then (5,I3)
 else if ((Dd l).2.2&&!Ed (Dd l).1)=true then (6,I3)
 else (0,{ scheme:=if (Dd l).2.2=true then (Dd l).1 else [],auth:=Db (EP l),path:=D8 (EP l),query:=(Af 63 (Af 35 l).1).2.1,frag:=(Af 35 l).2.1,hs:=(Dd l).2.2,ha:=DV (EP l),hq:=(Af 63 (Af 35 l).1).2.2,hf:=(Af 35 l).2.2 })
theorem FK (l:List UInt8):Ba l=l.take (Ba l).length/\(Ba l).length<=l.length:=by
 unfold Ba;rcases Du 47 l with ⟨h1,h2,h3⟩|⟨k,h1,h2,h3,h4⟩
 ·rw[h2];simp
 ·rw[h3];simp;omega
open Go.RowKit
def AH (w:World) (g:Nat) (t:TypeId) (cs:Array Value):Prop:=w.heap[g]? = some (.cells cs t (0,0))
theorem AH.lt {w:World} {g:Nat} {t:TypeId} {cs:Array Value} (h:AH w g t cs):g<w.heap.size:=by
 rcases Nat.lt_or_ge g w.heap.size with h1|h1
 ·exact h1
 ·unfold AH at h;rw[Array.getElem?_eq_none h1] at h;cases h
theorem AH.cell {w:World} {g:Nat} {t:TypeId} {cs:Array Value} (h:AH w g t cs) (i:Nat):w.cell? ⟨g,i,none⟩=cs[i]?:=cell_of_row w g i cs t (0,0) h
theorem AH.frozen {w:World} {g:Nat} {t:TypeId} {cs:Array Value} (h:AH w g t cs) (i:Nat):w.frozen? ⟨g,i,none⟩=false:=by
 unfold AH at h;simp[World.frozen?,h]
theorem AH.new (w:World) (t:TypeId) (cs:Array Value):AH (w.alloc (.cells cs t)) w.heap.size t cs:=heap_alloc_new w _
theorem AH.qb {w w':World} {g:Nat} {t:TypeId} {cs:Array Value} (h:AH w g t cs) (hq:Qb w w'):AH w' g t cs:=(hq.block g h.lt).trans h
theorem AH.alloc {w:World} {g:Nat} {t:TypeId} {cs:Array Value} (h:AH w g t cs) (o:Obj):AH (w.alloc o) g t cs:=(Below.heap_alloc w o g h.lt).trans h
theorem AH.drew {w:World} {g:Nat} {t:TypeId} {cs:Array Value} (h:AH w g t cs):AH w.drew g t cs:=h
theorem AH.drewN {w:World} {g:Nat} {t:TypeId} {cs:Array Value} (h:AH w g t cs) (n:Nat):AH (w.drewN n) g t cs:=h
theorem AH.put {w:World} {g:Nat} {t:TypeId} {cs:Array Value} (h:AH w g t cs) (i:Nat) (u:Value):AH (w.setCell ⟨g,i,none⟩ u) g t (cs.setIfInBounds i u):=by
 unfold AH at h ⊢;simp[World.setCell,Array.getElem?_modify,h]
theorem AH.far {w:World} {g:Nat} {t:TypeId} {cs:Array Value} (h:AH w g t cs) {p:Addr} (hp:g≠p.block) (u:Value):AH (w.setCell p u) g t cs:=(Below.heap_setCell w p u g hp).trans h
theorem AH.st {w:World} {g:Nat} {t:TypeId} {cs:Array Value} (h:AH w g t cs) (b o:Nat) (u:Value) (hne:g≠b):AH (w.setCell ⟨b,o,none⟩ u) g t cs:=h.far (p:=⟨b,o,none⟩) hne u
theorem Qb.st {a c:World} (h:Qb a c) (b o:Nat) (u:Value) (hb:a.heap.size<=b):Qb a (c.setCell ⟨b,o,none⟩ u):=h.set (p:=⟨b,o,none⟩) hb u
theorem AH.other {w w':World} {g b:Nat} {t:TypeId} {cs:Array Value} (h:AH w g t cs) (hg:w.grownBy w' (some b)) (hne:g≠b):AH w' g t cs:=(hg.block g h.lt (fun e=>hne (Option.some.inj e))).trans h
theorem OC (s:ByteArray) (w:World) (hs:s.size<=maxLen) :
  Calls Tryz.prog 172 #[.string s] w fun e w'=>e=.returned (.string (S (Ba s.data.toList)))/\Qb w w':=by
 obtain⟨p,q,b,hcut⟩:∃p q b,Af 47 s.data.toList=(p,q,b):=⟨_,_,_,rfl⟩;have HC:=za hcut;clear hcut
 go_enter Tryz.func172,Tryz.ntmps172
 go_wp2_with fail
 refine(CD s 47 _ hs).mono ?_;rintro e w1 ⟨rfl,hq1⟩;rw[HC.out];unfold BO
 go_wp2_with fail
 go_ret
 exact⟨K4 (by unfold Ba;rw[HC.out]),hq1⟩
theorem gC (s:ByteArray) (w:World) (hs:s.size<=maxLen) :
  Calls Tryz.prog 170 #[.string s] w fun e w'=>e=.returned (.int .i64 (jl (Ba s.data.toList) 58))/\Qb w w':=by
 go_enter Tryz.func170,Tryz.ntmps170
 go_wp2_with fail
 refine(OC s _ hs).mono ?_;rintro e w1 ⟨rfl,hq1⟩
 go_wp2_with fail
 refine(Tryz.strings_IndexByte _ _ _).mono ?_;rintro e w2 ⟨rfl,rfl⟩
 go_wp2_with fail
 go_ret
 exact⟨rfl,hq1⟩
def C3 (l:List UInt8):Bool:=match l with | []=>true|c::t=>Ca c&&t.all D1
theorem Sb (l:List UInt8) (x:UInt8):C3 (l++[x])=(C3 l&&(if l=[] then Ca x else D1 x)):=by
 rcases l with _|⟨c,t⟩
 ·simp[C3]
 ·simp[C3,Bool.and_assoc]
theorem Rz {l:List UInt8} {k:Nat} (h:C3 (l.take k)=false):C3 l=false:=by
 rcases l with _|⟨c,t⟩
 ·simp[C3] at h
 ·rcases k with _|k
  ·simp[C3] at h
  ·rw[List.take_succ_cons] at h;have h':(Ca c&&(t.take k).all D1)=false:=h;show (Ca c&&t.all D1)=false;rcases hc:Ca c with _|_
   ·rfl
   ·rw[hc,Bool.true_and] at h';rw[GV D1 t k h'];rfl
theorem Lh {l:List UInt8} (h:l≠[]):Ed l=C3 l:=by
 rcases l with _|⟨c,t⟩
 ·exact absurd rfl h
 ·rfl
theorem MM {l:List UInt8} {c:UInt8}:jl l c<0↔Aw c l=false:=by
 unfold Aw;rcases Du c l with ⟨h1,h2,h3⟩|⟨k,h1,h2,h3,h4⟩
 ·rw[h1];simp[h3]
 ·rw[h1];have:=List.mem_of_getElem? h4;simp[this]
theorem fU (s:ByteArray) (w:World) (hs:s.size<=maxLen) :
  Calls Tryz.prog 171 #[.string s] w fun e w'=>e=.returned (.bool (Ed s.data.toList))/\w=w':=by
 unfold maxLen at hs
 go_enter Tryz.func171,Tryz.ntmps171
 go_wp2_with fail
 go_loop [6] (fun i=>∃k:Nat,k<=s.size/\i=.int .i64 k/\Hid (C3 (s.data.toList.take k)=true)) (fun i=>s.size - (intOf i).toNat)
 case atStart=>exact⟨0,ze _,rfl,za rfl⟩
 case round=>
  obtain⟨k,hk,rfl,HT⟩:=hrel
  by_cases hlt:k<s.size
  ·have hne:Hid (s.data.toList≠[]):=za (fun e=>by have:=At s;rw[e] at this;simp at this;omega);have hstep:C3 (s.data.toList.take (k+1))=(if s.data.toList.take k=[] then Ca s[k] else D1 s[k]):=by
    rw[Gj s k hlt,Sb,HT.out,Bool.true_and]
   have hbad:C3 (s.data.toList.take (k+1))=false->Hid (Ed s.data.toList=false):=fun h=>za (by rw[Lh hne.out,Rz h]);rcases ha:Ca s[k] with _|_
   ·by_cases hk0:k=0
    ·subst hk0;have HB:=hbad (by rw[hstep,xl,if_pos rfl,ha]);have H1:=za ha;clear ha hstep hbad
     go_wp2_with fail
     refine(EW _ _).mono ?_;rintro e w' ⟨rfl,rfl⟩;rw[H1.out]
     go_wp2_with fail
     go_ret
     exact⟨AO (by rw[HB.out]),rfl⟩
    ·have hkb:((k:Int)==0)=false:=by rw[beq_eq_false_iff_ne];omega
     have htk:s.data.toList.take k≠[]:=fun e=>by have:=congrArg qv e;rw[zh,At,qp] at this;omega
     rw[if_neg htk] at hstep;rcases hd:AC s[k] with _|_
     ·rcases hi:Aw s[k] [43,45,46] with _|_
      ·have HB:=hbad (by rw[hstep];unfold D1;rw[ha,hd,hi];rfl);have hidx:jl [43,45,46] s[k]<0:=MM.2 hi;have H1:=za ha;have H2:=za hd;clear ha hd hi hstep hbad hk0 htk
       go_wp2_with fail
       refine(EW _ _).mono ?_;rintro e w' ⟨rfl,rfl⟩;rw[H1.out]
       go_wp2_with fail
       refine(Eg _ _).mono ?_;rintro e w' ⟨rfl,rfl⟩;rw[H2.out]
       go_wp2_with fail
       refine(Tryz.strings_IndexByte _ _ _).mono ?_;rintro e w2 ⟨rfl,rfl⟩;rw[Ao,TV]
       go_wp2_with fail
       go_ret
       exact⟨AO (by rw[HB.out]),rfl⟩
      ·have HB:Hid (C3 (s.data.toList.take (k+1))=true):=za (by rw[hstep];unfold D1;rw[ha,hd,hi];rfl);have hidx:0<=jl [43,45,46] s[k]:=by
        by_cases h:jl [43,45,46] s[k]<0
        ·rw[MM.1 h] at hi;cases hi
        ·omega
       have H1:=za ha;have H2:=za hd;clear ha hd hi hstep hbad hk0 htk
       go_wp2_with fail
       refine(EW _ _).mono ?_;rintro e w' ⟨rfl,rfl⟩;rw[H1.out]
       go_wp2_with fail
       refine(Eg _ _).mono ?_;rintro e w' ⟨rfl,rfl⟩;rw[H2.out]
       go_wp2_with fail
       refine(Tryz.strings_IndexByte _ _ _).mono ?_;rintro e w2 ⟨rfl,rfl⟩;rw[Ao,TV]
       go_wp2_with fail
       go_round
       case rel=>exact⟨k+1,by omega,by go_num,HB⟩
       case measure=>simp[intOf];omega
     ·have HB:Hid (C3 (s.data.toList.take (k+1))=true):=za (by rw[hstep];unfold D1;rw[ha,hd];rfl);have H1:=za ha;have H2:=za hd;clear ha hd hstep hbad hk0 htk
      go_wp2_with fail
      refine(EW _ _).mono ?_;rintro e w' ⟨rfl,rfl⟩;rw[H1.out]
      go_wp2_with fail
      refine(Eg _ _).mono ?_;rintro e w' ⟨rfl,rfl⟩;rw[H2.out]
      go_wp2_with fail
      go_round
      case rel=>exact⟨k+1,by omega,by go_num,HB⟩
      case measure=>simp[intOf];omega
   ·have HB:Hid (C3 (s.data.toList.take (k+1))=true):=za (by rw[hstep];unfold D1;rw[ha];split<;>rfl)
    have H1:=za ha;clear ha hstep hbad
    go_wp2_with fail
    refine(EW _ _).mono ?_;rintro e w' ⟨rfl,rfl⟩;rw[H1.out]
    go_wp2_with fail
    go_round
    case rel=>exact⟨k+1,by omega,by go_num,HB⟩
    case measure=>simp[intOf];omega
  ·have HE:=za (Ee s k hlt)
   by_cases h0:s.size=0
   ·obtain rfl:s=S []:=Gd h0;clear h0 hs hk hlt HE HT
    go_wp2_with fail
    go_ret
    exact⟨rfl,rfl⟩
   ·have hne:s.data.toList≠[]:=fun e=>by have:=At s;rw[e] at this;simp at this;omega
    have he1:s.toList.isEmpty=false:=by rw[ByteArray.toList_eq];simpa using hne
    have HB:Hid (Ed s.data.toList=true):=za (by rw[Lh hne,<-HE.out,HT.out]);clear hne h0
    go_wp2_with fail
    go_ret
    exact⟨AO (by rw[HB.out]),rfl⟩
def Au (l set:List UInt8):Nat:=l.findIdx fun c=>Aw c set
theorem KK (l set:List UInt8):Au l set<=l.length:=List.findIdx_le_length
theorem WH {l set:List UInt8} {k:Nat} (h:k<l.length) (h1:∀j (hj:j<k),Aw (l[j]'(by omega)) set=false) (h2:Aw l[k] set=true):Au l set=k:=by
 unfold Au;rw[List.findIdx_eq h];exact⟨h2,fun j hj=>by rw[h1 j hj]⟩
theorem ZJ {l set:List UInt8} (h1:∀j (hj:j<l.length),Aw l[j] set=false):Au l set=l.length:=by
 unfold Au;rw[List.findIdx_eq_length];intro x hx;obtain⟨j,hj,rfl⟩:=List.getElem_of_mem hx;rw[h1 j hj]
theorem Iw (c:UInt8):∀l,Au l [c]=(Af c l).1.length
 | []=>rfl
 | x::t=>by
  have ih:=Iw c t;unfold Au at ih ⊢;rw[List.findIdx_cons,Gf,ih]
  by_cases h:x=c
  ·subst h;simp[Aw]
  ·rw[if_neg h];have:Aw x [c]=false:=by simp[Aw,h]
   rw[this];rfl
theorem E3 (s set:ByteArray) (w:World) (hs:s.size<=maxLen) (ha:set.size<=maxLen) :
  Calls Tryz.prog 47 #[.string s,.string set] w fun e w'=>e=.returned (.int .i64 (Au s.data.toList set.data.toList))/\w=w':=by
 have hm:=hs;unfold maxLen at hm
 go_enter Tryz.func47,Tryz.ntmps47
 go_wp2_with fail
 go_loop [5] (fun i=>∃k:Nat,k<=s.size/\i=.int .i64 k/\Hid (∀j (hj:j<s.size),j<k->Aw s[j] set.data.toList=false)) (fun i=>s.size - (intOf i).toNat)
 case atStart=>exact⟨0,ze _,rfl,za (fun j hj h=>absurd h (Nat.not_lt_zero _))⟩
 case round=>
  obtain⟨k,hk,rfl,HT⟩:=hrel
  by_cases hlt:k<s.size
  ·rcases hb:Aw s[k] set.data.toList with _|_
   ·have HB:=za hb;have HN:Hid (∀j (hj:j<s.size),j<k+1->Aw s[j] set.data.toList=false):=za fun j hj h=>by
     by_cases e:j=k
     ·subst e;exact HB.out
     ·exact HT.out j hj (by omega)
    clear hb
    go_wp2_with fail
    refine(DY _ _ _ ha).mono ?_;rintro e w' ⟨rfl,rfl⟩;rw[HB.out]
    go_wp2_with fail
    go_round
    case rel=>exact⟨k+1,by omega,by go_num,HN⟩
    case measure=>simp[intOf];omega
   ·have HB:=za hb;have HN:Hid (Au s.data.toList set.data.toList=k):=za (WH (by rw[At];exact hlt) (fun j hj=>HT.out j (by omega) hj) hb);clear hb
    go_wp2_with fail
    refine(DY _ _ _ ha).mono ?_;rintro e w' ⟨rfl,rfl⟩;rw[HB.out]
    go_wp2_with fail
    go_ret
    exact⟨EF (by rw[HN.out]),rfl⟩
  ·have HN:Hid (Au s.data.toList set.data.toList=s.size):=za (by
    rw[ZJ (fun j hj=>HT.out j (by rw[At] at hj;exact hj) (by rw[At] at hj;omega)),At])
   go_wp2_with fail
   go_ret
   exact⟨EF (by rw[HN.out]),rfl⟩
theorem Rn (s p:List UInt8):zk s p=(s.take p.length==p):=by
 unfold zk;rw[Bool.eq_iff_iff,ye,beq_iff_eq]
 constructor
 ·rintro⟨t,rfl⟩;simp
 ·intro h;exact⟨s.drop p.length,by have:=List.take_append_drop p.length s;rw[h] at this;exact this⟩
theorem eT (s p:ByteArray) (w:World) (hs:s.size<=maxLen) :
  Calls Tryz.prog 104 #[.string s,.string p] w fun e w'=>e=.returned (.bool (zk s.data.toList p.data.toList))/\w=w':=by
 unfold maxLen at hs
 by_cases h:p.size<=s.size
 ·have HP:Hid (zk s.data.toList p.data.toList=((s.extract 0 p.size).toList==p.toList)):=za (by
   rw[Rn,ByteArray.toList_eq,ByteArray.toList_eq,FJ,Ao,At])
  go_enter Tryz.func104,Tryz.ntmps104
  go_wp2_with fail
  go_ret
  exact⟨AO (by rw[HP.out]),rfl⟩
 ·have HP:Hid (zk s.data.toList p.data.toList=false):=za (by
   rw[Rn,beq_eq_false_iff_ne];intro e;have:=congrArg qv e;rw[zh,At,At] at this;omega)
  have h2:s.size<p.size:=by omega
  clear h
  go_enter Tryz.func104,Tryz.ntmps104
  go_wp2_with fail
  go_ret
  exact⟨AO (by rw[HP.out]),rfl⟩
theorem eX (s:ByteArray) (w:World) (hs:s.size<=maxLen) :
  Calls Tryz.prog 129 #[.string s] w fun e w'=>e=.returned (.bool (Ed s.data.toList))/\w=w':=by
 unfold maxLen at hs
 go_enter Tryz.func129,Tryz.ntmps129
 go_wp2_with fail
 go_loop [3] (fun i=>∃k:Nat,k<=s.size/\i=.int .i64 k/\Hid (C3 (s.data.toList.take k)=true)) (fun i=>s.size - (intOf i).toNat)
 case atStart=>exact⟨0,ze _,rfl,za rfl⟩
 case round=>
  obtain⟨k,hk,rfl,HT⟩:=hrel
  by_cases hlt:k<s.size
  ·have hne:Hid (s.data.toList≠[]):=za (fun e=>by have:=At s;rw[e] at this;simp at this;omega);have hstep:C3 (s.data.toList.take (k+1))=(if s.data.toList.take k=[] then Ca s[k] else D1 s[k]):=by
    rw[Gj s k hlt,Sb,HT.out,Bool.true_and]
   have hbad:C3 (s.data.toList.take (k+1))=false->Hid (Ed s.data.toList=false):=fun h=>za (by rw[Lh hne.out,Rz h]);rcases ha:Ca s[k] with _|_
   ·by_cases hk0:k=0
    ·subst hk0;have HB:=hbad (by rw[hstep,xl,if_pos rfl,ha]);have H1:=za ha;clear ha hstep hbad
     go_wp2_with fail
     refine(EY _ _).mono ?_;rintro e w' ⟨rfl,rfl⟩;rw[H1.out]
     go_wp2_with fail
     go_ret
     exact⟨AO (by rw[HB.out]),rfl⟩
    ·have hkb:((k:Int)==0)=false:=by rw[beq_eq_false_iff_ne];omega
     have htk:s.data.toList.take k≠[]:=fun e=>by have:=congrArg qv e;rw[zh,At,qp] at this;omega
     rw[if_neg htk] at hstep;rcases hd:AC s[k] with _|_
     ·rcases hi:Aw s[k] [43,45,46] with _|_
      ·have HB:=hbad (by rw[hstep];unfold D1;rw[ha,hd,hi];rfl);have H1:=za ha;have H2:=za hd;have H3:=za hi;clear ha hd hi hstep hbad hk0 htk
       go_wp2_with fail
       refine(EY _ _).mono ?_;rintro e w' ⟨rfl,rfl⟩;rw[H1.out]
       go_wp2_with fail
       refine(EZ _ _).mono ?_;rintro e w' ⟨rfl,rfl⟩;rw[H2.out]
       go_wp2_with fail
       refine(DY _ _ _ (by decide)).mono ?_;rintro e w2 ⟨rfl,rfl⟩;rw[Ao,H3.out]
       go_wp2_with fail
       go_ret
       exact⟨AO (by rw[HB.out]),rfl⟩
      ·have HB:Hid (C3 (s.data.toList.take (k+1))=true):=za (by rw[hstep];unfold D1;rw[ha,hd,hi];rfl);have H1:=za ha;have H2:=za hd;have H3:=za hi;clear ha hd hi hstep hbad hk0 htk
       go_wp2_with fail
       refine(EY _ _).mono ?_;rintro e w' ⟨rfl,rfl⟩;rw[H1.out]
       go_wp2_with fail
       refine(EZ _ _).mono ?_;rintro e w' ⟨rfl,rfl⟩;rw[H2.out]
       go_wp2_with fail
       refine(DY _ _ _ (by decide)).mono ?_;rintro e w2 ⟨rfl,rfl⟩;rw[Ao,H3.out]
       go_wp2_with fail
       go_round
       case rel=>exact⟨k+1,by omega,by go_num,HB⟩
       case measure=>simp[intOf];omega
     ·have HB:Hid (C3 (s.data.toList.take (k+1))=true):=za (by rw[hstep];unfold D1;rw[ha,hd];rfl);have H1:=za ha;have H2:=za hd;clear ha hd hstep hbad hk0 htk
      go_wp2_with fail
      refine(EY _ _).mono ?_;rintro e w' ⟨rfl,rfl⟩;rw[H1.out]
      go_wp2_with fail
      refine(EZ _ _).mono ?_;rintro e w' ⟨rfl,rfl⟩;rw[H2.out]
      go_wp2_with fail
      go_round
      case rel=>exact⟨k+1,by omega,by go_num,HB⟩
      case measure=>simp[intOf];omega
   ·have HB:Hid (C3 (s.data.toList.take (k+1))=true):=za (by rw[hstep];unfold D1;rw[ha];split<;>rfl)
    have H1:=za ha;clear ha hstep hbad
    go_wp2_with fail
    refine(EY _ _).mono ?_;rintro e w' ⟨rfl,rfl⟩;rw[H1.out]
    go_wp2_with fail
    go_round
    case rel=>exact⟨k+1,by omega,by go_num,HB⟩
    case measure=>simp[intOf];omega
  ·have HE:=za (Ee s k hlt)
   by_cases h0:s.size=0
   ·obtain rfl:s=S []:=Gd h0;clear h0 hs hk hlt HE HT
    go_wp2_with fail
    go_ret
    exact⟨rfl,rfl⟩
   ·have hne:s.data.toList≠[]:=fun e=>by have:=At s;rw[e] at this;simp at this;omega
    have he1:s.toList.isEmpty=false:=by rw[ByteArray.toList_eq];simpa using hne
    have HB:Hid (Ed s.data.toList=true):=za (by rw[Lh hne,<-HE.out,HT.out]);clear hne h0
    go_wp2_with fail
    go_ret
    exact⟨AO (by rw[HB.out]),rfl⟩
end Go.Proofs.YtbeoijfmfkifeaaGreatDoor
namespace Go.Proofs.YtbeoijfmfkifeaaGreatDoor
open Int renaming eq_ofNat_of_zero_le->xt, toNat_natCast->zm
open Lib renaming hid->za
open List renaming all_eq_true->zj, drop_of_length_le->yd, eq_nil_of_length_eq_zero->qh
open Nat renaming zero_le->ze
def Di (c:UInt8):Nat:=if c.toNat<=57 then c.toNat - 48 else if c.toNat<=70 then c.toNat - 55 else c.toNat - 87
def BF (base most:Nat):List UInt8->Nat->Option Nat
 | [],n=>some n
 | c::l,n=>if n*base+Di c<=most then BF base most l (n*base+Di c) else none
def lJ:Option Nat->Int×Nat
 | some n=>(0,n)
 | none=>(4,0)
def C5 (base most:Nat) (l:List UInt8):Int×Nat:=lJ (BF base most l 0)
def Ea (p:UInt8->Bool) (l:List UInt8):Int:=if l=[] then 3 else if l.all p=true then 0 else 1
def EQ (p:UInt8->Bool) (base most:Nat) (l:List UInt8):Int×Nat:=if Ea p l=0 then C5 base most l else (Ea p l,0)
def Fk:List UInt8->Bool
 | 48::_::_=>true
 | _=>false
def BR (most:Nat) (l:List UInt8):Int×Nat:=if Ea AC l=0 then (if Fk l=true then (6,0) else C5 10 most l) else (Ea AC l,0)
def CQ (r:Int×Nat):Value:=.tuple #[.int .u64 r.2,.int .i64 r.1]
theorem OQ {c:UInt8} (h:Bn c=true):48<=c.toNat/\c.toNat<=57\/97<=c.toNat/\c.toNat<=102\/65<=c.toNat/\c.toNat<=70:=of_decide_eq_true h
theorem O6 {c:UInt8} (h:Bn c=true):Di c<16:=by have:=OQ h;unfold Di;(repeat' split)<;>omega
theorem RU {c:UInt8} (h:AC c=true):Di c=c.toNat - 48/\48<=c.toNat/\c.toNat<=57:=by
 have h2:48<=c.toNat/\c.toNat<=57:=of_decide_eq_true h;exact⟨by unfold Di;rw[if_pos h2.2],h2⟩
theorem ZV {c:UInt8} (h:AC c=true):Bn c=true:=by
 have h2:48<=c.toNat/\c.toNat<=57:=of_decide_eq_true h;exact decide_eq_true (.inl h2)
theorem Ud {l:List UInt8} (h:l.all AC=true):l.all Bn=true:=by
 rw[zj] at h ⊢;exact fun c hc=>ZV (h c hc)
theorem NB {p:UInt8->Bool} {l:List UInt8} (h0:l≠[]) (h:l.all p=true):Ea p l=0:=by unfold Ea;rw[if_neg h0,if_pos h]
theorem S3 {p:UInt8->Bool} {l:List UInt8} (h0:l≠[]) (h:l.all p=false):Ea p l=1:=by unfold Ea;rw[if_neg h0,if_neg (by rw[h];exact Bool.false_ne_true)]
theorem Lo {p:UInt8->Bool} {l:List UInt8} (h:Ea p l=0):l≠[]/\l.all p=true:=by
 unfold Ea at h
 by_cases h0:l=[]
 ·rw[if_pos h0] at h;cases h
 ·rw[if_neg h0] at h
  by_cases h1:l.all p=true
  ·exact⟨h0,h1⟩
  ·rw[if_neg h1] at h;cases h
theorem TN (p:UInt8->Bool) (l:List UInt8):Ea p l=0\/Ea p l=1\/Ea p l=3:=by
 unfold Ea;repeat' split
 all_goals simp
theorem QK (base most:Nat):∀(l:List UInt8) (n m:Nat),n<=most->BF base most l n=some m->m<=most
 | [],n,m,hn,h=>by rw[BF] at h;injection h with h;omega
 | c::l,n,m,hn,h=>by
  rw[BF] at h
  split at h
  ·rename_i h1;exact QK base most l _ m h1 h
  ·cases h
theorem XE (base most:Nat) (l:List UInt8):(C5 base most l).2<=most:=by
 unfold C5;rcases h:BF base most l 0 with _|n
 ·exact ze _
 ·exact QK base most l 0 n (ze _) h
theorem Oi (most:Nat) (l:List UInt8):(BR most l).2<=most:=by
 unfold BR;split
 ·split
  ·exact ze _
  ·exact XE _ _ _
 ·exact ze _
theorem LA (s:ByteArray):Fk s.data.toList=true↔∃h:1<s.size,s[0]=48:=by
 by_cases h0:0<s.size
 ·have e:=Df s 0 h0;rw[List.drop_zero] at e;rw[e]
  by_cases h1:1<s.size
  ·rw[Df s 1 h1]
   constructor
   ·intro h;refine⟨h1,?_⟩;unfold Fk at h
    split at h
    ·rename_i h2;injection h2
    ·cases h
   ·rintro⟨_,h⟩;rw[h];rfl
  ·constructor
   ·intro h;rw[yd (by rw[At];omega)] at h;unfold Fk at h
    split at h
    ·rename_i h2;injection h2 with h2 h3;cases h3
    ·cases h
   ·rintro⟨h,_⟩;exact absurd h h1
 ·have:s.data.toList=[]:=qh (by rw[At];omega);rw[this]
  constructor
  ·intro h;cases h
  ·rintro⟨h,_⟩;omega
open Go.RowKit
theorem Yd:∀n:Fin 256,bits .and .u8 ((n.val:Nat):Int) 223=((n.val &&& 223:Nat):Int):=by decide +kernel
theorem oI:∀n:Fin 256,(97<=n.val/\n.val<=102\/65<=n.val/\n.val<=70)->bits .or .u8 ((n.val:Nat):Int) 32=(((if n.val<=70 then n.val+32 else n.val):Nat):Int):=by decide +kernel
theorem Ye:∀n:Fin 256,(97<=n.val/\n.val<=102\/65<=n.val/\n.val<=70)->(n.val &&& 223)=(if n.val<=70 then n.val else n.val - 32):=by decide +kernel
theorem NX (c:UInt8) (h:Bn c=true) (w:World) :
  Calls Tryz.prog 219 #[.int .u8 c.toNat] w fun e w'=>e=.returned (.int .u64 (Di c:Int))/\w=w':=by
 rcases hd:AC c with _|_
 ·have h3:=OQ h;have h2:¬(48<=c.toNat/\c.toNat<=57):=of_decide_eq_false hd;have h4:97<=c.toNat/\c.toNat<=102\/65<=c.toNat/\c.toNat<=70:=by omega
  obtain⟨x,hx,hx0,hx1,hx2⟩:∃x:Int,bits .and .u8 (c.toNat:Int) 223=x/\65<=x/\x<=70/\x - 65+10=Di c:=by
   refine⟨_,(Yd ⟨c.toNat,c.toNat_lt⟩).trans (congrArg Nat.cast (Ye ⟨c.toNat,c.toNat_lt⟩ h4)),?_,?_,?_⟩
   all_goals simp only[Di]
   all_goals (repeat' split)
   all_goals omega
  have HX:=za hx2;have HD:=za hd;clear h h3 h2 h4 hd hx2
  go_enter Tryz.func219,Tryz.ntmps219
  go_wp2_with fail
  refine(Eg _ _).mono ?_;rintro e w' ⟨rfl,rfl⟩;rw[HD.out]
  go_wp2_with fail
  go_ret
  exact⟨EF (by rw[<-HX.out]),rfl⟩
 ·have h2:=RU hd;have HX:=za h2.1;have hx0:=h2.2.1;have hx1:=h2.2.2;have HD:=za hd;clear h hd h2
  go_enter Tryz.func219,Tryz.ntmps219
  go_wp2_with fail
  refine(Eg _ _).mono ?_;rintro e w' ⟨rfl,rfl⟩;rw[HD.out]
  go_wp2_with fail
  go_ret
  exact⟨EF (by rw[HX.out];omega),rfl⟩
theorem IV (s:ByteArray) (w:World) (hs:s.size<=maxLen) :
  Calls Tryz.prog 204 #[.string s,.func (.func 177) #[] #[]] w fun e w'=>e=.returned (.int .i64 (Ea AC s.data.toList))/\w=w':=by
 unfold maxLen at hs
 by_cases h0:s.size=0
 ·obtain rfl:s=S []:=Gd h0;clear h0 hs
  go_enter Tryz.func204,Tryz.ntmps204
  go_wp2_with fail
  go_ret
  exact⟨rfl,rfl⟩
 ·have hne:s.data.toList≠[]:=fun e=>h0 (by rw[<-At,e];rfl);have HE:=za hne;have he1:s.toList.isEmpty=false:=by rw[ByteArray.toList_eq];simpa using hne
  have hpos:0<s.size:=by omega
  clear h0 hne
  go_enter Tryz.func204,Tryz.ntmps204
  go_wp2_with fail
  go_loop [10] (fun i=>∃k:Nat,k<=s.size/\i=.int .i64 k/\Hid ((s.data.toList.take k).all AC=true)) (fun i=>s.size - (intOf i).toNat)
  case atStart=>exact⟨0,ze _,rfl,za rfl⟩
  case round=>
   obtain⟨k,hk,rfl,HA⟩:=hrel
   by_cases hlt:k<s.size
   ·rcases hp:AC s[k] with _|_
    ·have HB:Hid (s.data.toList.all AC=false):=za (GV _ _ (k+1) (by rw[ES _ _ _ hlt,hp,Bool.and_false]));have HP:=za hp;clear hp
     go_wp2_with fail
     refine(Eg _ _).mono ?_;rintro e w' ⟨rfl,rfl⟩;rw[HP.out]
     go_wp2_with fail
     go_ret
     exact⟨EF (by rw[S3 HE.out HB.out]),rfl⟩
    ·have HB:Hid ((s.data.toList.take (k+1)).all AC=true):=za (by rw[ES _ _ _ hlt,hp,HA.out];rfl);have HP:=za hp;clear hp
     go_wp2_with fail
     refine(Eg _ _).mono ?_;rintro e w' ⟨rfl,rfl⟩;rw[HP.out]
     go_wp2_with fail
     go_round
     case rel=>exact⟨k+1,by omega,by go_num,HB⟩
     case measure=>simp[intOf];omega
   ·have HB:Hid (s.data.toList.all AC=true):=za (by rw[<-Ee s k hlt];exact HA.out)
    go_wp2_with fail
    go_ret
    exact⟨EF (by rw[NB HE.out HB.out]),rfl⟩
theorem O1 {p:UInt8->Bool} {s:ByteArray} (h:s.data.toList.all p=true) (k:Nat) (hk:k<s.size):p s[k]=true:=by
 rw[zj] at h;exact h _ (by rw[<-R0 s k hk,List.getD_eq_getElem?_getD,List.getElem?_eq_getElem (by rw[At];exact hk)];exact List.getElem_mem _)
theorem Oj (s:ByteArray) (most:Int) (w:World) (hs:s.size<=maxLen) (h0:0<=most) (h1:most<=18446744073709551615) (hh:s.data.toList.all Bn=true) :
  Calls Tryz.prog 205 #[.string s,.int .u64 10,.int .u64 most] w fun e w'=>e=.returned (CQ (C5 10 most.toNat s.data.toList))/\w=w':=by
 unfold maxLen at hs;obtain⟨M,rfl⟩:=xt h0;rw[zm];have HH:=za hh;clear hh h0
 go_enter Tryz.func205,Tryz.ntmps205
 go_wp2_with fail
 go_loop [8,13] (fun n i=>∃k m:Nat,k<=s.size/\m<=M/\i=.int .i64 k/\n=.int .u64 m/\Hid (BF 10 M s.data.toList 0=BF 10 M (s.data.toList.drop k) m)) (fun _ i=>s.size - (intOf i).toNat)
 case atStart=>exact⟨0,0,ze _,ze _,rfl,rfl,za rfl⟩
 case round=>
  obtain⟨k,m,hk,hm,rfl,rfl,HV⟩:=hrel
  by_cases hlt:k<s.size
  ·have hx:=O1 HH.out k hlt;have hd16:=O6 hx;have HX:=za hx;have HC:Hid (BF 10 M (s.data.toList.drop k) m=if m*10+Di s[k]<=M then BF 10 M (s.data.toList.drop (k+1)) (m*10+Di s[k]) else none):=za (by rw[Df s k hlt];rfl);clear hx;generalize hdv:Di s[k]=d at *;have HD:=za hdv;clear hdv
   by_cases hdm:d<=M
   ·by_cases hok:m*10+d<=M
    ·have hq1:(m:Int)<=((M:Int) - d) / 10:=by omega
     have HN:Hid (BF 10 M s.data.toList 0=BF 10 M (s.data.toList.drop (k+1)) (m*10+d)):=za (by rw[HV.out,HC.out,if_pos hok])
     go_wp2_with fail
     refine(NX _ HX.out _).mono ?_;rintro e w' ⟨rfl,rfl⟩;rw[HD.out]
     go_wp2_with fail
     go_round
     case rel=>exact⟨k+1,m*10+d,by omega,hok,by go_num,by go_num,HN⟩
     case measure=>simp[intOf];omega
    ·have hq1:((M:Int) - d) / 10<m:=by omega
     have HN:Hid (BF 10 M s.data.toList 0=none):=za (by rw[HV.out,HC.out,if_neg hok]);clear hok
     go_wp2_with fail
     refine(NX _ HX.out _).mono ?_;rintro e w' ⟨rfl,rfl⟩;rw[HD.out]
     go_wp2_with fail
     go_ret2
     exact⟨by unfold C5;rw[HN.out];rfl,rfl⟩
   ·have hdm1:(M:Int)<d:=by omega
    have HN:Hid (BF 10 M s.data.toList 0=none):=za (by rw[HV.out,HC.out,if_neg (by omega)]);clear hdm
    go_wp2_with fail
    refine(NX _ HX.out _).mono ?_;rintro e w' ⟨rfl,rfl⟩;rw[HD.out]
    go_wp2_with fail
    go_ret2
    exact⟨by unfold C5;rw[HN.out];rfl,rfl⟩
  ·have HN:Hid (BF 10 M s.data.toList 0=some m):=za (by rw[HV.out,yd (by rw[At];omega)];rfl)
   go_wp2_with fail
   go_ret2
   exact⟨by unfold C5;rw[HN.out];rfl,rfl⟩
theorem H0 (s:ByteArray) (most:Int) (w:World) (hs:s.size<=maxLen) (h0:0<=most) (h1:most<=18446744073709551615) :
  Calls Tryz.prog 167 #[.string s,.int .u64 most] w fun e w'=>e=.returned (CQ (BR most.toNat s.data.toList))/\w=w':=by
 rcases TN AC s.data.toList with hc|hc|hc
 ·have HA:Hid (s.data.toList.all Bn=true):=za (Ud (Lo hc).2);have hpos:0<s.size:=by
   have:=(Lo hc).1;have h2:s.data.toList.length≠0:=fun e=>this (qh e);rw[At] at h2;omega
  rcases hz:Fk s.data.toList with _|_
  ·have HN:Hid (BR most.toNat s.data.toList=C5 10 most.toNat s.data.toList):=za (by unfold BR;rw[if_pos hc,if_neg (by rw[hz];exact Bool.false_ne_true)]);have HC:=za hc;rw[HN.out];have hor:s.size<=1\/((s[0].toNat:Int)==48)=false:=by
    by_cases h:s.size<=1
    ·exact .inl h
    ·refine .inr (beq_eq_false_iff_ne.2 fun e=>?_);have:s[0]=48:=UInt8.toNat_inj.1 (by show s[0].toNat=48;omega);have:=(LA s).2 ⟨by omega,this⟩;rw[hz] at this;cases this
   clear hc hz;unfold maxLen at hs;rcases hor with hor|hor
   ·go_enter Tryz.func167,Tryz.ntmps167
    go_wp2_with fail
    refine(IV s _ hs).mono ?_;rintro e w' ⟨rfl,rfl⟩;rw[HC.out]
    go_wp2_with fail
    refine(Oj s most _ hs h0 h1 HA.out).mono ?_;rintro e w' ⟨rfl,rfl⟩;unfold CQ
    go_wp2_with fail
    go_ret2
    exact⟨rfl,rfl⟩
   ·by_cases h1s:s.size<=1
    ·clear hor
     go_enter Tryz.func167,Tryz.ntmps167
     go_wp2_with fail
     refine(IV s _ hs).mono ?_;rintro e w' ⟨rfl,rfl⟩;rw[HC.out]
     go_wp2_with fail
     refine(Oj s most _ hs h0 h1 HA.out).mono ?_;rintro e w' ⟨rfl,rfl⟩;unfold CQ
     go_wp2_with fail
     go_ret2
     exact⟨rfl,rfl⟩
    ·have h2s:1<s.size:=by omega
     clear h1s
     go_enter Tryz.func167,Tryz.ntmps167
     go_wp2_with fail
     refine(IV s _ hs).mono ?_;rintro e w' ⟨rfl,rfl⟩;rw[HC.out]
     go_wp2_with fail
     refine(Oj s most _ hs h0 h1 HA.out).mono ?_;rintro e w' ⟨rfl,rfl⟩;unfold CQ
     go_wp2_with fail
     go_ret2
     exact⟨rfl,rfl⟩
  ·obtain⟨h2s,h48⟩:=(LA s).1 hz;have HN:Hid (BR most.toNat s.data.toList=(6,0)):=za (by unfold BR;rw[if_pos hc,if_pos hz]);have hb:((s[0].toNat:Int)==48)=true:=by rw[h48];rfl
   have HC:=za hc;rw[HN.out];clear hc hz h48
   go_enter Tryz.func167,Tryz.ntmps167
   go_wp2_with fail
   refine(IV s _ hs).mono ?_;rintro e w' ⟨rfl,rfl⟩;rw[HC.out]
   go_wp2_with fail
   go_ret2
   exact⟨rfl,rfl⟩
 ·have HN:Hid (BR most.toNat s.data.toList=(1,0)):=za (by unfold BR;rw[hc,if_neg (by decide)]);have HC:=za hc;clear hc;rw[HN.out]
  go_enter Tryz.func167,Tryz.ntmps167
  go_wp2_with fail
  refine(IV s _ hs).mono ?_;rintro e w' ⟨rfl,rfl⟩;rw[HC.out]
  go_wp2_with fail
  go_ret2
  exact⟨rfl,rfl⟩
 ·have HN:Hid (BR most.toNat s.data.toList=(3,0)):=za (by unfold BR;rw[hc,if_neg (by decide)]);have HC:=za hc;clear hc;rw[HN.out]
  go_enter Tryz.func167,Tryz.ntmps167
  go_wp2_with fail
  refine(IV s _ hs).mono ?_;rintro e w' ⟨rfl,rfl⟩;rw[HC.out]
  go_wp2_with fail
  go_ret2
  exact⟨rfl,rfl⟩
theorem cF {c:UInt8} (h:Bn c=true):(48<=c.toNat/\c.toNat<=57/\Di c=c.toNat - 48)\/(57<c.toNat/\∃x:Int,bits .or .u8 (c.toNat:Int) 32=x/\97<=x/\x<=102/\x - 97+10=Di c):=by
 have h3:=OQ h
 by_cases hd:c.toNat<=57
 ·refine .inl ⟨by omega,hd,?_⟩;unfold Di;rw[if_pos hd]
 ·have h4:97<=c.toNat/\c.toNat<=102\/65<=c.toNat/\c.toNat<=70:=by omega
  refine .inr ⟨by omega,_,oI ⟨c.toNat,c.toNat_lt⟩ h4,?_,?_,?_⟩
  all_goals simp only[Di]
  all_goals (repeat' split)
  all_goals omega
theorem RB {M d:Nat} (hM:(M:Int)<=18446744073709551615) (hd:d<16) (h:M<d):∃y:Int,IntKind.u64.wrap ((M:Int) - (d:Int))=y/\1000<y:=by
 refine⟨_,rfl,?_⟩;rw[IntKind.wrap_u64];omega
set_option maxHeartbeats 4000000 in
theorem Ow (s:ByteArray) (most:Int) (w:World) (hs:s.size<=maxLen) (h0:0<=most) (h1:most<=18446744073709551615) :
  Calls Tryz.prog 128 #[.string s,.int .u64 10,.int .u64 most] w fun e w'=>e=.returned (CQ (EQ AC 10 most.toNat s.data.toList))/\w=w':=by
 unfold maxLen at hs;obtain⟨M,rfl⟩:=xt h0;rw[zm];clear h0
 by_cases h0:s.size=0
 ·obtain rfl:s=S []:=Gd h0;clear h0 hs
  go_enter Tryz.func128,Tryz.ntmps128
  go_wp2_with fail
  go_ret2
  exact⟨rfl,rfl⟩
 ·have hne:s.data.toList≠[]:=fun e=>h0 (by rw[<-At,e];rfl);have HE:=za hne;have he1:s.toList.isEmpty=false:=by rw[ByteArray.toList_eq];simpa using hne
  have hpos:0<s.size:=by omega
  clear h0 hne
  go_enter Tryz.func128,Tryz.ntmps128
  go_wp2_with fail
  go_loop [8] (fun i=>∃k:Nat,k<=s.size/\i=.int .i64 k/\Hid ((s.data.toList.take k).all AC=true)) (fun i=>s.size - (intOf i).toNat)
  case atStart=>exact⟨0,ze _,rfl,za rfl⟩
  case round=>
   obtain⟨k,hk,rfl,HA⟩:=hrel
   by_cases hlt:k<s.size
   ·rcases hp:AC s[k] with _|_
    ·have HB:Hid (s.data.toList.all AC=false):=za (GV _ _ (k+1) (by rw[ES _ _ _ hlt,hp,Bool.and_false]));have HP:=za hp;clear hp
     go_wp2_with fail
     refine(EZ _ _).mono ?_;rintro e w' ⟨rfl,rfl⟩;rw[HP.out]
     go_wp2_with fail
     go_ret2
     exact⟨by unfold EQ;rw[S3 HE.out HB.out,if_neg (by decide)];rfl,rfl⟩
    ·have HB:Hid ((s.data.toList.take (k+1)).all AC=true):=za (by rw[ES _ _ _ hlt,hp,HA.out];rfl);have HP:=za hp;clear hp
     go_wp2_with fail
     refine(EZ _ _).mono ?_;rintro e w' ⟨rfl,rfl⟩;rw[HP.out]
     go_wp2_with fail
     go_round
     case rel=>exact⟨k+1,by omega,by go_num,HB⟩
     case measure=>simp[intOf];omega
   ·have HB:Hid (s.data.toList.all AC=true):=za (by rw[<-Ee s k hlt];exact HA.out);have HQ:Hid (EQ AC 10 M s.data.toList=C5 10 M s.data.toList):=za (by unfold EQ;rw[NB HE.out HB.out,if_pos rfl]);have HH:Hid (s.data.toList.all Bn=true):=za (Ud HB.out);clear HA HB
    go_wp2_with fail
    go_loop [9,10,11] (fun n i _=>∃k m:Nat,k<=s.size/\m<=M/\i=.int .i64 k/\n=.int .u64 m/\Hid (BF 10 M s.data.toList 0=BF 10 M (s.data.toList.drop k) m)) (fun _ i _=>s.size - (intOf i).toNat)
    case atStart=>exact⟨0,0,ze _,ze _,rfl,rfl,za rfl⟩
    case round=>
     obtain⟨k,m,hk,hm,rfl,rfl,HV⟩:=hrel
     by_cases hlt:k<s.size
     ·have hx:=O1 HH.out k hlt;have hd16:=O6 hx;have hcs:=cF hx;have HC:Hid (BF 10 M (s.data.toList.drop k) m=if m*10+Di s[k]<=M then BF 10 M (s.data.toList.drop (k+1)) (m*10+Di s[k]) else none):=za (by rw[Df s k hlt];rfl);clear hx;generalize hdv:Di s[k]=d at *;clear hdv;rcases hcs with ⟨c1,c2,hc3⟩|⟨c1,x,hx,hx1,hx2,hx3⟩
      ·have HD:=za hc3;clear hc3
       by_cases hdm:d<=M
       ·by_cases hok:m*10+d<=M
        ·have HN:Hid (BF 10 M s.data.toList 0=BF 10 M (s.data.toList.drop (k+1)) (m*10+d)):=za (by rw[HV.out,HC.out,if_pos hok]);have e1:(m:Int)<=(M:Int) / 10:=by omega
         have hde:=HD.out;have hdi:(s[k].toNat:Int) - 48=(d:Int):=by omega
         have e2:(m:Int)*10<=(M:Int) - ((s[k].toNat:Int) - 48):=by omega
         have e3:(s[k].toNat:Int) - 48<=(M:Int):=by omega
         have HI:=za hdi;clear hde hdi
         go_wp2_with fail
         go_round
         case rel=>exact⟨k+1,m*10+d,by omega,hok,by go_num,congrArg (Value.int .u64) (by have:=HI.out;omega),HN⟩
         case measure=>simp[intOf];omega
        ·have HN:Hid (BF 10 M s.data.toList 0=none):=za (by rw[HV.out,HC.out,if_neg hok])
         by_cases e1:(m:Int)<=(M:Int) / 10
         ·have hde:=HD.out;have e2:(M:Int) - ((s[k].toNat:Int) - 48)<(m:Int)*10:=by omega
          have e3:(s[k].toNat:Int) - 48<=(M:Int):=by omega
          have e4:(m:Int)*10<=18446744073709551615:=by omega
          clear hde hok
          go_wp2_with fail
          go_ret2
          exact⟨by rw[HQ.out];unfold C5;rw[HN.out];rfl,rfl⟩
         ·have e2:(M:Int) / 10<(m:Int):=by omega
          clear e1 hok
          go_wp2_with fail
          go_ret2
          exact⟨by rw[HQ.out];unfold C5;rw[HN.out];rfl,rfl⟩
       ·have HN:Hid (BF 10 M s.data.toList 0=none):=za (by rw[HV.out,HC.out,if_neg (by omega)])
        by_cases e1:(m:Int)<=(M:Int) / 10
        ·have hde:=HD.out;obtain⟨y,hy,hy1⟩:=RB h1 hd16 (by omega:M<d);have hdi:(d:Int)=(s[k].toNat:Int) - 48:=by omega
         rw[hdi] at hy;have e3:(M:Int)<(s[k].toNat:Int) - 48:=by omega
         have e4:(m:Int)*10<=1000:=by omega
         clear hde hdi hdm
         go_wp2_with fail
         go_ret2
         exact⟨by rw[HQ.out];unfold C5;rw[HN.out];rfl,rfl⟩
        ·have e2:(M:Int) / 10<(m:Int):=by omega
         clear e1 hdm
         go_wp2_with fail
         go_ret2
         exact⟨by rw[HQ.out];unfold C5;rw[HN.out];rfl,rfl⟩
      ·have HD:=za hx3;have c3:(10:Int)<=d:=by omega
       clear hx3
       by_cases hdm:d<=M
       ·by_cases hok:m*10+d<=M
        ·have HN:Hid (BF 10 M s.data.toList 0=BF 10 M (s.data.toList.drop (k+1)) (m*10+d)):=za (by rw[HV.out,HC.out,if_pos hok]);have e1:(m:Int)<=(M:Int) / 10:=by omega
         have hde:=HD.out;have hdi:x - 97+10=(d:Int):=by omega
         have e2:(m:Int)*10<=(M:Int) - (x - 97+10):=by omega
         have e3:x - 97+10<=(M:Int):=by omega
         have HI:=za hdi;clear hde hdi
         go_wp2_with fail
         go_round
         case rel=>exact⟨k+1,m*10+d,by omega,hok,by go_num,congrArg (Value.int .u64) (by have:=HI.out;omega),HN⟩
         case measure=>simp[intOf];omega
        ·have HN:Hid (BF 10 M s.data.toList 0=none):=za (by rw[HV.out,HC.out,if_neg hok])
         by_cases e1:(m:Int)<=(M:Int) / 10
         ·have hde:=HD.out;have e2:(M:Int) - (x - 97+10)<(m:Int)*10:=by omega
          have e3:x - 97+10<=(M:Int):=by omega
          have e4:(m:Int)*10<=18446744073709551615:=by omega
          clear hde hok
          go_wp2_with fail
          go_ret2
          exact⟨by rw[HQ.out];unfold C5;rw[HN.out];rfl,rfl⟩
         ·have e2:(M:Int) / 10<(m:Int):=by omega
          clear e1 hok
          go_wp2_with fail
          go_ret2
          exact⟨by rw[HQ.out];unfold C5;rw[HN.out];rfl,rfl⟩
       ·have HN:Hid (BF 10 M s.data.toList 0=none):=za (by rw[HV.out,HC.out,if_neg (by omega)])
        by_cases e1:(m:Int)<=(M:Int) / 10
        ·have hde:=HD.out;obtain⟨y,hy,hy1⟩:=RB h1 hd16 (by omega:M<d);have hdi:(d:Int)=x - 97+10:=by omega
         rw[hdi] at hy;have e3:(M:Int)<x - 97+10:=by omega
         have e4:(m:Int)*10<=1000:=by omega
         clear hde hdi hdm
         go_wp2_with fail
         go_ret2
         exact⟨by rw[HQ.out];unfold C5;rw[HN.out];rfl,rfl⟩
        ·have e2:(M:Int) / 10<(m:Int):=by omega
         clear e1 hdm
         go_wp2_with fail
         go_ret2
         exact⟨by rw[HQ.out];unfold C5;rw[HN.out];rfl,rfl⟩
     ·have HN:Hid (BF 10 M s.data.toList 0=some m):=za (by rw[HV.out,yd (by rw[At];omega)];rfl)
      go_wp2_with fail
      go_ret2
      exact⟨by rw[HQ.out];unfold C5;rw[HN.out];rfl,rfl⟩
theorem gE (most:Nat) (l:List UInt8):((EQ AC 10 most l).1=0\/(EQ AC 10 most l).1=4)/\(Fk l=true->BR most l=(6,0))/\(Fk l=false->BR most l=EQ AC 10 most l) \/
  ((EQ AC 10 most l).1=1\/(EQ AC 10 most l).1=3)/\BR most l=EQ AC 10 most l:=by
 unfold EQ BR;rcases TN AC l with hc|hc|hc
 ·rw[hc,if_pos rfl,if_pos rfl];refine .inl ⟨?_,fun hz=>by rw[if_pos hz],fun hz=>by rw[if_neg (by rw[hz];exact Bool.false_ne_true)]⟩;unfold C5;rcases BF 10 most l 0 with _|n
  ·exact .inr rfl
  ·exact .inl rfl
 ·rw[hc,if_neg (by decide),if_neg (by decide)];exact .inr ⟨.inl rfl,rfl⟩
 ·rw[hc,if_neg (by decide),if_neg (by decide)];exact .inr ⟨.inr rfl,rfl⟩
theorem JT (s:ByteArray) (most:Int) (w:World) (hs:s.size<=maxLen) (h0:0<=most) (h1:most<=18446744073709551615) :
  Calls Tryz.prog 97 #[.string s,.int .u64 most] w fun e w'=>e=.returned (CQ (BR most.toNat s.data.toList))/\w=w':=by
 unfold maxLen at hs;have hcs:=gE most.toNat s.data.toList;rcases hn:EQ AC 10 most.toNat s.data.toList with ⟨er,v⟩;rw[hn] at hcs;have HN:=za hn;clear hn;rcases hcs with ⟨he,hz1,hz0⟩|⟨he,hz⟩
 ·rcases hz:Fk s.data.toList with _|_
  ·have HS:=za (hz0 hz);have hor:s.size<=1\/(1<s.size/\∃h:0<s.size,((s[0].toNat:Int)==48)=false):=by
    by_cases h:s.size<=1
    ·exact .inl h
    ·refine .inr ⟨by omega,by omega,beq_eq_false_iff_ne.2 fun e=>?_⟩;have:s[0]=48:=UInt8.toNat_inj.1 (by show s[0].toNat=48;omega);have:=(LA s).2 ⟨by omega,this⟩;rw[hz] at this;cases this
   rw[HS.out];clear hz0 hz1 hz HS;rcases he with rfl|rfl
   all_goals rcases hor with hor|⟨hor,hpos,hor2⟩
   all_goals go_enter Tryz.func97,Tryz.ntmps97
   all_goals go_wp2_with fail
   all_goals refine(Ow s most _ hs h0 h1).mono ?_
   all_goals rintro e w' ⟨rfl,rfl⟩
   all_goals rw[HN.out]
   all_goals unfold CQ
   all_goals go_wp2_with fail
   all_goals go_ret2
   all_goals exact⟨rfl,rfl⟩
  ·obtain⟨h2s,h48⟩:=(LA s).1 hz;have hb:((s[0].toNat:Int)==48)=true:=by rw[h48];rfl
   have HS:=za (hz1 hz);rw[HS.out];clear hz0 hz1 hz HS h48;rcases he with rfl|rfl
   all_goals go_enter Tryz.func97,Tryz.ntmps97
   all_goals go_wp2_with fail
   all_goals refine(Ow s most _ hs h0 h1).mono ?_
   all_goals rintro e w' ⟨rfl,rfl⟩
   all_goals rw[HN.out]
   all_goals unfold CQ
   all_goals go_wp2_with fail
   all_goals go_ret2
   all_goals exact⟨rfl,rfl⟩
 ·rw[hz];clear hz;rcases he with rfl|rfl
  all_goals go_enter Tryz.func97,Tryz.ntmps97
  all_goals go_wp2_with fail
  all_goals refine(Ow s most _ hs h0 h1).mono ?_
  all_goals rintro e w' ⟨rfl,rfl⟩
  all_goals rw[HN.out]
  all_goals unfold CQ
  all_goals go_wp2_with fail
  all_goals go_ret2
  all_goals exact⟨rfl,rfl⟩
end Go.Proofs.YtbeoijfmfkifeaaGreatDoor
namespace Go.Proofs.YtbeoijfmfkifeaaGreatDoor
open Lib renaming decDigits->qw
open List renaming all_cons->jd
open Nat renaming le_refl->zd
theorem Hq {m:Nat} (h:m<10):qw m=[UInt8.ofNat (48+m)]:=Lib.decDigits_one h
theorem KX {m:Nat} (h:¬m<10):qw m=qw (m / 10)++[UInt8.ofNat (48+m % 10)]:=by
 rw[qw,dif_neg h]
theorem TB (b M:Nat):∀(l1 l2:List UInt8) (a:Nat),BF b M (l1++l2) a=match BF b M l1 a with|some m=>BF b M l2 m|none=>none
 | [],l2,a=>rfl
 | c::l,l2,a=>by
  rw[List.cons_append,BF,BF]
  split
  ·exact TB b M l l2 _
  ·rfl
theorem Qd {d:Nat} (h:d<10):(UInt8.ofNat (48+d)).toNat=48+d:=by rw[UInt8.toNat_ofNat'];omega
theorem Ks {d:Nat} (h:d<10):Di (UInt8.ofNat (48+d))=d/\AC (UInt8.ofNat (48+d))=true:=by
 have e:=Qd h;have h2:AC (UInt8.ofNat (48+d))=true:=decide_eq_true (by rw[e];omega);exact⟨by rw[(RU h2).1,e];omega,h2⟩
theorem YX (M:Nat):∀(k n:Nat),n<=k->n<=M->BF 10 M (qw n) 0=some n:=by
 intro k
 induction k with
 | zero=>
  intro n hn hM;obtain rfl:n=0:=by omega
  rw[Hq (by decide)]
  rfl
 | succ k ih=>
  intro n hn hM
  by_cases h10:n<10
  ·rw[Hq h10,BF,(Ks h10).1,if_pos (by omega),BF]
   congr 1;omega
  ·rw[KX h10,TB,ih (n / 10) (by omega) (by omega)];simp only;rw[BF,(Ks (show n % 10<10 by omega)).1,if_pos (by omega),BF]
   congr 1;omega
theorem MD:∀(k n:Nat),n<=k->(qw n).all AC=true/\qw n≠[]:=by
 intro k
 induction k with
 | zero=>
  intro n hn;obtain rfl:n=0:=by omega
  rw[Hq (by decide)];exact⟨by decide,by simp⟩
 | succ k ih=>
  intro n hn
  by_cases h10:n<10
  ·rw[Hq h10];exact⟨by rw[jd,(Ks h10).2];rfl,by simp⟩
  ·rw[KX h10];exact⟨by rw[List.all_append,(ih (n / 10) (by omega)).1,jd,(Ks (show n % 10<10 by omega)).2];rfl,by simp⟩
theorem YN:∀(k n:Nat),n<=k->1<=n->∃c t,qw n=c::t/\c≠48:=by
 intro k
 induction k with
 | zero=>intro n hn h;omega
 | succ k ih=>
  intro n hn h
  by_cases h10:n<10
  ·refine⟨_,_,Hq h10,fun e=>?_⟩;have:=congrArg UInt8.toNat e;rw[Qd h10] at this;have h48:(48:UInt8).toNat=48:=rfl;omega
  ·obtain⟨c,t,h1,h2⟩:=ih (n / 10) (by omega) (by omega);exact⟨c,t++[UInt8.ofNat (48+n % 10)],by rw[KX h10,h1];rfl,h2⟩
theorem dK {c:UInt8} {t:List UInt8} (h:c≠48):Fk (c::t)=false:=by
 unfold Fk
 split
 ·rename_i h2;injection h2 with h2;exact absurd h2 h
 ·rfl
theorem eC (n:Nat):Fk (qw n)=false:=by
 by_cases h:n=0
 ·subst h;rw[Hq (by decide)];rfl
 ·obtain⟨c,t,h1,h2⟩:=YN n n (zd _) (by omega);rw[h1];exact dK h2
theorem dD (n M:Nat) (h:n<=M):BR M (qw n)=(0,n):=by
 have ha:=MD n n (zd _);unfold BR;rw[NB ha.2 ha.1,if_pos rfl,if_neg (by rw[eC];exact Bool.false_ne_true)];unfold C5;rw[YX M n n (zd _) h]
 rfl
open Go.RowKit Go.Sort
def Pw (w : World) : Prop := Lib.TabIs Tryz.prog w "internal/strconv.uint64pow10" .u64 Lib.pow10Tab
theorem Pw.keep {w w':World} (h:Pw w) (hq:Qb w w'):Pw w':=Lib.tabBelow_of_tabIs h w' hq
theorem Pw.drew {w:World} (h:Pw w):Pw w.drew:=h
theorem Pw.alloc {w:World} (h:Pw w) (o:Obj):Pw (w.alloc o):=Lib.tabIs_alloc h o
theorem Xm (w:World) (k:Nat) (os:Array Obj):Qb w (grow (w.drewN k) os):=Lib.below_grow w.heap.size w (zd _) k os
end Go.Proofs.YtbeoijfmfkifeaaGreatDoor
namespace Go.Proofs.YtbeoijfmfkifeaaGreatDoor
open Go.RowKit
open Lib renaming decDigits->qw, hid->za
theorem Zu (x:Nat) (t:List UInt8):(strOfNums [48+(x:Int)]++S t:ByteArray)=S (UInt8.ofNat (48+x)::t):=by
 rw[<-G4 (strOfNums [48+(x:Int)]++S t),ByteArray.data_append,Array.toList_append,strOfNums_data];have:(48+(x:Int)).toNat=48+x:=by omega
 simp[this]
set_option maxHeartbeats 1000000 in
theorem fH (u:Nat) (hu64:u<18446744073709551616) (w:World) :
  Calls Tryz.prog 157 #[.int .u64 u] w fun e w'=>e=.returned (.string (S (qw u)))/\Qb w w':=by
 go_enter Tryz.func157,Tryz.ntmps157
 go_wp2_with fail
 go_loopw [0,3] (fun n s wr=>∃(m:Nat) (t:List UInt8),m<=u/\n=.int .u64 m/\s=.string (S t)/\Hid (qw u=qw m++t)/\Qb w wr) (fun n _ _=>(intOf n).toNat)
 case atStart=>exact⟨u,[],Nat.le_refl _,rfl,rfl,za (by simp),Qb.refl w⟩
 case round=>
  obtain⟨m,t,hm,rfl,rfl,HD,hq⟩:=hrel;have hst:=YM wr [48+(m:Int) % 10] 1 rfl;simp only[List.map_cons,List.map_nil] at hst;have HC:Hid ((strOfNums [48+(m:Int) % 10]++S t:ByteArray)=S (UInt8.ofNat (48+m % 10)::t)):=za (Zu (m % 10) t);have hsz:(S t).size<=30:=by
   have h1:=congrArg List.length HD.out;rw[List.length_append,Lib.decDigits_length] at h1;have h2:=Lib.nDigits_le20 u hu64;rw[Am];omega
  have hsx:(strOfNums [48+(m:Int) % 10]).size<=1:=by rw[<-At,strOfNums_data];simp
  by_cases h10:m<10
  ·have HN:Hid (qw u=UInt8.ofNat (48+m % 10)::t):=za (by rw[HD.out,Hq h10,Nat.mod_eq_of_lt h10];rfl);have hz:((m:Int) / 10==0)=true:=by rw[beq_iff_eq];omega
   clear HD
   go_wp2_with fail
   go_ret
   exact⟨GN (by rw[HN.out,HC.out]),hq.alloc _⟩
  ·have HN:Hid (qw u=qw (m / 10)++(UInt8.ofNat (48+m % 10)::t)):=za (by rw[HD.out,KX h10,List.append_assoc];rfl);have hz:((m:Int) / 10==0)=false:=by rw[beq_eq_false_iff_ne];omega
   clear HD
   go_wp2_with fail
   go_roundw
   case rel=>exact⟨m / 10,_,by omega,by go_num,congrArg Value.string HC.out,HN,hq.alloc _⟩
   case measure=>simp[intOf];omega
end Go.Proofs.YtbeoijfmfkifeaaGreatDoor
namespace Go.Proofs.YtbeoijfmfkifeaaGreatDoor.Sx
open Go.RowKit
def UP:SCode :=
 .s [.o 10 (.box 41 (.t 4)),
 .o 12 (.mv (.c (.b false)))]
 (.seq (.s [.c 25 8 [],
 .o 26 (.not (.t 25))]
 (.cond (.t 26)
 (.s [.o 12 (.mv (.c (.b false)))]
 (.ret))
 (.skip)))
 (.seq (.s [.w 27 12 10,
 .c 28 16 [.t 27],
 .o 29 (.not (.t 28))]
 (.cond (.t 29)
 (.s [.o 12 (.mv (.c (.b true)))]
 (.ret))
 (.skip)))
 (.s [.m 31 0,
 .c 32 12 [.t 31],
 .m 30 32,
 .e 33 30 0,
 .e 34 30 1,
 .o 13 (.alloc 24 [.i .i64 0,.nil]),
 .s 2 13 33,
 .m 14 34]
 (.s [.m 35 14,
 .m 36 3,
 .o 37 (.bin .rem (.t 36) (.c (.i .u64 100))),
 .b 38 .add 35 37,
 .m 14 38]
 (.seq (.seq (.drw [.m 39 1,
 .o 40 (.cvi .i64 (.t 39)),
 .m 41 2,
 .c 42 17 [.t 40,.t 41],
 .m 43 1,
 .o 44 (.cvi .i64 (.t 43)),
 .m 45 2,
 .o 46 (.bin .rem (.t 45) (.c (.i .u64 100))),
 .c 47 17 [.t 44,.t 46],
 .w 48 12 10,
 .o 49 (.bslice 3 [.i .i64 0,.i .i64 0,.s [],.s [],.i .i64 0,.i .i64 0,.s [],.s [],.i .i64 0,.b false,.i .u64 0,.nil,.i .i64 0,.i .i64 0,.s [],.s [],.i .i64 0,.i .i64 0,.s [],.s [],.i .i64 0,.b false,.i .u64 0,.nil,.i .i64 0,.i .i64 0,.s [],.s [],.i .i64 0,.i .i64 0,.s [],.s [],.i .i64 0,.b false,.i .u64 0,.nil] [(0,(12,.t 42)),(12,(12,.t 47)),(24,(12,.t 48))]),
 .o 50 (.lenr (.t 49)),
 .n 51 0] 13 [])
 (.blk 0
 (.loop
 (.s [.b 52 .lss 51 50]
 (.seq (.cond (.t 52)
 (.skip)
 (.exit 0))
 (.seq (.blk 1
 (.s [.o 53 (.iad 12 (.t 49) (.t 51)),
 .w 54 12 53,
 .o 16 (.alloc 41 [.i .i64 0,.i .i64 0,.s [],.s [],.i .i64 0,.i .i64 0,.s [],.s [],.i .i64 0,.b false,.i .u64 0,.nil]),
 .s 12 16 54]
 (.seq (.seq (.drw [.w 55 2 13,
 .w 56 12 16,
 .m 57 14,
 .c 58 18 [.t 55,.t 56,.t 57],
 .w 59 2 13,
 .w 60 12 16,
 .m 61 14,
 .c 62 19 [.t 59,.t 60,.t 61],
 .c 63 13 [.t 58,.t 62],
 .o 64 (.not (.t 63))] 10 [])
 (.cond (.t 64)
 (.s [.o 12 (.mv (.c (.b false)))]
 (.ret))
 (.skip)))
 (.s [.w 66 2 13,
 .f 67 1 16,
 .f 68 1 67,
 .l 69 68,
 .m 70 14,
 .c 71 20 [.t 66,.t 69,.t 70],
 .m 65 71,
 .e 72 65 0,
 .e 73 65 1,
 .o 17 (.alloc 41 [.i .i64 0,.i .i64 0,.s [],.s [],.i .i64 0,.i .i64 0,.s [],.s [],.i .i64 0,.b false,.i .u64 0,.nil]),
 .s 12 17 72,
 .m 18 73]
 (.s [.w 75 2 13,
 .f 76 1 16,
 .f 77 1 76,
 .l 78 77,
 .m 79 14,
 .c 80 21 [.t 75,.t 78,.t 79],
 .m 74 80,
 .e 81 74 0,
 .e 82 74 1,
 .o 19 (.alloc 41 [.i .i64 0,.i .i64 0,.s [],.s [],.i .i64 0,.i .i64 0,.s [],.s [],.i .i64 0,.b false,.i .u64 0,.nil]),
 .s 12 19 81,
 .m 20 82]
 (.s [.m 83 18,
 .m 84 20,
 .o 85 (.beq true (.t 83) (.t 84)),
 .m 86 85,
 ⟨some 87,.loadn 12 (.t 17),some (86,false)⟩,
 ⟨some 88,.loadn 12 (.t 19),some (86,false)⟩,
 ⟨some 89,.call 22 [.t 87,.t 88],some (86,false)⟩,
 ⟨some 90,.not (.t 89),some (86,false)⟩,
 .p 91 86 90]
 (.cond (.t 91)
 (.s [.o 12 (.mv (.c (.b false)))]
 (.ret))
 (.skip))))))))
 (.reg [.k 92 .add 51 1,
 .m 51 92])))))))
 (.s [.w 94 2 13,
 .m 95 5,
 .m 96 3,
 .c 97 20 [.t 94,.t 95,.t 96],
 .m 93 97,
 .e 98 93 0,
 .e 99 93 1,
 .o 21 (.alloc 41 [.i .i64 0,.i .i64 0,.s [],.s [],.i .i64 0,.i .i64 0,.s [],.s [],.i .i64 0,.b false,.i .u64 0,.nil]),
 .s 12 21 98,
 .m 22 99]
 (.s [.w 101 2 13,
 .m 102 5,
 .m 103 3,
 .c 104 21 [.t 101,.t 102,.t 103],
 .m 100 104,
 .e 105 100 0,
 .e 106 100 1,
 .o 23 (.alloc 41 [.i .i64 0,.i .i64 0,.s [],.s [],.i .i64 0,.i .i64 0,.s [],.s [],.i .i64 0,.b false,.i .u64 0,.nil]),
 .s 12 23 105,
 .m 24 106]
 (.seq (.drw [.m 107 22,
 .m 108 24,
 .o 109 (.beq false (.t 107) (.t 108)),
 .m 110 109,
 ⟨some 111,.loadn 2 (.t 13),some (110,true)⟩,
 ⟨some 112,.mv (.t 14),some (110,true)⟩,
 ⟨some 113,.call 23 [.t 111,.t 112],some (110,true)⟩,
 ⟨some 114,.loadn 2 (.t 13),some (110,true)⟩,
 ⟨some 115,.mv (.t 14),some (110,true)⟩,
 ⟨some 116,.call 24 [.t 114,.t 115],some (110,true)⟩,
 ⟨some 117,.call 13 [.t 113,.t 116],some (110,true)⟩,
 .o 118 (.pick (.t 110) (.t 117) (.c (.b false))),
 .m 119 118,
 ⟨some 120,.loadn 2 (.t 13),some (119,true)⟩,
 ⟨some 121,.mv (.t 3),some (119,true)⟩,
 ⟨some 122,.call 23 [.t 120,.t 121],some (119,true)⟩,
 ⟨some 123,.loadn 2 (.t 13),some (119,true)⟩,
 ⟨some 124,.mv (.t 3),some (119,true)⟩,
 ⟨some 125,.call 24 [.t 123,.t 124],some (119,true)⟩,
 ⟨some 126,.call 13 [.t 122,.t 125],some (119,true)⟩,
 .o 127 (.pick (.t 119) (.t 126) (.c (.b false))),
 .m 12 127] 22 [])
 (.ret)))))))))
theorem jX:FnIs Tryz.prog 4 128 [.tmp 12] UP:=⟨⟨_,_,Tryz.func4,rfl,rfl,by kernel_rfl,by kernel_rfl⟩⟩
def TL:SCode :=
 .s [.o 0 (.mv (.c (.b false)))]
 (.s [.c 9 10 [.c (.i .i64 1)],
 .m 8 9,
 .e 10 8 0,
 .e 11 8 1,
 .o 1 (.alloc 24 [.i .i64 0,.nil]),
 .s 2 1 10,
 .m 2 11]
 (.seq (.drw [.w 12 2 1,
 .c 13 17 [.c (.i .i64 0),.c (.i .u64 100)],
 .c 14 18 [.t 12,.t 13,.c (.i .u64 0)],
 .s 2 1 14] 3 [])
 (.seq (.drw [.w 15 2 1,
 .o 16 (.pcall 17 [.c (.i .i64 1),.c (.i .u64 5)]),
 .o 17 (.pcall 18 [.t 15,.t 16,.c (.i .u64 0)]),
 .o 3 (.alloc 24 [.i .i64 0,.nil]),
 .s 2 3 17] 5 [(1,(3,none))])
 (.seq (.drw [.w 19 2 3,
 .o 20 (.pcall 17 [.c (.i .i64 0),.c (.i .u64 1)]),
 .o 21 (.fldn 1 4 (.t 20)),
 .o 22 (.fld1 1 (.t 21)),
 .o 23 (.pcall 20 [.t 19,.t 22,.c (.i .u64 0)]),
 .m 18 23,
 .e 24 18 0,
 .e 25 18 1,
 .o 4 (.alloc 41 [.i .i64 0,.i .i64 0,.s [],.s [],.i .i64 0,.i .i64 0,.s [],.s [],.i .i64 0,.b false,.i .u64 0,.nil]),
 .s 12 4 24,
 .m 5 25] 11 [(3,(4,none))])
 (.seq (.drw [.w 27 2 3,
 .o 28 (.pcall 17 [.c (.i .i64 1),.c (.i .u64 1)]),
 .o 29 (.fldn 1 4 (.t 28)),
 .o 30 (.fld1 1 (.t 29)),
 .o 31 (.pcall 20 [.t 27,.t 30,.c (.i .u64 4)]),
 .m 26 31,
 .e 32 26 0,
 .e 33 26 1,
 .o 6 (.alloc 41 [.i .i64 0,.i .i64 0,.s [],.s [],.i .i64 0,.i .i64 0,.s [],.s [],.i .i64 0,.b false,.i .u64 0,.nil]),
 .s 12 6 32,
 .m 7 33] 11 [(3,(6,none))])
 (.s [.m 34 2,
 .k 35 .eql 34 0,
 .m 36 35,
 ⟨some 37,.fad 1 (.t 1),some (36,true)⟩,
 ⟨some 38,.load1 (.t 37),some (36,true)⟩,
 ⟨some 39,.lenr (.t 38),some (36,true)⟩,
 ⟨some 40,.bin .eql (.t 39) (.c (.i .i64 1)),some (36,true)⟩,
 .o 41 (.pick (.t 36) (.t 40) (.c (.b false))),
 .m 42 41,
 ⟨some 43,.fad 1 (.t 3),some (42,true)⟩,
 ⟨some 44,.load1 (.t 43),some (42,true)⟩,
 ⟨some 45,.lenr (.t 44),some (42,true)⟩,
 ⟨some 46,.bin .eql (.t 45) (.c (.i .i64 1)),some (42,true)⟩,
 .o 47 (.pick (.t 42) (.t 46) (.c (.b false))),
 .m 48 47,
 ⟨some 49,.mv (.t 5),some (48,true)⟩,
 ⟨some 50,.not (.t 49),some (48,true)⟩,
 .o 51 (.pick (.t 48) (.t 50) (.c (.b false))),
 .m 52 51,
 ⟨some 53,.mv (.t 7),some (52,true)⟩,
 .o 54 (.pick (.t 52) (.t 53) (.c (.b false))),
 .m 55 54,
 ⟨some 56,.loadn 2 (.t 3),some (55,true)⟩,
 ⟨some 57,.call 14 [.t 56],some (55,true)⟩,
 .o 58 (.pick (.t 55) (.t 57) (.c (.b false))),
 .m 0 58]
 (.ret)))))))
theorem gL:FnIs Tryz.prog 8 59 [.tmp 0] TL:=⟨⟨_,_,Tryz.func8,rfl,rfl,by kernel_rfl,by kernel_rfl⟩⟩
def Tg:SCode :=
 .s [.o 2 (.alloc 24 [.i .i64 0,.nil]),
 .n 3 0]
 (.seq (.s [.m 4 0,
 .k 5 .lss 4 0,
 .m 6 5,
 ⟨some 7,.mv (.t 0),some (6,false)⟩,
 ⟨some 8,.bin .gtr (.t 7) (.c (.i .i64 1024)),some (6,false)⟩,
 .p 9 6 8]
 (.cond (.t 9)
 (.s [.o 10 (.build [.i .i64 0,.nil] []),
 .s 2 2 10,
 .n 3 4]
 (.ret))
 (.skip)))
 (.s [.m 11 0,
 .o 12 (.build [.i .i64 0,.nil] [(0,(1,.t 11))]),
 .s 2 2 12,
 .n 3 0]
 (.ret)))
theorem fW:FnIs Tryz.prog 10 13 [.celln 2 2,.tmp 3] Tg:=⟨⟨_,_,Tryz.func10,rfl,rfl,by kernel_rfl,by kernel_rfl⟩⟩
def Tk:SCode :=
 .s [.o 2 (.alloc 24 [.i .i64 0,.nil]),
 .n 3 0]
 (.seq (.s [.m 4 0,
 .k 5 .lss 4 0,
 .m 6 5,
 ⟨some 7,.mv (.t 0),some (6,false)⟩,
 ⟨some 8,.bin .gtr (.t 7) (.c (.i .i64 1024)),some (6,false)⟩,
 .p 9 6 8]
 (.cond (.t 9)
 (.s [.o 10 (.build [.i .i64 0,.nil] []),
 .s 2 2 10,
 .n 3 4]
 (.ret))
 (.skip)))
 (.s [.m 11 0,
 .o 12 (.build [.i .i64 0,.nil] [(0,(1,.t 11))]),
 .s 2 2 12,
 .n 3 0]
 (.ret)))
theorem gA:FnIs Tryz.prog 11 13 [.celln 2 2,.tmp 3] Tk:=⟨⟨_,_,Tryz.func11,rfl,rfl,by kernel_rfl,by kernel_rfl⟩⟩
def TK:SCode :=
 .s [.o 2 (.alloc 24 [.i .i64 0,.nil]),
 .o 3 (.mv (.c (.i .u64 0)))]
 (.s [.m 9 0,
 .c 10 25 [.t 9],
 .m 4 10]
 (.s [.m 12 4,
 .c 13 26 [.t 12,.c (.i .i64 6)],
 .c 14 11 [.t 13],
 .m 11 14,
 .e 15 11 0,
 .e 16 11 1,
 .o 5 (.alloc 24 [.i .i64 0,.nil]),
 .s 2 5 15,
 .m 6 16]
 (.s [.o 7 (.mv (.c (.i .u64 0)))]
 (.seq (.s [.m 17 4,
 .c 18 26 [.t 17,.c (.i .i64 20)],
 .m 8 18]
 (.blk 0
 (.loop
 (.seq (.s [.m 19 8,
 .k 20 .gtr 19 0]
 (.cond (.t 20)
 (.skip)
 (.exit 0)))
 (.seq (.blk 1
 (.s [.m 23 7,
 .m 24 4,
 .c 25 26 [.t 24,.c (.i .i64 9)],
 .o 26 (.cvi .u64 (.t 25)),
 .b 27 .add 23 26,
 .m 7 27]
 (.seq (.crs [([.w 28 2 5,.m 29 4,.m 31 4,.m 36 7],.c 30 26 [.t 29,.c (.i .i64 9)]),([],.c 32 26 [.t 31,.c (.i .i64 60)]),([.o 33 (.bin .add (.c (.i .i64 1)) (.t 32)),.o 34 (.cvi .u64 (.t 33))],.c 35 17 [.t 30,.t 34]),([],.c 37 19 [.t 28,.t 35,.t 36])] [.s 2 5 37])
 (.s [.m 38 4,
 .c 39 26 [.t 38,.c (.i .i64 6)],
 .k 40 .eql 39 0]
 (.cond (.t 40)
 (.reg [.w 41 2 5,
 .m 42 7,
 .c 43 24 [.t 41,.t 42],
 .s 2 5 43])
 (.skip))))))
 (.reg [.m 21 8,
 .k 22 .sub 21 1,
 .m 8 22]))))))
 (.s [.w 44 2 5,
 .m 45 7,
 .s 2 2 44,
 .m 3 45]
 (.ret))))))
theorem gK:FnIs Tryz.prog 12 46 [.celln 2 2,.tmp 3] TK:=⟨⟨_,_,Tryz.func12,rfl,rfl,by kernel_rfl,by kernel_rfl⟩⟩
def TM:SCode :=
 .s [.o 2 (.box 24 (.t 0)),
 .o 3 (.box 24 (.t 1)),
 .o 4 (.mv (.c (.b false)))]
 (.seq (.s [.f 6 0 2,
 .l 7 6,
 .f 8 0 3,
 .l 9 8,
 .b 10 .neq 7 9,
 .m 11 10,
 ⟨some 12,.fad 1 (.t 2),some (11,false)⟩,
 ⟨some 13,.load1 (.t 12),some (11,false)⟩,
 ⟨some 14,.lenr (.t 13),some (11,false)⟩,
 ⟨some 15,.fad 1 (.t 3),some (11,false)⟩,
 ⟨some 16,.load1 (.t 15),some (11,false)⟩,
 ⟨some 17,.lenr (.t 16),some (11,false)⟩,
 ⟨some 18,.bin .neq (.t 14) (.t 17),some (11,false)⟩,
 .p 19 11 18]
 (.cond (.t 19)
 (.s [.o 4 (.mv (.c (.b false)))]
 (.ret))
 (.skip)))
 (.seq (.s [.f 20 1 2,
 .l 21 20,
 .o 22 (.lenr (.t 21)),
 .n 23 0]
 (.blk 0
 (.loop
 (.s [.b 24 .lss 23 22]
 (.seq (.cond (.t 24)
 (.skip)
 (.exit 0))
 (.seq (.blk 1
 (.s [.m 25 23,
 .m 5 25]
 (.seq (.drw [.f 26 1 2,
 .l 27 26,
 .m 28 5,
 .o 29 (.iad 14 (.t 27) (.t 28)),
 .f 30 12 29,
 .l 31 30,
 .f 32 1 3,
 .l 33 32,
 .m 34 5,
 .o 35 (.iad 14 (.t 33) (.t 34)),
 .f 36 12 35,
 .l 37 36,
 .b 38 .neq 31 37,
 .m 39 38,
 ⟨some 40,.fad 1 (.t 2),some (39,false)⟩,
 ⟨some 41,.load1 (.t 40),some (39,false)⟩,
 ⟨some 42,.mv (.t 5),some (39,false)⟩,
 ⟨some 43,.iad 14 (.t 41) (.t 42),some (39,false)⟩,
 ⟨some 44,.fad 13 (.t 43),some (39,false)⟩,
 ⟨some 45,.load1 (.t 44),some (39,false)⟩,
 ⟨some 46,.fad 1 (.t 3),some (39,false)⟩,
 ⟨some 47,.load1 (.t 46),some (39,false)⟩,
 ⟨some 48,.mv (.t 5),some (39,false)⟩,
 ⟨some 49,.iad 14 (.t 47) (.t 48),some (39,false)⟩,
 ⟨some 50,.fad 13 (.t 49),some (39,false)⟩,
 ⟨some 51,.load1 (.t 50),some (39,false)⟩,
 ⟨some 52,.bin .neq (.t 45) (.t 51),some (39,false)⟩,
 .p 53 39 52,
 .m 54 53,
 ⟨some 55,.fad 1 (.t 2),some (54,false)⟩,
 ⟨some 56,.load1 (.t 55),some (54,false)⟩,
 ⟨some 57,.mv (.t 5),some (54,false)⟩,
 ⟨some 58,.iad 14 (.t 56) (.t 57),some (54,false)⟩,
 ⟨some 59,.fad 0 (.t 58),some (54,false)⟩,
 ⟨some 60,.loadn 12 (.t 59),some (54,false)⟩,
 ⟨some 61,.fad 1 (.t 3),some (54,false)⟩,
 ⟨some 62,.load1 (.t 61),some (54,false)⟩,
 ⟨some 63,.mv (.t 5),some (54,false)⟩,
 ⟨some 64,.iad 14 (.t 62) (.t 63),some (54,false)⟩,
 ⟨some 65,.fad 0 (.t 64),some (54,false)⟩,
 ⟨some 66,.loadn 12 (.t 65),some (54,false)⟩,
 ⟨some 67,.call 22 [.t 60,.t 66],some (54,false)⟩,
 ⟨some 68,.not (.t 67),some (54,false)⟩,
 .p 69 54 68] 44 [])
 (.cond (.t 69)
 (.s [.o 4 (.mv (.c (.b false)))]
 (.ret))
 (.skip)))))
 (.reg [.k 70 .add 23 1,
 .m 23 70])))))))
 (.s [.o 4 (.mv (.c (.b true)))]
 (.ret))))
theorem gM:FnIs Tryz.prog 13 71 [.tmp 4] TM:=⟨⟨_,_,Tryz.func13,rfl,rfl,by kernel_rfl,by kernel_rfl⟩⟩
def TZ:SCode :=
 .s [.o 1 (.box 24 (.t 0)),
 .o 2 (.mv (.c (.b false)))]
 (.seq (.s [.f 5 0 1,
 .l 6 5,
 .k 7 .lss 6 0,
 .m 8 7,
 ⟨some 9,.fad 0 (.t 1),some (8,false)⟩,
 ⟨some 10,.load1 (.t 9),some (8,false)⟩,
 ⟨some 11,.bin .gtr (.t 10) (.c (.i .i64 1024)),some (8,false)⟩,
 .p 12 8 11,
 .m 13 12,
 ⟨some 14,.fad 1 (.t 1),some (13,false)⟩,
 ⟨some 15,.load1 (.t 14),some (13,false)⟩,
 ⟨some 16,.lenr (.t 15),some (13,false)⟩,
 ⟨some 17,.fad 0 (.t 1),some (13,false)⟩,
 ⟨some 18,.load1 (.t 17),some (13,false)⟩,
 ⟨some 19,.bin .gtr (.t 16) (.t 18),some (13,false)⟩,
 .p 20 13 19]
 (.cond (.t 20)
 (.s [.o 2 (.mv (.c (.b false)))]
 (.ret))
 (.skip)))
 (.seq (.s [.f 21 1 1,
 .l 22 21,
 .o 23 (.lenr (.t 22)),
 .n 24 0]
 (.blk 0
 (.loop
 (.s [.b 25 .lss 24 23]
 (.seq (.cond (.t 25)
 (.skip)
 (.exit 0))
 (.seq (.blk 1
 (.s [.m 26 24,
 .o 27 (.iad 14 (.t 22) (.t 24)),
 .w 28 14 27,
 .o 4 (.alloc 43 [.i .i64 0,.i .i64 0,.s [],.s [],.i .i64 0,.i .i64 0,.s [],.s [],.i .i64 0,.b false,.i .u64 0,.nil,.i .u64 0,.i .u64 0]),
 .m 3 26,
 .s 14 4 28]
 (.seq (.seq (.drw [.m 29 3,
 .k 30 .gtr 29 0,
 .m 31 30,
 ⟨some 32,.fad 1 (.t 1),some (31,true)⟩,
 ⟨some 33,.load1 (.t 32),some (31,true)⟩,
 ⟨some 34,.mv (.t 3),some (31,true)⟩,
 ⟨some 35,.bin .sub (.t 34) (.c (.i .i64 1)),some (31,true)⟩,
 ⟨some 36,.iad 14 (.t 33) (.t 35),some (31,true)⟩,
 ⟨some 37,.loadn 14 (.t 36),some (31,true)⟩,
 ⟨some 38,.call 27 [.t 37],some (31,true)⟩,
 ⟨some 39,.loadn 14 (.t 4),some (31,true)⟩,
 ⟨some 40,.call 27 [.t 39],some (31,true)⟩,
 ⟨some 41,.pu (.scmp .geq) [.t 38,.t 40],some (31,true)⟩,
 .o 42 (.pick (.t 31) (.t 41) (.c (.b false)))] 14 [])
 (.cond (.t 42)
 (.s [.o 2 (.mv (.c (.b false)))]
 (.ret))
 (.skip)))
 (.seq (.drw [.f 43 0 4,
 .w 44 12 43,
 .c 45 28 [.t 44],
 .o 46 (.not (.t 45)),
 .m 47 46,
 ⟨some 48,.fad 13 (.t 4),some (47,false)⟩,
 ⟨some 49,.load1 (.t 48),some (47,false)⟩,
 ⟨some 50,.fad 12 (.t 4),some (47,false)⟩,
 ⟨some 51,.load1 (.t 50),some (47,false)⟩,
 ⟨some 52,.fad 0 (.t 4),some (47,false)⟩,
 ⟨some 53,.fad 9 (.t 52),some (47,false)⟩,
 ⟨some 54,.fad 1 (.t 53),some (47,false)⟩,
 ⟨some 55,.load1 (.t 54),some (47,false)⟩,
 ⟨some 56,.call 29 [.t 51,.t 55],some (47,false)⟩,
 ⟨some 57,.bin .neq (.t 49) (.t 56),some (47,false)⟩,
 .p 58 47 57] 16 [])
 (.cond (.t 58)
 (.s [.o 2 (.mv (.c (.b false)))]
 (.ret))
 (.skip))))))
 (.reg [.k 59 .add 24 1,
 .m 24 59])))))))
 (.s [.o 2 (.mv (.c (.b true)))]
 (.ret))))
theorem gS:FnIs Tryz.prog 14 60 [.tmp 2] TZ:=⟨⟨_,_,Tryz.func14,rfl,rfl,by kernel_rfl,by kernel_rfl⟩⟩
def Uh:SCode :=
 .s [.o 1 (.box 41 (.t 0)),
 .o 2 (.mv (.c (.b false)))]
 (.s [.f 3 1 1,
 .w 4 4 3,
 .c 5 32 [.t 4],
 .m 6 5,
 ⟨some 7,.fad 5 (.t 1),some (6,true)⟩,
 ⟨some 8,.loadn 4 (.t 7),some (6,true)⟩,
 ⟨some 9,.call 32 [.t 8],some (6,true)⟩,
 .o 10 (.pick (.t 6) (.t 9) (.c (.b false))),
 .m 11 10,
 ⟨some 12,.fad 11 (.t 1),some (11,true)⟩,
 ⟨some 13,.load1 (.t 12),some (11,true)⟩,
 ⟨some 14,.call 33 [.t 13],some (11,true)⟩,
 .o 15 (.pick (.t 11) (.t 14) (.c (.b false))),
 .m 2 15]
 (.ret))
theorem iL:FnIs Tryz.prog 16 16 [.tmp 2] Uh:=⟨⟨_,_,Tryz.func16,rfl,rfl,by kernel_rfl,by kernel_rfl⟩⟩
def Uy:SCode :=
 .s [.o 4 (.alloc 41 [.i .i64 0,.i .i64 0,.s [],.s [],.i .i64 0,.i .i64 0,.s [],.s [],.i .i64 0,.b false,.i .u64 0,.nil])]
 (.s [.m 8 0,
 .k 9 .rem 8 20,
 .o 10 (.bin .add (.c (.i .i64 97)) (.t 9)),
 .o 11 (.cvi .u8 (.t 10)),
 .o 12 (.bslice 1 [.i .u8 0] [(0,(1,.t 11))]),
 .o 13 (.cvbs (.t 12)),
 .o 14 (.bin .add (.c (.s [97,99,99,116,58,117])) (.t 13)),
 .o 15 (.bin .add (.t 14) (.c (.s [64,97,46,101,120,97,109,112,108,101]))),
 .c 16 34 [.t 15],
 .m 7 16,
 .e 17 7 0,
 .e 18 7 1,
 .o 5 (.alloc 36 [.i .i64 0,.s [],.s [],.i .i64 0]),
 .s 4 5 17,
 .m 6 18]
 (.s [.w 19 4 5,
 .m 20 1,
 .o 21 (.build [.b false,.i .u64 0] [(0,(1,.c (.b true))),(1,(1,.t 20))]),
 .o 22 (.build [.i .i64 0,.i .i64 0,.s [],.s [],.i .i64 0,.i .i64 0,.s [],.s [],.i .i64 0,.b false,.i .u64 0,.nil] [(1,(4,.t 19)),(9,(2,.t 21))]),
 .s 12 4 22]
 (.ret)))
theorem jH:FnIs Tryz.prog 17 23 [.celln 4 12] Uy:=⟨⟨_,_,Tryz.func17,rfl,rfl,by kernel_rfl,by kernel_rfl⟩⟩
def Th:SCode :=
 .s [.o 3 (.box 24 (.t 0)),
 .o 4 (.box 41 (.t 1)),
 .o 6 (.alloc 24 [.i .i64 0,.nil])]
 (.s [.f 11 1 3,
 .l 12 11,
 .c 13 35 [.t 12],
 .f 14 1 3,
 .s 1 14 13]
 (.seq (.s [.w 15 12 4,
 .c 16 28 [.t 15],
 .o 17 (.not (.t 16)),
 .m 18 17,
 ⟨some 19,.fad 0 (.t 3),some (18,false)⟩,
 ⟨some 20,.load1 (.t 19),some (18,false)⟩,
 ⟨some 21,.bin .leq (.t 20) (.c (.i .i64 0)),some (18,false)⟩,
 .p 22 18 21]
 (.cond (.t 22)
 (.s [.w 23 2 3,
 .s 2 6 23]
 (.ret))
 (.skip)))
 (.seq (.drw [.w 24 12 4,
 .o 25 (.pcall 36 [.t 24]),
 .m 26 2,
 .m 27 2,
 .f 28 9 4,
 .f 29 1 28,
 .l 30 29,
 .o 31 (.pcall 29 [.t 27,.t 30]),
 .o 32 (.build [.i .i64 0,.i .i64 0,.s [],.s [],.i .i64 0,.i .i64 0,.s [],.s [],.i .i64 0,.b false,.i .u64 0,.nil,.i .u64 0,.i .u64 0] [(0,(12,.t 25)),(12,(1,.t 26)),(13,(1,.t 31))]),
 .o 7 (.alloc 43 [.i .i64 0,.i .i64 0,.s [],.s [],.i .i64 0,.i .i64 0,.s [],.s [],.i .i64 0,.b false,.i .u64 0,.nil,.i .u64 0,.i .u64 0]),
 .s 14 7 32] 11 [(4,(7,none)),(29,(7,none))])
 (.s [.f 34 1 3,
 .l 35 34,
 .f 36 1 4,
 .f 37 1 36,
 .l 38 37,
 .c 39 37 [.t 35,.t 38],
 .m 33 39,
 .e 40 33 0,
 .e 41 33 1,
 .m 8 40,
 .m 9 41]
 (.seq (.s [.m 42 9]
 (.cond (.t 42)
 (.s [.f 43 1 3,
 .l 44 43,
 .m 45 8,
 .w 46 14 7,
 .o 47 (.iad 14 (.t 44) (.t 45)),
 .s 14 47 46]
 (.s [.w 48 2 3,
 .s 2 6 48]
 (.ret)))
 (.skip)))
 (.seq (.s [.f 49 1 3,
 .l 50 49,
 .o 51 (.lenr (.t 50)),
 .f 52 0 3,
 .l 53 52,
 .b 54 .geq 51 53]
 (.cond (.t 54)
 (.s [.f 55 1 3,
 .l 56 55,
 .c 57 38 [.t 56],
 .m 10 57]
 (.s [.f 58 1 3,
 .l 59 58,
 .m 60 10,
 .m 61 10,
 .k 62 .add 61 1,
 .c 63 39 [.t 59,.t 60,.t 62],
 .f 64 1 3,
 .s 1 64 63]
 (.s [.m 65 10,
 .m 66 8,
 .b 67 .lss 65 66]
 (.cond (.t 67)
 (.reg [.m 68 8,
 .k 69 .sub 68 1,
 .m 8 69])
 (.skip)))))
 (.skip)))
 (.s [.f 70 1 3,
 .l 71 70,
 .m 72 8,
 .w 73 14 7,
 .o 74 (.bslice 1 [.i .i64 0,.i .i64 0,.s [],.s [],.i .i64 0,.i .i64 0,.s [],.s [],.i .i64 0,.b false,.i .u64 0,.nil,.i .u64 0,.i .u64 0] [(0,(14,.t 73))]),
 .c 75 40 [.t 71,.t 72,.t 74],
 .f 76 1 3,
 .s 1 76 75]
 (.s [.w 77 2 3,
 .s 2 6 77]
 (.ret)))))))))
theorem fX:FnIs Tryz.prog 18 78 [.celln 6 2] Th:=⟨⟨_,_,Tryz.func18,rfl,rfl,by kernel_rfl,by kernel_rfl⟩⟩
def Tl:SCode :=
 .s [.o 3 (.box 24 (.t 0)),
 .o 4 (.box 41 (.t 1)),
 .o 6 (.alloc 24 [.i .i64 0,.nil])]
 (.seq (.s [.w 19 12 4,
 .c 20 30 [.t 19],
 .o 21 (.not (.t 20)),
 .m 22 21,
 ⟨some 23,.fad 0 (.t 3),some (22,false)⟩,
 ⟨some 24,.load1 (.t 23),some (22,false)⟩,
 ⟨some 25,.bin .eql (.t 24) (.c (.i .i64 0)),some (22,false)⟩,
 .p 26 22 25]
 (.cond (.t 26)
 (.s [.w 27 2 3,
 .s 2 6 27]
 (.ret))
 (.skip)))
 (.s [.o 7 (.mv (.c .nil))]
 (.s [.n 8 (-1)]
 (.seq (.s [.f 28 1 3,
 .l 29 28,
 .o 30 (.lenr (.t 29)),
 .n 31 0]
 (.blk 0
 (.loop
 (.s [.b 32 .lss 31 30]
 (.seq (.cond (.t 32)
 (.skip)
 (.exit 0))
 (.seq (.blk 1
 (.s [.m 33 31,
 .o 34 (.iad 14 (.t 29) (.t 31)),
 .w 35 14 34,
 .o 10 (.alloc 43 [.i .i64 0,.i .i64 0,.s [],.s [],.i .i64 0,.i .i64 0,.s [],.s [],.i .i64 0,.b false,.i .u64 0,.nil,.i .u64 0,.i .u64 0]),
 .m 9 33,
 .s 14 10 35]
 (.seq (.seq (.drw [.m 36 8,
 .k 37 .lss 36 0,
 .m 38 37,
 ⟨some 39,.fad 13 (.t 10),some (38,false)⟩,
 ⟨some 40,.load1 (.t 39),some (38,false)⟩,
 ⟨some 41,.fad 1 (.t 3),some (38,false)⟩,
 ⟨some 42,.load1 (.t 41),some (38,false)⟩,
 ⟨some 43,.mv (.t 8),some (38,false)⟩,
 ⟨some 44,.iad 14 (.t 42) (.t 43),some (38,false)⟩,
 ⟨some 45,.fad 13 (.t 44),some (38,false)⟩,
 ⟨some 46,.load1 (.t 45),some (38,false)⟩,
 ⟨some 47,.bin .lss (.t 40) (.t 46),some (38,false)⟩,
 .p 48 38 47] 13 [])
 (.cond (.t 48)
 (.reg [.m 49 9,
 .m 8 49])
 (.skip)))
 (.s [.f 50 0 10,
 .f 51 1 50,
 .f 52 1 51,
 .l 53 52,
 .f 54 1 4,
 .f 55 1 54,
 .l 56 55,
 .b 57 .eql 53 56]
 (.cond (.t 57)
 (.s [.n 8 (-2)]
 (.exit 0))
 (.skip))))))
 (.reg [.k 58 .add 31 1,
 .m 31 58])))))))
 (.seq (.s [.f 59 1 3,
 .l 60 59,
 .o 61 (.lenr (.t 60)),
 .n 62 0]
 (.blk 2
 (.loop
 (.s [.b 63 .lss 62 61]
 (.seq (.cond (.t 63)
 (.skip)
 (.exit 2))
 (.seq (.blk 3
 (.s [.m 64 62,
 .o 65 (.iad 14 (.t 60) (.t 62)),
 .w 66 14 65,
 .o 12 (.alloc 43 [.i .i64 0,.i .i64 0,.s [],.s [],.i .i64 0,.i .i64 0,.s [],.s [],.i .i64 0,.b false,.i .u64 0,.nil,.i .u64 0,.i .u64 0]),
 .m 11 64,
 .s 14 12 66]
 (.s [.f 67 0 12,
 .f 68 1 67,
 .f 69 1 68,
 .l 70 69,
 .f 71 1 4,
 .f 72 1 71,
 .l 73 72,
 .b 74 .neq 70 73,
 .m 75 74,
 ⟨some 76,.mv (.t 8),some (75,true)⟩,
 ⟨some 77,.bin .eql (.t 76) (.c (.i .i64 (-2))),some (75,true)⟩,
 ⟨some 78,.mv (.t 77),some (75,true)⟩,
 ⟨some 79,.fad 1 (.t 3),some (78,false)⟩,
 ⟨some 80,.load1 (.t 79),some (78,false)⟩,
 ⟨some 81,.lenr (.t 80),some (78,false)⟩,
 ⟨some 82,.fad 0 (.t 3),some (78,false)⟩,
 ⟨some 83,.load1 (.t 82),some (78,false)⟩,
 ⟨some 84,.bin .lss (.t 81) (.t 83),some (78,false)⟩,
 ⟨some 85,.pick (.t 78) (.c (.b true)) (.t 84),some (75,true)⟩,
 ⟨some 86,.mv (.t 85),some (75,true)⟩,
 ⟨some 87,.mv (.t 11),some (86,false)⟩,
 ⟨some 88,.mv (.t 8),some (86,false)⟩,
 ⟨some 89,.bin .neq (.t 87) (.t 88),some (86,false)⟩,
 ⟨some 90,.pick (.t 86) (.c (.b true)) (.t 89),some (75,true)⟩,
 .o 91 (.pick (.t 75) (.t 90) (.c (.b false)))]
 (.cond (.t 91)
 (.reg [.m 92 7,
 .w 93 14 12,
 .o 94 (.bslice 1 [.i .i64 0,.i .i64 0,.s [],.s [],.i .i64 0,.i .i64 0,.s [],.s [],.i .i64 0,.b false,.i .u64 0,.nil,.i .u64 0,.i .u64 0] [(0,(14,.t 93))]),
 .o 95 (.app 43 14 160 (.t 92) (.t 94)),
 .m 7 95])
 (.skip)))))
 (.reg [.k 96 .add 62 1,
 .m 62 96])))))))
 (.s [.f 97 0 3,
 .l 98 97,
 .o 99 (.build [.i .i64 0,.nil] [(0,(1,.t 98))]),
 .o 13 (.alloc 24 [.i .i64 0,.nil]),
 .s 2 13 99]
 (.seq (.drw [.w 100 12 4,
 .m 101 2,
 .m 102 2,
 .f 103 9 4,
 .f 104 1 103,
 .l 105 104,
 .o 106 (.pcall 31 [.t 102,.t 105]),
 .o 107 (.build [.i .i64 0,.i .i64 0,.s [],.s [],.i .i64 0,.i .i64 0,.s [],.s [],.i .i64 0,.b false,.i .u64 0,.nil,.i .u64 0,.i .u64 0] [(0,(12,.t 100)),(12,(1,.t 101)),(13,(1,.t 106))]),
 .o 14 (.alloc 43 [.i .i64 0,.i .i64 0,.s [],.s [],.i .i64 0,.i .i64 0,.s [],.s [],.i .i64 0,.b false,.i .u64 0,.nil,.i .u64 0,.i .u64 0]),
 .s 14 14 107] 10 [(4,(14,none)),(104,(14,none))])
 (.seq (.s [.m 108 7,
 .o 109 (.lenr (.t 108)),
 .n 110 0]
 (.blk 4
 (.loop
 (.s [.b 111 .lss 110 109]
 (.seq (.cond (.t 111)
 (.skip)
 (.exit 4))
 (.seq (.blk 5
 (.s [.o 112 (.iad 14 (.t 108) (.t 110)),
 .w 113 14 112,
 .o 16 (.alloc 43 [.i .i64 0,.i .i64 0,.s [],.s [],.i .i64 0,.i .i64 0,.s [],.s [],.i .i64 0,.b false,.i .u64 0,.nil,.i .u64 0,.i .u64 0]),
 .s 14 16 113]
 (.s [.f 114 0 16,
 .f 115 1 114,
 .f 116 1 115,
 .l 117 116,
 .f 118 1 4,
 .f 119 1 118,
 .l 120 119,
 .o 121 (.pu (.scmp .lss) [.t 117,.t 120])]
 (.cond (.t 121)
 (.reg [.f 122 1 13,
 .l 123 122,
 .w 124 14 16,
 .o 125 (.bslice 1 [.i .i64 0,.i .i64 0,.s [],.s [],.i .i64 0,.i .i64 0,.s [],.s [],.i .i64 0,.b false,.i .u64 0,.nil,.i .u64 0,.i .u64 0] [(0,(14,.t 124))]),
 .o 126 (.app 43 14 160 (.t 123) (.t 125)),
 .f 127 1 13,
 .s 1 127 126])
 (.skip)))))
 (.reg [.k 128 .add 110 1,
 .m 110 128])))))))
 (.s [.f 129 1 13,
 .l 130 129,
 .w 131 14 14,
 .o 132 (.bslice 1 [.i .i64 0,.i .i64 0,.s [],.s [],.i .i64 0,.i .i64 0,.s [],.s [],.i .i64 0,.b false,.i .u64 0,.nil,.i .u64 0,.i .u64 0] [(0,(14,.t 131))]),
 .o 133 (.app 43 14 160 (.t 130) (.t 132)),
 .f 134 1 13,
 .s 1 134 133]
 (.seq (.s [.m 135 7,
 .o 136 (.lenr (.t 135)),
 .n 137 0]
 (.blk 6
 (.loop
 (.s [.b 138 .lss 137 136]
 (.seq (.cond (.t 138)
 (.skip)
 (.exit 6))
 (.seq (.blk 7
 (.s [.o 139 (.iad 14 (.t 135) (.t 137)),
 .w 140 14 139,
 .o 18 (.alloc 43 [.i .i64 0,.i .i64 0,.s [],.s [],.i .i64 0,.i .i64 0,.s [],.s [],.i .i64 0,.b false,.i .u64 0,.nil,.i .u64 0,.i .u64 0]),
 .s 14 18 140]
 (.s [.f 141 0 18,
 .f 142 1 141,
 .f 143 1 142,
 .l 144 143,
 .f 145 1 4,
 .f 146 1 145,
 .l 147 146,
 .o 148 (.pu (.scmp .gtr) [.t 144,.t 147])]
 (.cond (.t 148)
 (.reg [.f 149 1 13,
 .l 150 149,
 .w 151 14 18,
 .o 152 (.bslice 1 [.i .i64 0,.i .i64 0,.s [],.s [],.i .i64 0,.i .i64 0,.s [],.s [],.i .i64 0,.b false,.i .u64 0,.nil,.i .u64 0,.i .u64 0] [(0,(14,.t 151))]),
 .o 153 (.app 43 14 160 (.t 150) (.t 152)),
 .f 154 1 13,
 .s 1 154 153])
 (.skip)))))
 (.reg [.k 155 .add 137 1,
 .m 137 155])))))))
 (.s [.w 156 2 13,
 .s 2 6 156]
 (.ret))))))))))))
theorem gB:FnIs Tryz.prog 19 157 [.celln 6 2] Tl:=⟨⟨_,_,Tryz.func19,rfl,rfl,by kernel_rfl,by kernel_rfl⟩⟩
def Tf:SCode :=
 .s [.o 3 (.box 24 (.t 0)),
 .o 6 (.alloc 41 [.i .i64 0,.i .i64 0,.s [],.s [],.i .i64 0,.i .i64 0,.s [],.s [],.i .i64 0,.b false,.i .u64 0,.nil]),
 .o 7 (.mv (.c (.b false)))]
 (.s [.f 11 1 3,
 .l 12 11,
 .m 13 1,
 .c 14 37 [.t 12,.t 13],
 .m 10 14,
 .e 15 10 0,
 .e 16 10 1,
 .m 8 15,
 .m 9 16]
 (.seq (.s [.m 17 9,
 .o 18 (.not (.t 17)),
 .m 19 18,
 ⟨some 20,.mv (.t 2),some (19,false)⟩,
 ⟨some 21,.fad 1 (.t 3),some (19,false)⟩,
 ⟨some 22,.load1 (.t 21),some (19,false)⟩,
 ⟨some 23,.mv (.t 8),some (19,false)⟩,
 ⟨some 24,.iad 14 (.t 22) (.t 23),some (19,false)⟩,
 ⟨some 25,.fad 12 (.t 24),some (19,false)⟩,
 ⟨some 26,.load1 (.t 25),some (19,false)⟩,
 ⟨some 27,.bin .lss (.t 20) (.t 26),some (19,false)⟩,
 .p 28 19 27,
 .m 29 28,
 ⟨some 30,.mv (.t 2),some (29,false)⟩,
 ⟨some 31,.fad 1 (.t 3),some (29,false)⟩,
 ⟨some 32,.load1 (.t 31),some (29,false)⟩,
 ⟨some 33,.mv (.t 8),some (29,false)⟩,
 ⟨some 34,.iad 14 (.t 32) (.t 33),some (29,false)⟩,
 ⟨some 35,.fad 13 (.t 34),some (29,false)⟩,
 ⟨some 36,.load1 (.t 35),some (29,false)⟩,
 ⟨some 37,.bin .geq (.t 30) (.t 36),some (29,false)⟩,
 .p 38 29 37]
 (.cond (.t 38)
 (.s [.o 39 (.build [.i .i64 0,.i .i64 0,.s [],.s [],.i .i64 0,.i .i64 0,.s [],.s [],.i .i64 0,.b false,.i .u64 0,.nil] []),
 .s 12 6 39,
 .o 7 (.mv (.c (.b false)))]
 (.ret))
 (.skip)))
 (.s [.f 40 1 3,
 .l 41 40,
 .m 42 8,
 .o 43 (.iad 14 (.t 41) (.t 42)),
 .f 44 0 43,
 .w 45 12 44,
 .c 46 36 [.t 45],
 .s 12 6 46,
 .o 7 (.mv (.c (.b true)))]
 (.ret))))
theorem fV:FnIs Tryz.prog 20 47 [.celln 6 12,.tmp 7] Tf:=⟨⟨_,_,Tryz.func20,rfl,rfl,by kernel_rfl,by kernel_rfl⟩⟩
def Tj:SCode :=
 .s [.o 3 (.box 24 (.t 0)),
 .o 6 (.alloc 41 [.i .i64 0,.i .i64 0,.s [],.s [],.i .i64 0,.i .i64 0,.s [],.s [],.i .i64 0,.b false,.i .u64 0,.nil]),
 .o 7 (.mv (.c (.b false)))]
 (.seq (.s [.f 10 1 3,
 .l 11 10,
 .o 12 (.lenr (.t 11)),
 .n 13 0]
 (.blk 0
 (.loop
 (.s [.b 14 .lss 13 12]
 (.seq (.cond (.t 14)
 (.skip)
 (.exit 0))
 (.seq (.blk 1
 (.s [.o 15 (.iad 14 (.t 11) (.t 13)),
 .w 16 14 15,
 .o 9 (.alloc 43 [.i .i64 0,.i .i64 0,.s [],.s [],.i .i64 0,.i .i64 0,.s [],.s [],.i .i64 0,.b false,.i .u64 0,.nil,.i .u64 0,.i .u64 0]),
 .s 14 9 16]
 (.s [.f 17 0 9,
 .f 18 1 17,
 .f 19 1 18,
 .l 20 19,
 .m 21 1,
 .b 22 .eql 20 21,
 .m 23 22,
 ⟨some 24,.fad 12 (.t 9),some (23,true)⟩,
 ⟨some 25,.load1 (.t 24),some (23,true)⟩,
 ⟨some 26,.mv (.t 2),some (23,true)⟩,
 ⟨some 27,.bin .leq (.t 25) (.t 26),some (23,true)⟩,
 .o 28 (.pick (.t 23) (.t 27) (.c (.b false))),
 .m 29 28,
 ⟨some 30,.mv (.t 2),some (29,true)⟩,
 ⟨some 31,.fad 13 (.t 9),some (29,true)⟩,
 ⟨some 32,.load1 (.t 31),some (29,true)⟩,
 ⟨some 33,.bin .lss (.t 30) (.t 32),some (29,true)⟩,
 .o 34 (.pick (.t 29) (.t 33) (.c (.b false)))]
 (.cond (.t 34)
 (.s [.f 35 0 9,
 .w 36 12 35,
 .s 12 6 36,
 .o 7 (.mv (.c (.b true)))]
 (.ret))
 (.skip)))))
 (.reg [.k 37 .add 13 1,
 .m 13 37])))))))
 (.s [.o 38 (.build [.i .i64 0,.i .i64 0,.s [],.s [],.i .i64 0,.i .i64 0,.s [],.s [],.i .i64 0,.b false,.i .u64 0,.nil] []),
 .s 12 6 38,
 .o 7 (.mv (.c (.b false)))]
 (.ret)))
theorem fZ:FnIs Tryz.prog 21 39 [.celln 6 12,.tmp 7] Tj:=⟨⟨_,_,Tryz.func21,rfl,rfl,by kernel_rfl,by kernel_rfl⟩⟩
def Ot:SCode :=
 .s [.o 2 (.box 41 (.t 0)),
 .o 3 (.box 41 (.t 1)),
 .o 4 (.mv (.c (.b false)))]
 (.s [.f 5 0 2,
 .l 6 5,
 .f 7 0 3,
 .l 8 7,
 .b 9 .eql 6 8,
 .m 10 9,
 ⟨some 11,.fad 1 (.t 2),some (10,true)⟩,
 ⟨some 12,.loadn 4 (.t 11),some (10,true)⟩,
 ⟨some 13,.fad 1 (.t 3),some (10,true)⟩,
 ⟨some 14,.loadn 4 (.t 13),some (10,true)⟩,
 ⟨some 15,.eqs false (.str [(0,(none,.ti)),(1,(none,.ts)),(2,(none,.ts)),(3,(none,.ti))]) (.t 12) (.t 14),some (10,true)⟩,
 .o 16 (.pick (.t 10) (.t 15) (.c (.b false))),
 .m 17 16,
 ⟨some 18,.fad 5 (.t 2),some (17,true)⟩,
 ⟨some 19,.loadn 4 (.t 18),some (17,true)⟩,
 ⟨some 20,.fad 5 (.t 3),some (17,true)⟩,
 ⟨some 21,.loadn 4 (.t 20),some (17,true)⟩,
 ⟨some 22,.eqs false (.str [(0,(none,.ti)),(1,(none,.ts)),(2,(none,.ts)),(3,(none,.ti))]) (.t 19) (.t 21),some (17,true)⟩,
 .o 23 (.pick (.t 17) (.t 22) (.c (.b false))),
 .m 24 23,
 ⟨some 25,.fad 9 (.t 2),some (24,true)⟩,
 ⟨some 26,.loadn 2 (.t 25),some (24,true)⟩,
 ⟨some 27,.fad 9 (.t 3),some (24,true)⟩,
 ⟨some 28,.loadn 2 (.t 27),some (24,true)⟩,
 ⟨some 29,.eqs false (.str [(0,(none,.tb)),(1,(none,.ti))]) (.t 26) (.t 28),some (24,true)⟩,
 .o 30 (.pick (.t 24) (.t 29) (.c (.b false))),
 .m 31 30,
 ⟨some 32,.fad 11 (.t 2),some (31,true)⟩,
 ⟨some 33,.load1 (.t 32),some (31,true)⟩,
 ⟨some 34,.fad 11 (.t 3),some (31,true)⟩,
 ⟨some 35,.load1 (.t 34),some (31,true)⟩,
 ⟨some 36,.call 41 [.t 33,.t 35],some (31,true)⟩,
 .o 37 (.pick (.t 31) (.t 36) (.c (.b false))),
 .m 4 37]
 (.ret))
theorem TW:FnIs Tryz.prog 22 38 [.tmp 4] Ot:=⟨⟨_,_,Tryz.func22,rfl,rfl,by kernel_rfl,by kernel_rfl⟩⟩
def Uo:SCode :=
 .s [.o 2 (.box 24 (.t 0)),
 .o 3 (.box 31 (.t 1)),
 .o 4 (.alloc 24 [.i .i64 0,.nil])]
 (.s [.f 5 1 2,
 .l 6 5,
 .c 7 35 [.t 6],
 .o 8 (.mkf 43 [] [.t 3]),
 .c 9 42 [.t 7,.t 8],
 .f 10 1 2,
 .s 1 10 9]
 (.s [.w 11 2 2,
 .s 2 4 11]
 (.ret)))
theorem iF:FnIs Tryz.prog 23 12 [.celln 4 2] Uo:=⟨⟨_,_,Tryz.func23,rfl,rfl,by kernel_rfl,by kernel_rfl⟩⟩
def Um:SCode :=
 .s [.o 2 (.box 24 (.t 0)),
 .o 4 (.alloc 24 [.i .i64 0,.nil])]
 (.s [.f 8 0 2,
 .l 9 8,
 .o 10 (.build [.i .i64 0,.nil] [(0,(1,.t 9))]),
 .o 5 (.alloc 24 [.i .i64 0,.nil]),
 .s 2 5 10]
 (.seq (.s [.f 11 1 2,
 .l 12 11,
 .o 13 (.lenr (.t 12)),
 .n 14 0]
 (.blk 0
 (.loop
 (.s [.b 15 .lss 14 13]
 (.seq (.cond (.t 15)
 (.skip)
 (.exit 0))
 (.seq (.blk 1
 (.s [.o 16 (.iad 14 (.t 12) (.t 14)),
 .w 17 14 16,
 .o 7 (.alloc 43 [.i .i64 0,.i .i64 0,.s [],.s [],.i .i64 0,.i .i64 0,.s [],.s [],.i .i64 0,.b false,.i .u64 0,.nil,.i .u64 0,.i .u64 0]),
 .s 14 7 17]
 (.s [.f 18 13 7,
 .l 19 18,
 .m 20 1,
 .b 21 .gtr 19 20]
 (.cond (.t 21)
 (.reg [.f 22 1 5,
 .l 23 22,
 .w 24 14 7,
 .o 25 (.bslice 1 [.i .i64 0,.i .i64 0,.s [],.s [],.i .i64 0,.i .i64 0,.s [],.s [],.i .i64 0,.b false,.i .u64 0,.nil,.i .u64 0,.i .u64 0] [(0,(14,.t 24))]),
 .o 26 (.app 43 14 160 (.t 23) (.t 25)),
 .f 27 1 5,
 .s 1 27 26])
 (.skip)))))
 (.reg [.k 28 .add 14 1,
 .m 14 28])))))))
 (.s [.w 29 2 5,
 .s 2 4 29]
 (.ret))))
theorem iR:FnIs Tryz.prog 24 30 [.celln 4 2] Um:=⟨⟨_,_,Tryz.func24,rfl,rfl,by kernel_rfl,by kernel_rfl⟩⟩
def SD:SCode :=
 .s [.o 2 (.mv (.c (.o (.pointer none))))]
 (.s [.m 3 0,
 .m 4 0,
 .o 5 (.lenr (.t 4)),
 .o 6 (.pu .mn [.t 5,.c (.i .i64 200)]),
 .o 7 (.trn 1 (.t 3) (.t 6)),
 .o 8 (.build [.nil] [(0,(1,.t 7))]),
 .o 9 (.box 77 (.t 8)),
 .m 2 9]
 (.ret))
theorem fD:FnIs Tryz.prog 25 10 [.tmp 2] SD:=⟨⟨_,_,Tryz.func25,rfl,rfl,by kernel_rfl,by kernel_rfl⟩⟩
def LI:SCode :=
 .s [.n 4 0]
 (.seq (.s [.m 6 0,
 .o 7 (.nck (.t 6)),
 .f 8 0 7,
 .l 9 8,
 .o 10 (.lenr (.t 9)),
 .k 11 .eql 10 0,
 .m 12 11,
 ⟨some 13,.mv (.t 1),some (12,false)⟩,
 ⟨some 14,.bin .leq (.t 13) (.c (.i .i64 1)),some (12,false)⟩,
 .p 15 12 14]
 (.cond (.t 15)
 (.s [.n 4 0]
 (.ret))
 (.skip)))
 (.s [.m 16 0,
 .o 17 (.nck (.t 16)),
 .f 18 0 17,
 .l 19 18,
 .o 20 (.iad 1 (.t 19) (.c (.i .i64 0))),
 .l 21 20,
 .o 22 (.cvi .i64 (.t 21)),
 .m 5 22]
 (.s [.m 23 0,
 .m 24 0,
 .o 25 (.nck (.t 24)),
 .f 26 0 25,
 .l 27 26,
 .o 28 (.pu (.rsl 1) [.t 27,.c (.i .i64 1)]),
 .o 29 (.nck (.t 23)),
 .f 30 0 29,
 .s 1 30 28]
 (.s [.m 31 5,
 .m 32 1,
 .b 33 .rem 31 32,
 .m 4 33]
 (.ret)))))
theorem jD:FnIs Tryz.prog 26 34 [.tmp 4] LI:=⟨⟨_,_,Tryz.func26,rfl,rfl,by kernel_rfl,by kernel_rfl⟩⟩
def TI:SCode :=
 .s [.o 1 (.box 43 (.t 0)),
 .z 2]
 (.s [.f 3 0 1,
 .f 4 1 3,
 .f 5 1 4,
 .l 6 5,
 .m 2 6]
 (.ret))
theorem gI:FnIs Tryz.prog 27 7 [.tmp 2] TI:=⟨⟨_,_,Tryz.func27,rfl,rfl,by kernel_rfl,by kernel_rfl⟩⟩
def UM:SCode :=
 .s [.o 1 (.box 41 (.t 0)),
 .o 2 (.mv (.c (.b false)))]
 (.s [.f 4 9 1,
 .f 5 0 4,
 .l 6 5,
 .m 7 6,
 ⟨some 8,.fad 9 (.t 1),some (7,true)⟩,
 ⟨some 9,.fad 1 (.t 8),some (7,true)⟩,
 ⟨some 10,.load1 (.t 9),some (7,true)⟩,
 ⟨some 11,.bin .geq (.t 10) (.c (.i .u64 1)),some (7,true)⟩,
 .o 12 (.pick (.t 7) (.t 11) (.c (.b false))),
 .m 13 12,
 ⟨some 14,.fad 9 (.t 1),some (13,true)⟩,
 ⟨some 15,.fad 1 (.t 14),some (13,true)⟩,
 ⟨some 16,.load1 (.t 15),some (13,true)⟩,
 ⟨some 17,.bin .leq (.t 16) (.c (.i .u64 86400)),some (13,true)⟩,
 .o 18 (.pick (.t 13) (.t 17) (.c (.b false))),
 .m 3 18]
 (.s [.f 19 0 1,
 .l 20 19,
 .k 21 .eql 20 0,
 .m 22 21,
 ⟨some 23,.mv (.t 3),some (22,true)⟩,
 .o 24 (.pick (.t 22) (.t 23) (.c (.b false))),
 .m 25 24,
 ⟨some 26,.fad 1 (.t 1),some (25,true)⟩,
 ⟨some 27,.loadn 4 (.t 26),some (25,true)⟩,
 ⟨some 28,.call 44 [.t 27],some (25,true)⟩,
 .o 29 (.pick (.t 25) (.t 28) (.c (.b false))),
 .m 2 29]
 (.ret)))
theorem jU:FnIs Tryz.prog 28 30 [.tmp 2] UM:=⟨⟨_,_,Tryz.func28,rfl,rfl,by kernel_rfl,by kernel_rfl⟩⟩
def UV:SCode :=
 .s [.o 1 (.box 41 (.t 0)),
 .o 2 (.mv (.c (.b false)))]
 (.s [.f 3 0 1,
 .l 4 3,
 .k 5 .eql 4 0,
 .m 6 5,
 ⟨some 7,.fad 9 (.t 1),some (6,true)⟩,
 ⟨some 8,.fad 0 (.t 7),some (6,true)⟩,
 ⟨some 9,.load1 (.t 8),some (6,true)⟩,
 .o 10 (.pick (.t 6) (.t 9) (.c (.b false))),
 .m 11 10,
 ⟨some 12,.fad 9 (.t 1),some (11,true)⟩,
 ⟨some 13,.fad 1 (.t 12),some (11,true)⟩,
 ⟨some 14,.load1 (.t 13),some (11,true)⟩,
 ⟨some 15,.bin .geq (.t 14) (.c (.i .u64 1)),some (11,true)⟩,
 .o 16 (.pick (.t 11) (.t 15) (.c (.b false))),
 .m 17 16,
 ⟨some 18,.fad 9 (.t 1),some (17,true)⟩,
 ⟨some 19,.fad 1 (.t 18),some (17,true)⟩,
 ⟨some 20,.load1 (.t 19),some (17,true)⟩,
 ⟨some 21,.bin .leq (.t 20) (.c (.i .u64 86400)),some (17,true)⟩,
 .o 22 (.pick (.t 17) (.t 21) (.c (.b false))),
 .m 23 22,
 ⟨some 24,.fad 1 (.t 1),some (23,true)⟩,
 ⟨some 25,.loadn 4 (.t 24),some (23,true)⟩,
 ⟨some 26,.call 45 [.t 25],some (23,true)⟩,
 .o 27 (.pick (.t 23) (.t 26) (.c (.b false))),
 .m 2 27]
 (.ret))
theorem jT:FnIs Tryz.prog 30 28 [.tmp 2] UV:=⟨⟨_,_,Tryz.func30,rfl,rfl,by kernel_rfl,by kernel_rfl⟩⟩
def RO:SCode :=
 .s [.o 1 (.box 36 (.t 0)),
 .o 2 (.mv (.c (.b false)))]
 (.s [.f 3 1 1,
 .l 4 3,
 .h 5 4,
 .f 6 2 1,
 .l 7 6,
 .h 8 7,
 .b 9 .add 5 8,
 .k 10 .leq 9 1000,
 .m 2 10]
 (.ret))
theorem bO:FnIs Tryz.prog 32 11 [.tmp 2] RO:=⟨⟨_,_,Tryz.func32,rfl,rfl,by kernel_rfl,by kernel_rfl⟩⟩
def TJ:SCode :=
 .s [.o 2 (.mv (.c (.b false)))]
 (.seq (.s [.m 5 0,
 .o 6 (.lenr (.t 5)),
 .k 7 .gtr 6 60]
 (.cond (.t 7)
 (.s [.o 2 (.mv (.c (.b false)))]
 (.ret))
 (.skip)))
 (.seq (.s [.m 8 0,
 .o 9 (.lenr (.t 8)),
 .n 10 0]
 (.blk 0
 (.loop
 (.s [.b 11 .lss 10 9]
 (.seq (.cond (.t 11)
 (.skip)
 (.exit 0))
 (.seq (.blk 1
 (.s [.o 12 (.iad 9 (.t 8) (.t 10)),
 .w 13 9 12,
 .o 4 (.alloc 81 [.s [],.i .i64 0,.s [],.s [],.s [],.b false,.b false,.i .i64 0,.i .i64 0]),
 .s 9 4 13]
 (.s [.f 14 0 4,
 .w 15 7 14,
 .c 16 46 [.t 15],
 .o 17 (.not (.t 16))]
 (.cond (.t 17)
 (.s [.o 2 (.mv (.c (.b false)))]
 (.ret))
 (.skip)))))
 (.reg [.k 18 .add 10 1,
 .m 10 18])))))))
 (.s [.o 2 (.mv (.c (.b true)))]
 (.ret))))
theorem gJ:FnIs Tryz.prog 33 19 [.tmp 2] TJ:=⟨⟨_,_,Tryz.func33,rfl,rfl,by kernel_rfl,by kernel_rfl⟩⟩
def Oq:SCode :=
 .s [.o 2 (.alloc 36 [.i .i64 0,.s [],.s [],.i .i64 0]),
 .n 3 0]
 (.seq (.s [.m 9 0,
 .h 10 9,
 .k 11 .gtr 10 4096]
 (.cond (.t 11)
 (.s [.o 12 (.build [.i .i64 0,.s [],.s [],.i .i64 0] []),
 .s 4 2 12,
 .n 3 5]
 (.ret))
 (.skip)))
 (.s [.m 13 0,
 .c 14 47 [.t 13,.c (.s [58])],
 .m 4 14]
 (.seq (.s [.m 15 4,
 .m 16 0,
 .h 17 16,
 .b 18 .eql 15 17]
 (.cond (.t 18)
 (.s [.o 19 (.build [.i .i64 0,.s [],.s [],.i .i64 0] []),
 .s 4 2 19,
 .n 3 60]
 (.ret))
 (.skip)))
 (.seq (.s [.m 20 0,
 .m 21 4,
 .o 22 (.slcs (.t 20) none (some (.t 21))),
 .c 23 48 [.t 22]]
 (.blk 0
 (.s [.o 25 (.bin .eql (.t 23) (.c (.s [97,99,99,116]))),
 .m 24 25]
 (.cond (.t 24)
 (.s [.m 27 0,
 .c 28 49 [.t 27],
 .m 26 28,
 .e 29 26 0,
 .e 30 26 1,
 .o 5 (.alloc 86 [.s [],.s []]),
 .s 2 5 29,
 .m 6 30]
 (.seq (.s [.m 31 6,
 .k 32 .neq 31 0]
 (.cond (.t 32)
 (.s [.o 33 (.build [.i .i64 0,.s [],.s [],.i .i64 0] []),
 .m 34 6,
 .s 4 2 33,
 .m 3 34]
 (.ret))
 (.skip)))
 (.seq (.drw [.w 35 2 5,
 .c 36 50 [.t 35],
 .f 37 1 5,
 .l 38 37,
 .o 39 (.build [.i .i64 0,.s [],.s [],.i .i64 0] [(0,(1,.c (.i .i64 1))),(1,(1,.t 36)),(2,(1,.t 38))]),
 .s 4 2 39,
 .n 3 0] 5 [])
 (.ret))))
 (.s [.o 41 (.bin .eql (.t 23) (.c (.s [109,97,105,108,116,111]))),
 .m 40 41]
 (.cond (.t 40)
 (.s [.m 43 0,
 .c 44 51 [.t 43],
 .m 42 44,
 .e 45 42 0,
 .e 46 42 1,
 .o 7 (.alloc 91 [.s [],.s []]),
 .s 2 7 45,
 .m 8 46]
 (.seq (.s [.m 47 8,
 .k 48 .neq 47 0]
 (.cond (.t 48)
 (.s [.o 49 (.build [.i .i64 0,.s [],.s [],.i .i64 0] []),
 .m 50 8,
 .s 4 2 49,
 .m 3 50]
 (.ret))
 (.skip)))
 (.seq (.drw [.w 51 2 7,
 .c 52 52 [.t 51],
 .f 53 1 7,
 .l 54 53,
 .o 55 (.build [.i .i64 0,.s [],.s [],.i .i64 0] [(0,(1,.c (.i .i64 2))),(1,(1,.t 52)),(2,(1,.t 54))]),
 .s 4 2 55,
 .n 3 0] 5 [])
 (.ret))))
 (.s [.o 57 (.bin .eql (.t 23) (.c (.s [104,116,116,112,115]))),
 .m 56 57]
 (.cond (.t 56)
 (.s [.m 58 0,
 .c 59 53 [.t 58],
 .e 60 59 0,
 .e 61 59 1,
 .s 4 2 60,
 .m 3 61]
 (.ret))
 (.s [.o 63 (.bin .eql (.t 23) (.c (.s [100,105,100]))),
 .m 62 63]
 (.cond (.t 62)
 (.s [.m 64 0,
 .c 65 54 [.t 64],
 .e 66 65 0,
 .e 67 65 1,
 .s 4 2 66,
 .m 3 67]
 (.ret))
 (.skip)))))))))))
 (.s [.o 68 (.build [.i .i64 0,.s [],.s [],.i .i64 0] []),
 .s 4 2 68,
 .n 3 60]
 (.ret))))))
theorem iB:FnIs Tryz.prog 34 69 [.celln 2 4,.tmp 3] Oq:=⟨⟨_,_,Tryz.func34,rfl,rfl,by kernel_rfl,by kernel_rfl⟩⟩
def UY:SCode :=
 .s [.o 2 (.mv (.c .nil))]
 (.s [.m 5 0,
 .c 6 55 [.t 5],
 .m 3 6]
 (.seq (.s [.m 7 3,
 .o 8 (.lenr (.t 7)),
 .n 9 0]
 (.blk 0
 (.loop
 (.s [.b 10 .lss 9 8]
 (.seq (.cond (.t 10)
 (.skip)
 (.exit 0))
 (.seq (.blk 1
 (.s [.m 11 9,
 .m 4 11]
 (.reg [.m 12 3,
 .m 13 4,
 .m 14 3,
 .m 15 4,
 .o 16 (.iad 14 (.t 14) (.t 15)),
 .f 17 0 16,
 .w 18 12 17,
 .c 19 36 [.t 18],
 .o 20 (.iad 14 (.t 12) (.t 13)),
 .f 21 0 20,
 .s 12 21 19])))
 (.reg [.k 22 .add 9 1,
 .m 9 22])))))))
 (.s [.m 23 3,
 .m 2 23]
 (.ret))))
theorem kS:FnIs Tryz.prog 35 24 [.tmp 2] UY:=⟨⟨_,_,Tryz.func35,rfl,rfl,by kernel_rfl,by kernel_rfl⟩⟩
def UZ:SCode :=
 .s [.o 1 (.box 41 (.t 0)),
 .o 2 (.alloc 41 [.i .i64 0,.i .i64 0,.s [],.s [],.i .i64 0,.i .i64 0,.s [],.s [],.i .i64 0,.b false,.i .u64 0,.nil])]
 (.s [.f 3 11 1,
 .l 4 3,
 .c 5 56 [.t 4],
 .f 6 11 1,
 .s 1 6 5]
 (.s [.w 7 12 1,
 .s 12 2 7]
 (.ret)))
theorem kT:FnIs Tryz.prog 36 8 [.celln 2 12] UZ:=⟨⟨_,_,Tryz.func36,rfl,rfl,by kernel_rfl,by kernel_rfl⟩⟩
def TH:SCode :=
 .s [.n 4 0,
 .o 5 (.mv (.c (.b false)))]
 (.s [.m 6 0,
 .m 7 1,
 .c 8 57 [.t 6,.t 7,.c (.fn 58 [] [])],
 .e 9 8 0,
 .e 10 8 1,
 .m 4 9,
 .m 5 10]
 (.ret))
theorem gH:FnIs Tryz.prog 37 11 [.tmp 4,.tmp 5] TH:=⟨⟨_,_,Tryz.func37,rfl,rfl,by kernel_rfl,by kernel_rfl⟩⟩
def U3:SCode :=
 .s [.n 2 0]
 (.s [.m 7 0,
 .o 8 (.build [.nil,.nil] [(0,(1,.t 7))]),
 .o 9 (.box 101 (.t 8)),
 .m 3 9]
 (.seq (.s [.m 10 0,
 .o 11 (.lenr (.t 10)),
 .n 12 0]
 (.blk 0
 (.loop
 (.s [.b 13 .lss 12 11]
 (.seq (.cond (.t 13)
 (.skip)
 (.exit 0))
 (.seq (.blk 1
 (.s [.m 14 12,
 .m 4 14]
 (.reg [.m 15 3,
 .m 16 3,
 .o 17 (.nck (.t 16)),
 .f 18 1 17,
 .l 19 18,
 .m 20 4,
 .o 21 (.bslice 1 [.i .i64 0] [(0,(1,.t 20))]),
 .o 22 (.app 3 1 8 (.t 19) (.t 21)),
 .o 23 (.nck (.t 15)),
 .f 24 1 23,
 .s 1 24 22])))
 (.reg [.k 25 .add 12 1,
 .m 12 25])))))))
 (.s [.m 26 3,
 .o 27 (.pu (.mki 98) [.t 26]),
 .c 28 60 [.t 27]]
 (.s [.m 30 3,
 .o 31 (.pu (.mki 98) [.t 30]),
 .c 32 61 [.t 31],
 .o 33 (.pu (.tas 3) [.t 32]),
 .m 29 33,
 .e 34 29 0,
 .e 35 29 1,
 .m 5 34,
 .m 6 35]
 (.s [.m 36 5,
 .m 2 36]
 (.ret))))))
theorem kK:FnIs Tryz.prog 38 37 [.tmp 2] U3:=⟨⟨_,_,Tryz.func38,rfl,rfl,by kernel_rfl,by kernel_rfl⟩⟩
def UU:SCode :=
 .s [.o 4 (.mv (.c (.b false)))]
 (.seq (.s [.m 6 0,
 .o 7 (.lenr (.t 6)),
 .m 8 1,
 .o 9 (.lenr (.t 8)),
 .b 10 .neq 7 9]
 (.cond (.t 10)
 (.s [.o 4 (.mv (.c (.b false)))]
 (.ret))
 (.skip)))
 (.seq (.s [.m 11 0,
 .o 12 (.lenr (.t 11)),
 .n 13 0]
 (.blk 0
 (.loop
 (.s [.b 14 .lss 13 12]
 (.seq (.cond (.t 14)
 (.skip)
 (.exit 0))
 (.seq (.blk 1
 (.s [.m 15 13,
 .m 5 15]
 (.seq (.drw [.m 16 0,
 .m 17 5,
 .o 18 (.iad 9 (.t 16) (.t 17)),
 .w 19 9 18,
 .m 20 1,
 .m 21 5,
 .o 22 (.iad 9 (.t 20) (.t 21)),
 .w 23 9 22,
 .o 24 (.eqs true (.str [(0,(some 7,.str [(0,(none,.ts)),(1,(none,.ti)),(2,(none,.ts)),(3,(none,.ts)),(4,(none,.ts)),(5,(none,.tb)),(6,(none,.tb))])),(7,(none,.ti)),(8,(none,.ti))]) (.t 19) (.t 23))] 9 [])
 (.cond (.t 24)
 (.s [.o 4 (.mv (.c (.b false)))]
 (.ret))
 (.skip)))))
 (.reg [.k 25 .add 13 1,
 .m 13 25])))))))
 (.s [.o 4 (.mv (.c (.b true)))]
 (.ret))))
theorem jS:FnIs Tryz.prog 41 26 [.tmp 4] UU:=⟨⟨_,_,Tryz.func41,rfl,rfl,by kernel_rfl,by kernel_rfl⟩⟩
def Ut:SCode :=
 .s [.o 2 (.box 43 (.t 0)),
 .o 3 (.mv (.c (.b false)))]
 (.s [.f 4 13 2,
 .l 5 4,
 .l 6 1,
 .b 7 .leq 5 6,
 .m 3 7]
 (.ret))
theorem iZ:FnIs Tryz.prog 43 8 [.tmp 3] Ut:=⟨⟨_,_,Tryz.func43,rfl,rfl,by kernel_rfl,by kernel_rfl⟩⟩
def T4:SCode :=
 .s [.o 1 (.box 36 (.t 0)),
 .o 2 (.mv (.c (.b false)))]
 (.s [.f 6 1 1,
 .l 7 6,
 .c 8 65 [.t 7],
 .m 5 8,
 .e 9 5 0,
 .e 10 5 1,
 .o 3 (.alloc 36 [.i .i64 0,.s [],.s [],.i .i64 0]),
 .s 4 3 9,
 .m 4 10]
 (.s [.m 11 4,
 .k 12 .eql 11 0,
 .m 13 12,
 ⟨some 14,.loadn 4 (.t 3),some (13,true)⟩,
 ⟨some 15,.loadn 4 (.t 1),some (13,true)⟩,
 ⟨some 16,.eqs false (.str [(0,(none,.ti)),(1,(none,.ts)),(2,(none,.ts)),(3,(none,.ti))]) (.t 14) (.t 15),some (13,true)⟩,
 .o 17 (.pick (.t 13) (.t 16) (.c (.b false))),
 .m 2 17]
 (.ret)))
theorem gW:FnIs Tryz.prog 44 18 [.tmp 2] T4:=⟨⟨_,_,Tryz.func44,rfl,rfl,by kernel_rfl,by kernel_rfl⟩⟩
def Ua:SCode :=
 .s [.o 1 (.box 36 (.t 0)),
 .o 2 (.mv (.c (.b false)))]
 (.s [.f 6 1 1,
 .l 7 6,
 .c 8 34 [.t 7],
 .m 5 8,
 .e 9 5 0,
 .e 10 5 1,
 .o 3 (.alloc 36 [.i .i64 0,.s [],.s [],.i .i64 0]),
 .s 4 3 9,
 .m 4 10]
 (.s [.m 11 4,
 .k 12 .eql 11 0,
 .m 13 12,
 ⟨some 14,.loadn 4 (.t 3),some (13,true)⟩,
 ⟨some 15,.loadn 4 (.t 1),some (13,true)⟩,
 ⟨some 16,.eqs false (.str [(0,(none,.ti)),(1,(none,.ts)),(2,(none,.ts)),(3,(none,.ti))]) (.t 14) (.t 15),some (13,true)⟩,
 .o 17 (.pick (.t 13) (.t 16) (.c (.b false))),
 .m 2 17]
 (.ret)))
theorem iC:FnIs Tryz.prog 45 18 [.tmp 2] Ua:=⟨⟨_,_,Tryz.func45,rfl,rfl,by kernel_rfl,by kernel_rfl⟩⟩
def SC:SCode :=
 .s [.o 1 (.box 79 (.t 0)),
 .o 2 (.mv (.c (.b false)))]
 (.s [.f 3 0 1,
 .l 4 3,
 .h 5 4,
 .f 6 2 1,
 .l 7 6,
 .h 8 7,
 .b 9 .add 5 8,
 .f 10 3 1,
 .l 11 10,
 .h 12 11,
 .b 13 .add 9 12,
 .f 14 4 1,
 .l 15 14,
 .h 16 15,
 .b 17 .add 13 16,
 .k 18 .leq 17 1000,
 .m 2 18]
 (.ret))
theorem fC:FnIs Tryz.prog 46 19 [.tmp 2] SC:=⟨⟨_,_,Tryz.func46,rfl,rfl,by kernel_rfl,by kernel_rfl⟩⟩
def Ti:SCode :=
 .s [.o 2 (.alloc 36 [.i .i64 0,.s [],.s [],.i .i64 0]),
 .n 3 0]
 (.s [.m 7 0,
 .c 8 75 [.t 7],
 .m 6 8,
 .e 9 6 0,
 .e 10 6 1,
 .o 4 (.alloc 79 [.s [],.i .i64 0,.s [],.s [],.s [],.b false,.b false]),
 .s 7 4 9,
 .m 5 10]
 (.seq (.s [.m 11 5,
 .k 12 .neq 11 0]
 (.cond (.t 12)
 (.s [.o 13 (.build [.i .i64 0,.s [],.s [],.i .i64 0] []),
 .m 14 5,
 .s 4 2 13,
 .m 3 14]
 (.ret))
 (.skip)))
 (.seq (.drw [.w 15 7 4,
 .c 16 76 [.t 15],
 .f 17 0 4,
 .l 18 17,
 .f 19 1 4,
 .l 20 19,
 .o 21 (.build [.i .i64 0,.s [],.s [],.i .i64 0] [(0,(1,.c (.i .i64 3))),(1,(1,.t 16)),(2,(1,.t 18)),(3,(1,.t 20))]),
 .s 4 2 21,
 .n 3 0] 7 [])
 (.ret))))
theorem fY:FnIs Tryz.prog 53 22 [.celln 2 4,.tmp 3] Ti:=⟨⟨_,_,Tryz.func53,rfl,rfl,by kernel_rfl,by kernel_rfl⟩⟩
def UT:SCode :=
 .s [.o 2 (.alloc 36 [.i .i64 0,.s [],.s [],.i .i64 0]),
 .n 3 0]
 (.s [.m 10 0,
 .c 11 77 [.t 10],
 .m 9 11,
 .e 12 9 0,
 .e 13 9 1,
 .o 4 (.alloc 119 [.s [],.s []]),
 .s 2 4 12,
 .m 5 13]
 (.seq (.s [.m 14 5,
 .k 15 .neq 14 0]
 (.cond (.t 15)
 (.s [.o 16 (.build [.i .i64 0,.s [],.s [],.i .i64 0] []),
 .m 17 5,
 .s 4 2 16,
 .m 3 17]
 (.ret))
 (.skip)))
 (.s [.w 19 2 4,
 .c 20 78 [.t 19],
 .m 18 20,
 .e 21 18 0,
 .e 22 18 1,
 .o 6 (.alloc 119 [.s [],.s []]),
 .s 2 6 21,
 .m 5 22]
 (.seq (.s [.m 23 5,
 .k 24 .neq 23 0]
 (.cond (.t 24)
 (.s [.o 25 (.build [.i .i64 0,.s [],.s [],.i .i64 0] []),
 .m 26 5,
 .s 4 2 25,
 .m 3 26]
 (.ret))
 (.skip)))
 (.s [.w 28 2 6,
 .c 29 79 [.t 28],
 .m 27 29,
 .e 30 27 0,
 .e 31 27 1,
 .o 7 (.alloc 124 [.s [],.i .i64 0]),
 .s 2 7 30,
 .m 8 31]
 (.seq (.drw [.w 32 2 6,
 .c 33 80 [.t 32],
 .f 34 0 7,
 .l 35 34,
 .f 36 1 7,
 .l 37 36,
 .o 38 (.build [.i .i64 0,.s [],.s [],.i .i64 0] [(0,(1,.c (.i .i64 4))),(1,(1,.t 33)),(2,(1,.t 35)),(3,(1,.t 37))]),
 .s 4 2 38,
 .n 3 0] 7 [])
 (.ret)))))))
theorem jR:FnIs Tryz.prog 54 39 [.celln 2 4,.tmp 3] UT:=⟨⟨_,_,Tryz.func54,rfl,rfl,by kernel_rfl,by kernel_rfl⟩⟩
def OI:SCode :=
 .s [.o 2 (.mv (.c .nil))]
 (.seq (.s [.m 3 0,
 .o 4 (.pu (.snil false) [.t 3,.c .nil])]
 (.cond (.t 4)
 (.s [.o 2 (.mv (.c .nil))]
 (.ret))
 (.skip)))
 (.s [.o 5 (.mks 43 14 1 (.c (.i .i64 0)) (.c (.i .i64 0))),
 .m 6 0,
 .o 7 (.app 43 14 160 (.t 5) (.t 6)),
 .m 2 7]
 (.ret)))
theorem Vc:FnIs Tryz.prog 55 8 [.tmp 2] OI:=⟨⟨_,_,Tryz.func55,rfl,rfl,by kernel_rfl,by kernel_rfl⟩⟩
def OK:SCode :=
 .s [.o 2 (.mv (.c .nil))]
 (.seq (.s [.m 3 0,
 .o 4 (.pu (.snil false) [.t 3,.c .nil])]
 (.cond (.t 4)
 (.s [.o 2 (.mv (.c .nil))]
 (.ret))
 (.skip)))
 (.s [.o 5 (.mks 81 9 1 (.c (.i .i64 0)) (.c (.i .i64 0))),
 .m 6 0,
 .o 7 (.app 81 9 96 (.t 5) (.t 6)),
 .m 2 7]
 (.ret)))
theorem Ve:FnIs Tryz.prog 56 8 [.tmp 2] OK:=⟨⟨_,_,Tryz.func56,rfl,rfl,by kernel_rfl,by kernel_rfl⟩⟩
def Vg:SCode :=
 .s [.n 6 0,
 .o 7 (.mv (.c (.b false)))]
 (.s [.m 12 0,
 .o 13 (.lenr (.t 12)),
 .m 8 13]
 (.s [.m 14 8,
 .n 9 0,
 .m 10 14]
 (.seq (.blk 0
 (.loop
 (.seq (.s [.m 15 9,
 .m 16 10,
 .b 17 .lss 15 16]
 (.cond (.t 17)
 (.skip)
 (.exit 0)))
 (.blk 1
 (.s [.m 18 9,
 .m 19 10,
 .b 20 .add 18 19,
 .o 21 (.cvi .u64 (.t 20)),
 .o 22 (.pu .shr [.t 21,.c (.i .u64 1)]),
 .o 23 (.cvi .i64 (.t 22)),
 .m 11 23]
 (.s [.m 24 2,
 .m 25 0,
 .m 26 11,
 .o 27 (.iad 14 (.t 25) (.t 26)),
 .w 28 14 27,
 .m 29 1,
 .o 30 (.callv (.t 24) [.t 28,.t 29]),
 .k 31 .lss 30 0]
 (.cond (.t 31)
 (.reg [.m 32 11,
 .k 33 .add 32 1,
 .m 9 33])
 (.reg [.m 34 11,
 .m 10 34]))))))))
 (.s [.m 35 9,
 .m 36 9,
 .m 37 8,
 .b 38 .lss 36 37,
 .m 39 38,
 ⟨some 40,.mv (.t 2),some (39,true)⟩,
 ⟨some 41,.mv (.t 0),some (39,true)⟩,
 ⟨some 42,.mv (.t 9),some (39,true)⟩,
 ⟨some 43,.iad 14 (.t 41) (.t 42),some (39,true)⟩,
 ⟨some 44,.loadn 14 (.t 43),some (39,true)⟩,
 ⟨some 45,.mv (.t 1),some (39,true)⟩,
 ⟨some 46,.callv (.t 40) [.t 44,.t 45],some (39,true)⟩,
 ⟨some 47,.bin .eql (.t 46) (.c (.i .i64 0)),some (39,true)⟩,
 .o 48 (.pick (.t 39) (.t 47) (.c (.b false))),
 .m 6 35,
 .m 7 48]
 (.ret)))))
theorem kY:FnIs Tryz.prog 57 49 [.tmp 6,.tmp 7] Vg:=⟨⟨_,_,Tryz.func57,rfl,rfl,by kernel_rfl,by kernel_rfl⟩⟩
def Up:SCode :=
 .s [.o 2 (.box 43 (.t 0)),
 .n 4 0]
 (.s [.w 5 14 2,
 .c 6 27 [.t 5],
 .m 7 1,
 .c 8 59 [.t 6,.t 7],
 .m 4 8]
 (.ret))
theorem iG:FnIs Tryz.prog 58 9 [.tmp 4] Up:=⟨⟨_,_,Tryz.func58,rfl,rfl,by kernel_rfl,by kernel_rfl⟩⟩
def U4:SCode :=
 .s [.n 4 0]
 (.s [.m 7 0,
 .c 8 81 [.t 7],
 .m 5 8]
 (.s [.m 9 1,
 .c 10 81 [.t 9],
 .m 6 10]
 (.seq (.s [.m 11 5]
 (.cond (.t 11)
 (.seq (.s [.m 12 6]
 (.cond (.t 12)
 (.s [.n 4 0]
 (.ret))
 (.skip)))
 (.s [.n 4 (-1)]
 (.ret)))
 (.skip)))
 (.seq (.s [.m 13 6]
 (.cond (.t 13)
 (.s [.n 4 1]
 (.ret))
 (.skip)))
 (.seq (.s [.m 14 0,
 .m 15 1,
 .o 16 (.pu (.scmp .lss) [.t 14,.t 15])]
 (.cond (.t 16)
 (.s [.n 4 (-1)]
 (.ret))
 (.skip)))
 (.seq (.s [.m 17 0,
 .m 18 1,
 .o 19 (.pu (.scmp .gtr) [.t 17,.t 18])]
 (.cond (.t 19)
 (.s [.n 4 1]
 (.ret))
 (.skip)))
 (.s [.n 4 0]
 (.ret))))))))
theorem kL:FnIs Tryz.prog 59 20 [.tmp 4] U4:=⟨⟨_,_,Tryz.func59,rfl,rfl,by kernel_rfl,by kernel_rfl⟩⟩
def U5:SCode :=
 .s [.m 4 0,
 .o 5 (.inv [(98,259),(181,263)] (.t 4) []),
 .m 2 5]
 (.s [.m 6 2,
 .k 7 .quo 6 2,
 .k 8 .sub 7 1,
 .m 3 8]
 (.blk 0
 (.loop
 (.seq (.s [.m 9 3,
 .k 10 .geq 9 0]
 (.cond (.t 10)
 (.skip)
 (.exit 0)))
 (.seq (.blk 1
 (.reg [.m 13 0,
 .m 14 3,
 .m 15 2,
 .c 16 82 [.t 13,.t 14,.t 15]]))
 (.reg [.m 11 3,
 .k 12 .sub 11 1,
 .m 3 12]))))))
theorem kM:FnIs Tryz.prog 60 17 [] U5:=⟨⟨_,_,Tryz.func60,rfl,rfl,by kernel_rfl,by kernel_rfl⟩⟩
def U0:SCode :=
 .s [.o 2 (.mv (.c (.o .nilIface)))]
 (.s [.m 4 0,
 .o 5 (.inv [(98,259),(181,263)] (.t 4) []),
 .k 6 .sub 5 1,
 .m 3 6]
 (.s [.m 7 0,
 .m 8 3,
 .o 9 (.inv [(98,262)] (.t 7) [.c (.i .i64 0),.t 8])]
 (.s [.m 10 0,
 .m 11 3,
 .c 12 82 [.t 10,.c (.i .i64 0),.t 11]]
 (.s [.m 13 0,
 .o 14 (.inv [(98,261)] (.t 13) []),
 .m 2 14]
 (.ret)))))
theorem kU:FnIs Tryz.prog 61 15 [.tmp 2] U0:=⟨⟨_,_,Tryz.func61,rfl,rfl,by kernel_rfl,by kernel_rfl⟩⟩
def OJ:SCode :=
 .s [.n 4 0]
 (.seq (.s [.m 6 0,
 .o 7 (.lenr (.t 6)),
 .n 8 0]
 (.blk 0
 (.loop
 (.s [.b 9 .lss 8 7]
 (.seq (.cond (.t 9)
 (.skip)
 (.exit 0))
 (.seq (.blk 1
 (.s [.m 10 8,
 .m 5 10]
 (.s [.m 11 1,
 .m 12 0,
 .m 13 5,
 .o 14 (.iad 14 (.t 12) (.t 13)),
 .w 15 14 14,
 .o 16 (.callv (.t 11) [.t 15])]
 (.cond (.t 16)
 (.s [.m 17 5,
 .m 4 17]
 (.ret))
 (.skip)))))
 (.reg [.k 18 .add 8 1,
 .m 8 18])))))))
 (.s [.n 4 (-1)]
 (.ret)))
theorem Vd:FnIs Tryz.prog 64 19 [.tmp 4] OJ:=⟨⟨_,_,Tryz.func64,rfl,rfl,by kernel_rfl,by kernel_rfl⟩⟩
def Om:SCode :=
 .s [.o 2 (.alloc 79 [.s [],.i .i64 0,.s [],.s [],.s [],.b false,.b false]),
 .n 3 0]
 (.seq (.s [.m 11 0,
 .h 12 11,
 .k 13 .gtr 12 4096]
 (.cond (.t 13)
 (.s [.o 14 (.build [.s [],.i .i64 0,.s [],.s [],.s [],.b false,.b false] []),
 .s 7 2 14,
 .n 3 5]
 (.ret))
 (.skip)))
 (.s [.m 16 0,
 .c 17 98 [.t 16],
 .m 15 17,
 .e 18 15 0,
 .e 19 15 1,
 .o 4 (.alloc 150 [.s [],.s [],.s [],.s [],.s [],.b false,.b false,.b false,.b false]),
 .s 9 4 18,
 .m 5 19]
 (.seq (.s [.m 20 5,
 .k 21 .neq 20 0]
 (.cond (.t 21)
 (.s [.o 22 (.build [.s [],.i .i64 0,.s [],.s [],.s [],.b false,.b false] []),
 .m 23 5,
 .s 7 2 22,
 .m 3 23]
 (.ret))
 (.skip)))
 (.seq (.blk 0
 (.s [.f 25 5 4,
 .l 26 25,
 .o 27 (.not (.t 26)),
 .m 28 27,
 ⟨some 29,.fad 0 (.t 4),some (28,false)⟩,
 ⟨some 30,.load1 (.t 29),some (28,false)⟩,
 ⟨some 31,.call 67 [.t 30,.c (.s [104,116,116,112,115])],some (28,false)⟩,
 ⟨some 32,.not (.t 31),some (28,false)⟩,
 .p 33 28 32,
 .m 24 33]
 (.cond (.t 24)
 (.s [.o 34 (.build [.s [],.i .i64 0,.s [],.s [],.s [],.b false,.b false] []),
 .s 7 2 34,
 .n 3 60]
 (.ret))
 (.s [.f 36 6 4,
 .l 37 36,
 .o 38 (.not (.t 37)),
 .m 35 38]
 (.cond (.t 35)
 (.s [.o 39 (.build [.s [],.i .i64 0,.s [],.s [],.s [],.b false,.b false] []),
 .s 7 2 39,
 .n 3 71]
 (.ret))
 (.seq (.drw [.f 41 1 4,
 .l 42 41,
 .c 43 47 [.t 42,.c (.s [64])],
 .f 44 1 4,
 .l 45 44,
 .h 46 45,
 .b 47 .lss 43 46,
 .m 40 47] 8 [])
 (.cond (.t 40)
 (.s [.o 48 (.build [.s [],.i .i64 0,.s [],.s [],.s [],.b false,.b false] []),
 .s 7 2 48,
 .n 3 70]
 (.ret))
 (.skip))))))))
 (.s [.f 50 1 4,
 .l 51 50,
 .c 52 99 [.t 51],
 .m 49 52,
 .e 53 49 0,
 .e 54 49 1,
 .o 6 (.alloc 124 [.s [],.i .i64 0]),
 .s 2 6 53,
 .m 5 54]
 (.seq (.s [.m 55 5,
 .k 56 .neq 55 0]
 (.cond (.t 56)
 (.s [.o 57 (.build [.s [],.i .i64 0,.s [],.s [],.s [],.b false,.b false] []),
 .m 58 5,
 .s 7 2 57,
 .m 3 58]
 (.ret))
 (.skip)))
 (.s [.f 60 2 4,
 .l 61 60,
 .c 62 68 [.t 61,.c (.s [33,36,38,39,40,41,42,43,44,59,61,58,64,47])],
 .m 59 62,
 .e 63 59 0,
 .e 64 59 1,
 .m 7 63,
 .m 5 64]
 (.seq (.s [.m 65 5,
 .k 66 .neq 65 0]
 (.cond (.t 66)
 (.s [.o 67 (.build [.s [],.i .i64 0,.s [],.s [],.s [],.b false,.b false] []),
 .m 68 5,
 .s 7 2 67,
 .m 3 68]
 (.ret))
 (.skip)))
 (.s [.f 70 3 4,
 .l 71 70,
 .c 72 68 [.t 71,.c (.s [33,36,38,39,40,41,42,43,44,59,61,58,64,47,63])],
 .m 69 72,
 .e 73 69 0,
 .e 74 69 1,
 .m 8 73,
 .m 5 74]
 (.seq (.s [.m 75 5,
 .k 76 .neq 75 0]
 (.cond (.t 76)
 (.s [.o 77 (.build [.s [],.i .i64 0,.s [],.s [],.s [],.b false,.b false] []),
 .m 78 5,
 .s 7 2 77,
 .m 3 78]
 (.ret))
 (.skip)))
 (.s [.f 80 4 4,
 .l 81 80,
 .c 82 68 [.t 81,.c (.s [33,36,38,39,40,41,42,43,44,59,61,58,64,47,63])],
 .m 79 82,
 .e 83 79 0,
 .e 84 79 1,
 .m 9 83,
 .m 5 84]
 (.seq (.s [.m 85 5,
 .k 86 .neq 85 0]
 (.cond (.t 86)
 (.s [.o 87 (.build [.s [],.i .i64 0,.s [],.s [],.s [],.b false,.b false] []),
 .m 88 5,
 .s 7 2 87,
 .m 3 88]
 (.ret))
 (.skip)))
 (.seq (.s [.m 89 7,
 .c 90 100 [.t 89],
 .m 7 90]
 (.s [.m 91 7,
 .o 92 (.bin .eql (.t 91) (.c (.s [])))]
 (.cond (.t 92)
 (.reg [.o 7 (.mv (.c (.s [47])))])
 (.skip))))
 (.s [.f 93 0 6,
 .l 94 93,
 .f 95 1 6,
 .l 96 95,
 .m 97 7,
 .m 98 8,
 .m 99 9,
 .f 100 7 4,
 .l 101 100,
 .f 102 8 4,
 .l 103 102,
 .o 104 (.build [.s [],.i .i64 0,.s [],.s [],.s [],.b false,.b false] [(0,(1,.t 94)),(1,(1,.t 96)),(2,(1,.t 97)),(3,(1,.t 98)),(4,(1,.t 99)),(5,(1,.t 101)),(6,(1,.t 103))]),
 .o 10 (.alloc 79 [.s [],.i .i64 0,.s [],.s [],.s [],.b false,.b false]),
 .s 7 10 104]
 (.seq (.s [.w 105 7 10,
 .c 106 76 [.t 105],
 .h 107 106,
 .k 108 .gtr 107 4096]
 (.cond (.t 108)
 (.s [.o 109 (.build [.s [],.i .i64 0,.s [],.s [],.s [],.b false,.b false] []),
 .s 7 2 109,
 .n 3 5]
 (.ret))
 (.skip)))
 (.s [.w 110 7 10,
 .s 7 2 110,
 .n 3 0]
 (.ret)))))))))))))))))
theorem gZ:FnIs Tryz.prog 75 111 [.celln 2 7,.tmp 3] Om:=⟨⟨_,_,Tryz.func75,rfl,rfl,by kernel_rfl,by kernel_rfl⟩⟩
def Ui:SCode :=
 .s [.o 1 (.box 79 (.t 0)),
 .z 2]
 (.seq (.drw [.w 4 7 1,
 .c 5 102 [.t 4],
 .c 6 101 [.t 5],
 .o 7 (.bin .add (.c (.s [104,116,116,112,115,58,47,47])) (.t 6)),
 .w 8 7 1,
 .c 9 103 [.t 8],
 .b 10 .add 7 9,
 .m 3 10] 8 [])
 (.seq (.s [.f 11 6 1,
 .l 12 11]
 (.cond (.t 12)
 (.reg [.m 13 3,
 .f 14 4 1,
 .l 15 14,
 .o 16 (.bin .add (.c (.s [35])) (.t 15)),
 .b 17 .add 13 16,
 .m 3 17])
 (.skip)))
 (.s [.m 18 3,
 .m 2 18]
 (.ret))))
theorem iN:FnIs Tryz.prog 76 19 [.tmp 2] Ui:=⟨⟨_,_,Tryz.func76,rfl,rfl,by kernel_rfl,by kernel_rfl⟩⟩
def OD:SCode :=
 .s [.o 2 (.alloc 119 [.s [],.s []]),
 .n 3 0]
 (.seq (.blk 0
 (.s [.m 17 0,
 .h 18 17,
 .k 19 .gtr 18 4096,
 .m 16 19]
 (.cond (.t 16)
 (.s [.o 20 (.build [.s [],.s []] []),
 .s 2 2 20,
 .n 3 5]
 (.ret))
 (.s [.m 22 0,
 .c 23 104 [.t 22,.c (.s [100,105,100,58])],
 .o 24 (.not (.t 23)),
 .m 21 24]
 (.cond (.t 21)
 (.s [.o 25 (.build [.s [],.s []] []),
 .s 2 2 25,
 .n 3 60]
 (.ret))
 (.skip))))))
 (.s [.m 26 0,
 .o 27 (.slcs (.t 26) (some (.c (.i .i64 4))) none),
 .m 0 27]
 (.s [.m 28 0,
 .c 29 47 [.t 28,.c (.s [58])],
 .m 4 29]
 (.seq (.s [.m 30 4,
 .m 31 0,
 .h 32 31,
 .b 33 .eql 30 32]
 (.cond (.t 33)
 (.s [.o 34 (.build [.s [],.s []] []),
 .s 2 2 34,
 .n 3 6]
 (.ret))
 (.skip)))
 (.seq (.s [.m 35 0,
 .m 36 4,
 .o 37 (.slcs (.t 35) none (some (.t 36))),
 .c 38 105 [.t 37],
 .o 39 (.not (.t 38))]
 (.cond (.t 39)
 (.s [.o 40 (.build [.s [],.s []] []),
 .s 2 2 40,
 .n 3 100]
 (.ret))
 (.skip)))
 (.s [.m 41 0,
 .m 42 4,
 .k 43 .add 42 1,
 .o 44 (.slcs (.t 41) (some (.t 43)) none),
 .c 45 95 [.t 44,.c (.i .u8 58)],
 .m 5 45]
 (.seq (.s [.m 46 5,
 .o 47 (.lenr (.t 46)),
 .n 48 0]
 (.blk 1
 (.loop
 (.s [.b 49 .lss 48 47]
 (.seq (.cond (.t 49)
 (.skip)
 (.exit 1))
 (.seq (.blk 2
 (.s [.o 50 (.iad 1 (.t 46) (.t 48)),
 .l 51 50,
 .m 7 51]
 (.s [.m 53 7,
 .c 54 71 [.t 53],
 .m 52 54,
 .e 55 52 0,
 .e 56 52 1,
 .m 8 55,
 .m 9 56]
 (.s [.m 57 9,
 .k 58 .neq 57 0]
 (.cond (.t 58)
 (.s [.o 59 (.build [.s [],.s []] []),
 .s 2 2 59,
 .n 3 2]
 (.ret))
 (.skip))))))
 (.reg [.k 60 .add 48 1,
 .m 48 60])))))))
 (.s [.z 10]
 (.seq (.s [.m 61 5,
 .o 62 (.lenr (.t 61)),
 .n 63 0]
 (.blk 3
 (.loop
 (.s [.b 64 .lss 63 62]
 (.seq (.cond (.t 64)
 (.skip)
 (.exit 3))
 (.seq (.blk 4
 (.s [.m 65 63,
 .o 66 (.iad 1 (.t 61) (.t 63)),
 .l 67 66,
 .m 11 65,
 .m 12 67]
 (.seq (.s [.n 13 0]
 (.blk 5
 (.loop
 (.seq (.s [.m 68 13,
 .m 69 12,
 .h 70 69,
 .b 71 .lss 68 70]
 (.cond (.t 71)
 (.skip)
 (.exit 5)))
 (.seq (.blk 6
 (.s [.m 74 12,
 .m 75 13,
 .o 76 (.idx (.t 74) (.t 75)),
 .c 77 106 [.t 76],
 .o 78 (.not (.t 77)),
 .m 79 78,
 ⟨some 80,.mv (.t 12),some (79,true)⟩,
 ⟨some 81,.mv (.t 13),some (79,true)⟩,
 ⟨some 82,.idx (.t 80) (.t 81),some (79,true)⟩,
 ⟨some 83,.bin .neq (.t 82) (.c (.i .u8 37)),some (79,true)⟩,
 .o 84 (.pick (.t 79) (.t 83) (.c (.b false)))]
 (.cond (.t 84)
 (.s [.o 85 (.build [.s [],.s []] []),
 .s 2 2 85,
 .n 3 1]
 (.ret))
 (.skip))))
 (.reg [.m 72 13,
 .k 73 .add 72 1,
 .m 13 73]))))))
 (.s [.m 87 12,
 .c 88 71 [.t 87],
 .m 86 88,
 .e 89 86 0,
 .e 90 86 1,
 .m 14 89,
 .m 15 90]
 (.seq (.s [.m 91 11,
 .k 92 .gtr 91 0]
 (.cond (.t 92)
 (.reg [.m 93 10,
 .o 94 (.bin .add (.t 93) (.c (.s [58]))),
 .m 10 94])
 (.skip)))
 (.reg [.m 95 10,
 .m 96 14,
 .c 97 107 [.t 96],
 .b 98 .add 95 97,
 .m 10 98]))))))
 (.reg [.k 99 .add 63 1,
 .m 63 99])))))))
 (.seq (.s [.m 100 5,
 .m 101 5,
 .o 102 (.lenr (.t 101)),
 .k 103 .sub 102 1,
 .o 104 (.iad 1 (.t 100) (.t 103)),
 .l 105 104,
 .o 106 (.bin .eql (.t 105) (.c (.s [])))]
 (.cond (.t 106)
 (.s [.o 107 (.build [.s [],.s []] []),
 .s 2 2 107,
 .n 3 3]
 (.ret))
 (.skip)))
 (.s [.m 108 0,
 .m 109 4,
 .o 110 (.slcs (.t 108) none (some (.t 109))),
 .m 111 10,
 .o 112 (.build [.s [],.s []] [(0,(1,.t 110)),(1,(1,.t 111))]),
 .s 2 2 112,
 .n 3 0]
 (.ret))))))))))))
theorem jE:FnIs Tryz.prog 77 113 [.celln 2 2,.tmp 3] OD:=⟨⟨_,_,Tryz.func77,rfl,rfl,by kernel_rfl,by kernel_rfl⟩⟩
def US:SCode :=
 .s [.o 1 (.box 119 (.t 0)),
 .o 2 (.alloc 119 [.s [],.s []]),
 .n 3 0]
 (.s [.w 7 2 1,
 .c 8 108 [.t 7],
 .m 6 8,
 .e 9 6 0,
 .e 10 6 1,
 .o 4 (.alloc 79 [.s [],.i .i64 0,.s [],.s [],.s [],.b false,.b false]),
 .s 7 4 9,
 .m 5 10]
 (.seq (.s [.m 11 5,
 .k 12 .neq 11 0]
 (.cond (.t 12)
 (.s [.o 13 (.build [.s [],.s []] []),
 .m 14 5,
 .s 2 2 13,
 .m 3 14]
 (.ret))
 (.skip)))
 (.s [.w 15 7 4,
 .c 16 109 [.t 15],
 .e 17 16 0,
 .e 18 16 1,
 .s 2 2 17,
 .m 3 18]
 (.ret))))
theorem jQ:FnIs Tryz.prog 78 19 [.celln 2 2,.tmp 3] US:=⟨⟨_,_,Tryz.func78,rfl,rfl,by kernel_rfl,by kernel_rfl⟩⟩
def UR:SCode :=
 .s [.o 1 (.box 119 (.t 0)),
 .o 2 (.alloc 124 [.s [],.i .i64 0]),
 .n 3 0]
 (.s [.w 8 2 1,
 .c 9 110 [.t 8],
 .m 7 9,
 .e 10 7 0,
 .e 11 7 1,
 .e 12 7 2,
 .o 5 (.alloc 124 [.s [],.i .i64 0]),
 .m 4 10,
 .s 2 5 11,
 .m 6 12]
 (.s [.w 13 2 5,
 .m 14 6,
 .s 2 2 13,
 .m 3 14]
 (.ret)))
theorem jP:FnIs Tryz.prog 79 15 [.celln 2 2,.tmp 3] UR:=⟨⟨_,_,Tryz.func79,rfl,rfl,by kernel_rfl,by kernel_rfl⟩⟩
def UQ:SCode :=
 .s [.o 1 (.box 119 (.t 0)),
 .z 2]
 (.s [.f 3 0 1,
 .l 4 3,
 .o 5 (.bin .add (.c (.s [100,105,100,58])) (.t 4)),
 .o 6 (.bin .add (.t 5) (.c (.s [58]))),
 .f 7 1 1,
 .l 8 7,
 .b 9 .add 6 8,
 .m 2 9]
 (.ret))
theorem jO:FnIs Tryz.prog 80 10 [.tmp 2] UQ:=⟨⟨_,_,Tryz.func80,rfl,rfl,by kernel_rfl,by kernel_rfl⟩⟩
def U8:SCode :=
 .s [.o 2 (.mv (.c (.b false)))]
 (.s [.m 3 0,
 .m 4 0,
 .b 5 .neq 3 4,
 .m 2 5]
 (.ret))
theorem jZ:FnIs Tryz.prog 81 6 [.tmp 2] U8:=⟨⟨_,_,Tryz.func81,rfl,rfl,by kernel_rfl,by kernel_rfl⟩⟩
def U6:SCode :=
 .s [.o 6 (.mv (.c (.b false)))]
 (.s [.m 11 1,
 .m 7 11]
 (.seq (.blk 0
 (.loop
 (.blk 1
 (.s [.m 12 7,
 .o 13 (.bin .mul (.c (.i .i64 2)) (.t 12)),
 .k 14 .add 13 1,
 .m 8 14]
 (.seq (.s [.m 15 8,
 .m 16 2,
 .b 17 .geq 15 16,
 .m 18 17,
 ⟨some 19,.mv (.t 8),some (18,false)⟩,
 ⟨some 20,.bin .lss (.t 19) (.c (.i .i64 0)),some (18,false)⟩,
 .p 21 18 20]
 (.cond (.t 21)
 (.exit 0)
 (.skip)))
 (.s [.m 22 8,
 .m 9 22]
 (.seq (.s [.m 23 8,
 .k 24 .add 23 1,
 .m 10 24]
 (.s [.m 25 10,
 .m 26 2,
 .b 27 .lss 25 26,
 .m 28 27,
 ⟨some 29,.mv (.t 0),some (28,true)⟩,
 ⟨some 30,.mv (.t 10),some (28,true)⟩,
 ⟨some 31,.mv (.t 8),some (28,true)⟩,
 ⟨some 32,.inv [(98,260)] (.t 29) [.t 30,.t 31],some (28,true)⟩,
 .o 33 (.pick (.t 28) (.t 32) (.c (.b false)))]
 (.cond (.t 33)
 (.reg [.m 34 10,
 .m 9 34])
 (.skip))))
 (.seq (.s [.m 35 0,
 .m 36 9,
 .m 37 7,
 .o 38 (.inv [(98,260)] (.t 35) [.t 36,.t 37]),
 .o 39 (.not (.t 38))]
 (.cond (.t 39)
 (.exit 0)
 (.skip)))
 (.s [.m 40 0,
 .m 41 7,
 .m 42 9,
 .o 43 (.inv [(98,262)] (.t 40) [.t 41,.t 42])]
 (.reg [.m 44 9,
 .m 7 44]))))))))))
 (.s [.m 45 7,
 .m 46 1,
 .b 47 .gtr 45 46,
 .m 6 47]
 (.ret))))
theorem kN:FnIs Tryz.prog 82 48 [.tmp 6] U6:=⟨⟨_,_,Tryz.func82,rfl,rfl,by kernel_rfl,by kernel_rfl⟩⟩
def UN:SCode :=
 .s [.o 2 (.alloc 36 [.i .i64 0,.s [],.s [],.i .i64 0]),
 .n 3 0]
 (.s [.m 7 0,
 .c 8 112 [.t 7],
 .m 6 8,
 .e 9 6 0,
 .e 10 6 1,
 .o 4 (.alloc 86 [.s [],.s []]),
 .s 2 4 9,
 .m 5 10]
 (.seq (.s [.m 11 5,
 .k 12 .neq 11 0]
 (.cond (.t 12)
 (.s [.o 13 (.build [.i .i64 0,.s [],.s [],.i .i64 0] []),
 .m 14 5,
 .s 4 2 13,
 .m 3 14]
 (.ret))
 (.skip)))
 (.seq (.drw [.w 15 2 4,
 .c 16 113 [.t 15],
 .f 17 1 4,
 .l 18 17,
 .o 19 (.build [.i .i64 0,.s [],.s [],.i .i64 0] [(0,(1,.c (.i .i64 1))),(1,(1,.t 16)),(2,(1,.t 18))]),
 .s 4 2 19,
 .n 3 0] 5 [])
 (.ret))))
theorem jV:FnIs Tryz.prog 84 20 [.celln 2 4,.tmp 3] UN:=⟨⟨_,_,Tryz.func84,rfl,rfl,by kernel_rfl,by kernel_rfl⟩⟩
def UO:SCode :=
 .s [.o 2 (.alloc 36 [.i .i64 0,.s [],.s [],.i .i64 0]),
 .n 3 0]
 (.s [.m 7 0,
 .c 8 114 [.t 7],
 .m 6 8,
 .e 9 6 0,
 .e 10 6 1,
 .o 4 (.alloc 91 [.s [],.s []]),
 .s 2 4 9,
 .m 5 10]
 (.seq (.s [.m 11 5,
 .k 12 .neq 11 0]
 (.cond (.t 12)
 (.s [.o 13 (.build [.i .i64 0,.s [],.s [],.i .i64 0] []),
 .m 14 5,
 .s 4 2 13,
 .m 3 14]
 (.ret))
 (.skip)))
 (.seq (.drw [.w 15 2 4,
 .c 16 115 [.t 15],
 .f 17 1 4,
 .l 18 17,
 .o 19 (.build [.i .i64 0,.s [],.s [],.i .i64 0] [(0,(1,.c (.i .i64 2))),(1,(1,.t 16)),(2,(1,.t 18))]),
 .s 4 2 19,
 .n 3 0] 5 [])
 (.ret))))
theorem jW:FnIs Tryz.prog 85 20 [.celln 2 4,.tmp 3] UO:=⟨⟨_,_,Tryz.func85,rfl,rfl,by kernel_rfl,by kernel_rfl⟩⟩
def Uw:SCode :=
 .s [.o 2 (.alloc 36 [.i .i64 0,.s [],.s [],.i .i64 0]),
 .n 3 0]
 (.s [.m 7 0,
 .c 8 116 [.t 7],
 .m 6 8,
 .e 9 6 0,
 .e 10 6 1,
 .o 4 (.alloc 79 [.s [],.i .i64 0,.s [],.s [],.s [],.b false,.b false]),
 .s 7 4 9,
 .m 5 10]
 (.seq (.s [.m 11 5,
 .k 12 .neq 11 0]
 (.cond (.t 12)
 (.s [.o 13 (.build [.i .i64 0,.s [],.s [],.i .i64 0] []),
 .m 14 5,
 .s 4 2 13,
 .m 3 14]
 (.ret))
 (.skip)))
 (.seq (.drw [.w 15 7 4,
 .c 16 117 [.t 15],
 .f 17 0 4,
 .l 18 17,
 .f 19 1 4,
 .l 20 19,
 .o 21 (.build [.i .i64 0,.s [],.s [],.i .i64 0] [(0,(1,.c (.i .i64 3))),(1,(1,.t 16)),(2,(1,.t 18)),(3,(1,.t 20))]),
 .s 4 2 21,
 .n 3 0] 7 [])
 (.ret))))
theorem jC:FnIs Tryz.prog 86 22 [.celln 2 4,.tmp 3] Uw:=⟨⟨_,_,Tryz.func86,rfl,rfl,by kernel_rfl,by kernel_rfl⟩⟩
def Uv:SCode :=
 .s [.o 2 (.alloc 36 [.i .i64 0,.s [],.s [],.i .i64 0]),
 .n 3 0]
 (.s [.m 8 0,
 .c 9 118 [.t 8],
 .m 7 9,
 .e 10 7 0,
 .e 11 7 1,
 .o 4 (.alloc 119 [.s [],.s []]),
 .s 2 4 10,
 .m 5 11]
 (.seq (.s [.m 12 5,
 .k 13 .neq 12 0]
 (.cond (.t 13)
 (.s [.o 14 (.build [.i .i64 0,.s [],.s [],.i .i64 0] []),
 .m 15 5,
 .s 4 2 14,
 .m 3 15]
 (.ret))
 (.skip)))
 (.s [.w 17 2 4,
 .c 18 119 [.t 17],
 .m 16 18,
 .e 19 16 0,
 .e 20 16 1,
 .s 2 4 19,
 .m 5 20]
 (.seq (.s [.m 21 5,
 .k 22 .neq 21 0]
 (.cond (.t 22)
 (.s [.o 23 (.build [.i .i64 0,.s [],.s [],.i .i64 0] []),
 .m 24 5,
 .s 4 2 23,
 .m 3 24]
 (.ret))
 (.skip)))
 (.s [.w 26 2 4,
 .c 27 120 [.t 26],
 .m 25 27,
 .e 28 25 0,
 .e 29 25 1,
 .o 6 (.alloc 124 [.s [],.i .i64 0]),
 .s 2 6 28,
 .m 5 29]
 (.seq (.s [.m 30 5,
 .k 31 .neq 30 0]
 (.cond (.t 31)
 (.s [.o 32 (.build [.i .i64 0,.s [],.s [],.i .i64 0] []),
 .m 33 5,
 .s 4 2 32,
 .m 3 33]
 (.ret))
 (.skip)))
 (.seq (.drw [.w 34 2 4,
 .c 35 121 [.t 34],
 .f 36 0 6,
 .l 37 36,
 .f 38 1 6,
 .l 39 38,
 .o 40 (.build [.i .i64 0,.s [],.s [],.i .i64 0] [(0,(1,.c (.i .i64 4))),(1,(1,.t 35)),(2,(1,.t 37)),(3,(1,.t 39))]),
 .s 4 2 40,
 .n 3 0] 7 [])
 (.ret))))))))
theorem jB:FnIs Tryz.prog 87 41 [.celln 2 4,.tmp 3] Uv:=⟨⟨_,_,Tryz.func87,rfl,rfl,by kernel_rfl,by kernel_rfl⟩⟩
def T6:SCode :=
 .s [.o 2 (.alloc 150 [.s [],.s [],.s [],.s [],.s [],.b false,.b false,.b false,.b false]),
 .n 3 0]
 (.seq (.s [.m 9 0,
 .h 10 9,
 .k 11 .gtr 10 16384]
 (.cond (.t 11)
 (.s [.o 12 (.build [.s [],.s [],.s [],.s [],.s [],.b false,.b false,.b false,.b false] []),
 .s 9 2 12,
 .n 3 5]
 (.ret))
 (.skip)))
 (.s [.o 4 (.alloc 150 [.s [],.s [],.s [],.s [],.s [],.b false,.b false,.b false,.b false])]
 (.seq (.s [.m 13 0,
 .c 14 47 [.t 13,.c (.s [35])],
 .m 5 14]
 (.s [.m 15 5,
 .m 16 0,
 .h 17 16,
 .b 18 .lss 15 17]
 (.cond (.t 18)
 (.drw [.m 19 0,
 .m 20 5,
 .k 21 .add 20 1,
 .o 22 (.slcs (.t 19) (some (.t 21)) none),
 .m 23 0,
 .m 24 5,
 .o 25 (.slcs (.t 23) none (some (.t 24))),
 .f 26 4 4,
 .s 1 26 22,
 .f 27 8 4,
 ⟨none,.store 1 (.t 27) (.c (.b true)),none⟩,
 .m 0 25] 12 [])
 (.skip))))
 (.seq (.s [.m 28 0,
 .c 29 47 [.t 28,.c (.s [63])],
 .m 6 29]
 (.s [.m 30 6,
 .m 31 0,
 .h 32 31,
 .b 33 .lss 30 32]
 (.cond (.t 33)
 (.drw [.m 34 0,
 .m 35 6,
 .k 36 .add 35 1,
 .o 37 (.slcs (.t 34) (some (.t 36)) none),
 .m 38 0,
 .m 39 6,
 .o 40 (.slcs (.t 38) none (some (.t 39))),
 .f 41 3 4,
 .s 1 41 37,
 .f 42 7 4,
 ⟨none,.store 1 (.t 42) (.c (.b true)),none⟩,
 .m 0 40] 12 [])
 (.skip))))
 (.seq (.s [.m 43 0,
 .c 44 47 [.t 43,.c (.s [58,47])],
 .m 7 44]
 (.s [.m 45 7,
 .m 46 0,
 .h 47 46,
 .b 48 .lss 45 47,
 .m 49 48,
 ⟨some 50,.mv (.t 0),some (49,true)⟩,
 ⟨some 51,.mv (.t 7),some (49,true)⟩,
 ⟨some 52,.idx (.t 50) (.t 51),some (49,true)⟩,
 ⟨some 53,.bin .eql (.t 52) (.c (.i .u8 58)),some (49,true)⟩,
 .o 54 (.pick (.t 49) (.t 53) (.c (.b false)))]
 (.cond (.t 54)
 (.seq (.s [.m 55 0,
 .m 56 7,
 .o 57 (.slcs (.t 55) none (some (.t 56))),
 .c 58 129 [.t 57],
 .o 59 (.not (.t 58))]
 (.cond (.t 59)
 (.s [.o 60 (.build [.s [],.s [],.s [],.s [],.s [],.b false,.b false,.b false,.b false] []),
 .s 9 2 60,
 .n 3 6]
 (.ret))
 (.skip)))
 (.drw [.m 61 0,
 .m 62 7,
 .o 63 (.slcs (.t 61) none (some (.t 62))),
 .m 64 0,
 .m 65 7,
 .k 66 .add 65 1,
 .o 67 (.slcs (.t 64) (some (.t 66)) none),
 .f 68 0 4,
 .s 1 68 63,
 .f 69 5 4,
 ⟨none,.store 1 (.t 69) (.c (.b true)),none⟩,
 .m 0 67] 12 []))
 (.skip))))
 (.seq (.s [.m 70 0,
 .c 71 104 [.t 70,.c (.s [47,47])]]
 (.cond (.t 71)
 (.s [.m 72 0,
 .o 73 (.slcs (.t 72) (some (.c (.i .i64 2))) none),
 .c 74 47 [.t 73,.c (.s [47])],
 .o 75 (.bin .add (.c (.i .i64 2)) (.t 74)),
 .m 8 75]
 (.drw [.m 76 0,
 .m 77 8,
 .o 78 (.slcs (.t 76) (some (.c (.i .i64 2))) (some (.t 77))),
 .m 79 0,
 .m 80 8,
 .o 81 (.slcs (.t 79) (some (.t 80)) none),
 .f 82 1 4,
 .s 1 82 78,
 .f 83 6 4,
 ⟨none,.store 1 (.t 83) (.c (.b true)),none⟩,
 .m 0 81] 11 []))
 (.skip)))
 (.s [.m 84 0,
 .f 85 2 4,
 .s 1 85 84]
 (.s [.w 86 9 4,
 .s 9 2 86,
 .n 3 0]
 (.ret)))))))))
theorem gY:FnIs Tryz.prog 98 87 [.celln 2 9,.tmp 3] T6:=⟨⟨_,_,Tryz.func98,rfl,rfl,by kernel_rfl,by kernel_rfl⟩⟩
def T5:SCode :=
 .s [.o 2 (.alloc 124 [.s [],.i .i64 0]),
 .n 3 0]
 (.s [.m 8 0,
 .c 9 47 [.t 8,.c (.s [58])],
 .m 4 9]
 (.s [.m 11 0,
 .m 12 4,
 .o 13 (.slcs (.t 11) none (some (.t 12))),
 .c 14 69 [.t 13],
 .m 10 14,
 .e 15 10 0,
 .e 16 10 1,
 .m 5 15,
 .m 6 16]
 (.seq (.s [.m 17 6,
 .k 18 .neq 17 0]
 (.cond (.t 18)
 (.s [.o 19 (.build [.s [],.i .i64 0] []),
 .m 20 6,
 .s 2 2 19,
 .m 3 20]
 (.ret))
 (.skip)))
 (.seq (.s [.m 21 4,
 .m 22 0,
 .h 23 22,
 .b 24 .eql 21 23]
 (.cond (.t 24)
 (.s [.m 25 5,
 .o 26 (.build [.s [],.i .i64 0] [(0,(1,.t 25))]),
 .s 2 2 26,
 .n 3 0]
 (.ret))
 (.skip)))
 (.s [.m 28 0,
 .m 29 4,
 .k 30 .add 29 1,
 .o 31 (.slcs (.t 28) (some (.t 30)) none),
 .c 32 130 [.t 31],
 .m 27 32,
 .e 33 27 0,
 .e 34 27 1,
 .m 7 33,
 .m 6 34]
 (.seq (.s [.m 35 6,
 .k 36 .neq 35 0]
 (.cond (.t 36)
 (.s [.o 37 (.build [.s [],.i .i64 0] []),
 .m 38 6,
 .s 2 2 37,
 .m 3 38]
 (.ret))
 (.skip)))
 (.seq (.s [.m 39 7,
 .k 40 .eql 39 443]
 (.cond (.t 40)
 (.reg [.n 7 0])
 (.skip)))
 (.s [.m 41 5,
 .m 42 7,
 .o 43 (.build [.s [],.i .i64 0] [(0,(1,.t 41)),(1,(1,.t 42))]),
 .s 2 2 43,
 .n 3 0]
 (.ret)))))))))
theorem gX:FnIs Tryz.prog 99 44 [.celln 2 2,.tmp 3] T5:=⟨⟨_,_,Tryz.func99,rfl,rfl,by kernel_rfl,by kernel_rfl⟩⟩
def UK:SCode :=
 .s [.z 2]
 (.s [.m 6 0,
 .m 3 6,
 .z 4]
 (.seq (.blk 0
 (.loop
 (.seq (.s [.m 7 3,
 .o 8 (.bin .neq (.t 7) (.c (.s [])))]
 (.cond (.t 8)
 (.skip)
 (.exit 0)))
 (.blk 1
 (.blk 2
 (.s [.m 22 3,
 .c 23 104 [.t 22,.c (.s [46,46,47])],
 .m 21 23]
 (.cond (.t 21)
 (.reg [.m 24 3,
 .o 25 (.slcs (.t 24) (some (.c (.i .i64 3))) none),
 .m 3 25])
 (.s [.m 27 3,
 .c 28 104 [.t 27,.c (.s [46,47])],
 .m 26 28]
 (.cond (.t 26)
 (.reg [.m 29 3,
 .o 30 (.slcs (.t 29) (some (.c (.i .i64 2))) none),
 .m 3 30])
 (.s [.m 32 3,
 .c 33 104 [.t 32,.c (.s [47,46,47])],
 .m 31 33]
 (.cond (.t 31)
 (.reg [.m 34 3,
 .o 35 (.slcs (.t 34) (some (.c (.i .i64 2))) none),
 .m 3 35])
 (.s [.m 37 3,
 .o 38 (.bin .eql (.t 37) (.c (.s [47,46]))),
 .m 36 38]
 (.cond (.t 36)
 (.reg [.o 3 (.mv (.c (.s [47])))])
 (.s [.m 40 3,
 .c 41 104 [.t 40,.c (.s [47,46,46,47])],
 .m 39 41]
 (.cond (.t 39)
 (.drw [.m 42 3,
 .o 43 (.slcs (.t 42) (some (.c (.i .i64 3))) none),
 .m 44 4,
 .c 45 131 [.t 44],
 .m 3 43,
 .m 4 45] 6 [])
 (.s [.m 47 3,
 .o 48 (.bin .eql (.t 47) (.c (.s [47,46,46]))),
 .m 46 48]
 (.cond (.t 46)
 (.reg [.m 49 4,
 .c 50 131 [.t 49],
 .o 3 (.mv (.c (.s [47]))),
 .m 4 50])
 (.s [.m 52 3,
 .o 53 (.bin .eql (.t 52) (.c (.s [46]))),
 .m 54 53,
 ⟨some 55,.mv (.t 3),some (54,false)⟩,
 ⟨some 56,.bin .eql (.t 55) (.c (.s [46,46])),some (54,false)⟩,
 .p 57 54 56,
 .m 51 57]
 (.cond (.t 51)
 (.reg [.z 3])
 (.s [.m 9 3,
 .o 10 (.slcs (.t 9) (some (.c (.i .i64 1))) none),
 .c 11 47 [.t 10,.c (.s [47])],
 .o 12 (.bin .add (.c (.i .i64 1)) (.t 11)),
 .m 5 12]
 (.drw [.m 13 3,
 .m 14 5,
 .o 15 (.slcs (.t 13) (some (.t 14)) none),
 .m 16 4,
 .m 17 3,
 .m 18 5,
 .o 19 (.slcs (.t 17) none (some (.t 18))),
 .b 20 .add 16 19,
 .m 3 15,
 .m 4 20] 10 [])))))))))))))))))))))
 (.s [.m 58 4,
 .m 2 58]
 (.ret))))
theorem kF:FnIs Tryz.prog 100 59 [.tmp 2] UK:=⟨⟨_,_,Tryz.func100,rfl,rfl,by kernel_rfl,by kernel_rfl⟩⟩
def Oy:SCode :=
 .s [.o 1 (.box 124 (.t 0)),
 .z 2]
 (.seq (.s [.f 3 1 1,
 .l 4 3,
 .k 5 .eql 4 0]
 (.cond (.t 5)
 (.s [.f 6 0 1,
 .l 7 6,
 .m 2 7]
 (.ret))
 (.skip)))
 (.seq (.drw [.f 8 0 1,
 .l 9 8,
 .o 10 (.bin .add (.t 9) (.c (.s [58]))),
 .f 11 1 1,
 .l 12 11,
 .c 13 132 [.t 12],
 .b 14 .add 10 13,
 .m 2 14] 8 [])
 (.ret)))
theorem iM:FnIs Tryz.prog 101 15 [.tmp 2] Oy:=⟨⟨_,_,Tryz.func101,rfl,rfl,by kernel_rfl,by kernel_rfl⟩⟩
def Uj:SCode :=
 .s [.o 1 (.box 79 (.t 0)),
 .o 2 (.alloc 124 [.s [],.i .i64 0])]
 (.s [.f 3 0 1,
 .l 4 3,
 .f 5 1 1,
 .l 6 5,
 .o 7 (.build [.s [],.i .i64 0] [(0,(1,.t 4)),(1,(1,.t 6))]),
 .s 2 2 7]
 (.ret))
theorem iO:FnIs Tryz.prog 102 8 [.celln 2 2] Uj:=⟨⟨_,_,Tryz.func102,rfl,rfl,by kernel_rfl,by kernel_rfl⟩⟩
def Uk:SCode :=
 .s [.o 1 (.box 79 (.t 0)),
 .z 2]
 (.seq (.s [.f 3 5 1,
 .l 4 3]
 (.cond (.t 4)
 (.s [.f 5 2 1,
 .l 6 5,
 .o 7 (.bin .add (.t 6) (.c (.s [63]))),
 .f 8 3 1,
 .l 9 8,
 .b 10 .add 7 9,
 .m 2 10]
 (.ret))
 (.skip)))
 (.s [.f 11 2 1,
 .l 12 11,
 .m 2 12]
 (.ret)))
theorem iP:FnIs Tryz.prog 103 13 [.tmp 2] Uk:=⟨⟨_,_,Tryz.func103,rfl,rfl,by kernel_rfl,by kernel_rfl⟩⟩
def Ul:SCode :=
 .s [.o 2 (.mv (.c (.b false)))]
 (.seq (.s [.n 3 0]
 (.blk 0
 (.loop
 (.seq (.s [.m 4 3,
 .m 5 0,
 .h 6 5,
 .b 7 .lss 4 6]
 (.cond (.t 7)
 (.skip)
 (.exit 0)))
 (.seq (.blk 1
 (.s [.m 10 0,
 .m 11 3,
 .o 12 (.idx (.t 10) (.t 11)),
 .c 13 94 [.t 12],
 .o 14 (.not (.t 13)),
 .m 15 14,
 ⟨some 16,.mv (.t 0),some (15,true)⟩,
 ⟨some 17,.mv (.t 3),some (15,true)⟩,
 ⟨some 18,.idx (.t 16) (.t 17),some (15,true)⟩,
 ⟨some 19,.bin .lss (.t 18) (.c (.i .u8 97)),some (15,true)⟩,
 ⟨some 20,.mv (.t 19),some (15,true)⟩,
 ⟨some 21,.mv (.t 0),some (20,false)⟩,
 ⟨some 22,.mv (.t 3),some (20,false)⟩,
 ⟨some 23,.idx (.t 21) (.t 22),some (20,false)⟩,
 ⟨some 24,.bin .gtr (.t 23) (.c (.i .u8 122)),some (20,false)⟩,
 ⟨some 25,.pick (.t 20) (.c (.b true)) (.t 24),some (15,true)⟩,
 .o 26 (.pick (.t 15) (.t 25) (.c (.b false)))]
 (.cond (.t 26)
 (.s [.o 2 (.mv (.c (.b false)))]
 (.ret))
 (.skip))))
 (.reg [.m 8 3,
 .k 9 .add 8 1,
 .m 3 9]))))))
 (.s [.m 27 0,
 .o 28 (.bin .neq (.t 27) (.c (.s []))),
 .m 2 28]
 (.ret)))
theorem iQ:FnIs Tryz.prog 105 29 [.tmp 2] Ul:=⟨⟨_,_,Tryz.func105,rfl,rfl,by kernel_rfl,by kernel_rfl⟩⟩
def T8:SCode :=
 .s [.o 2 (.mv (.c (.b false)))]
 (.s [.m 3 0,
 .c 4 93 [.t 3],
 .m 5 4,
 ⟨some 6,.mv (.t 0),some (5,false)⟩,
 ⟨some 7,.call 94 [.t 6],some (5,false)⟩,
 .p 8 5 7,
 .m 9 8,
 ⟨some 10,.mv (.t 0),some (9,false)⟩,
 ⟨some 11,.call 66 [.t 10,.c (.s [46,45,95])],some (9,false)⟩,
 .p 12 9 11,
 .m 2 12]
 (.ret))
theorem hH:FnIs Tryz.prog 106 13 [.tmp 2] T8:=⟨⟨_,_,Tryz.func106,rfl,rfl,by kernel_rfl,by kernel_rfl⟩⟩
def Uz:SCode :=
 .s [.z 2]
 (.s [.z 3]
 (.seq (.s [.n 4 0]
 (.blk 0
 (.loop
 (.seq (.s [.m 5 4,
 .m 6 0,
 .h 7 6,
 .b 8 .lss 5 7]
 (.cond (.t 8)
 (.skip)
 (.exit 0)))
 (.seq (.blk 1
 (.s [.m 11 0,
 .m 12 4,
 .o 13 (.idx (.t 11) (.t 12)),
 .c 14 106 [.t 13]]
 (.cond (.t 14)
 (.reg [.m 15 3,
 .m 16 0,
 .m 17 4,
 .m 18 4,
 .k 19 .add 18 1,
 .o 20 (.slcs (.t 16) (some (.t 17)) (some (.t 19))),
 .b 21 .add 15 20,
 .m 3 21])
 (.reg [.m 22 3,
 .m 23 0,
 .m 24 4,
 .o 25 (.idx (.t 23) (.t 24)),
 .c 26 91 [.t 25],
 .b 27 .add 22 26,
 .m 3 27]))))
 (.reg [.m 9 4,
 .k 10 .add 9 1,
 .m 4 10]))))))
 (.s [.m 28 3,
 .m 2 28]
 (.ret))))
theorem jJ:FnIs Tryz.prog 107 29 [.tmp 2] Uz:=⟨⟨_,_,Tryz.func107,rfl,rfl,by kernel_rfl,by kernel_rfl⟩⟩
def T9:SCode :=
 .s [.o 1 (.box 119 (.t 0)),
 .o 2 (.alloc 79 [.s [],.i .i64 0,.s [],.s [],.s [],.b false,.b false]),
 .n 3 0]
 (.s [.w 14 2 1,
 .c 15 110 [.t 14],
 .m 13 15,
 .e 16 13 0,
 .e 17 13 1,
 .e 18 13 2,
 .o 5 (.alloc 124 [.s [],.i .i64 0]),
 .m 4 16,
 .s 2 5 17,
 .m 6 18]
 (.seq (.s [.m 19 6,
 .k 20 .neq 19 0]
 (.cond (.t 20)
 (.s [.o 21 (.build [.s [],.i .i64 0,.s [],.s [],.s [],.b false,.b false] []),
 .m 22 6,
 .s 7 2 21,
 .m 3 22]
 (.ret))
 (.skip)))
 (.s [.z 7]
 (.seq (.s [.m 23 4,
 .o 24 (.pu (.rsl 1) [.t 23,.c (.i .i64 1)]),
 .o 25 (.lenr (.t 24)),
 .n 26 0]
 (.blk 0
 (.loop
 (.s [.b 27 .lss 26 25]
 (.seq (.cond (.t 27)
 (.skip)
 (.exit 0))
 (.seq (.blk 1
 (.s [.o 28 (.iad 1 (.t 24) (.t 26)),
 .l 29 28,
 .m 9 29]
 (.s [.m 31 9,
 .c 32 71 [.t 31],
 .m 30 32,
 .e 33 30 0,
 .e 34 30 1,
 .m 10 33,
 .m 11 34]
 (.seq (.s [.m 35 10,
 .o 36 (.bin .eql (.t 35) (.c (.s []))),
 .m 37 36,
 ⟨some 38,.mv (.t 10),some (37,false)⟩,
 ⟨some 39,.bin .eql (.t 38) (.c (.s [46])),some (37,false)⟩,
 .p 40 37 39,
 .m 41 40,
 ⟨some 42,.mv (.t 10),some (41,false)⟩,
 ⟨some 43,.bin .eql (.t 42) (.c (.s [46,46])),some (41,false)⟩,
 .p 44 41 43]
 (.cond (.t 44)
 (.s [.o 45 (.build [.s [],.i .i64 0,.s [],.s [],.s [],.b false,.b false] []),
 .s 7 2 45,
 .n 3 110]
 (.ret))
 (.skip)))
 (.reg [.m 46 7,
 .m 47 10,
 .c 48 74 [.t 47,.c (.s [])],
 .o 49 (.bin .add (.c (.s [47])) (.t 48)),
 .b 50 .add 46 49,
 .m 7 50])))))
 (.reg [.k 51 .add 26 1,
 .m 26 51])))))))
 (.seq (.s [.m 52 4,
 .o 53 (.lenr (.t 52)),
 .k 54 .eql 53 1]
 (.cond (.t 54)
 (.reg [.o 7 (.mv (.c (.s [47,46,119,101,108,108,45,107,110,111,119,110])))])
 (.skip)))
 (.s [.f 55 0 5,
 .l 56 55,
 .f 57 1 5,
 .l 58 57,
 .m 59 7,
 .o 60 (.bin .add (.t 59) (.c (.s [47,100,105,100,46,106,115,111,110]))),
 .o 61 (.build [.s [],.i .i64 0,.s [],.s [],.s [],.b false,.b false] [(0,(1,.t 56)),(1,(1,.t 58)),(2,(1,.t 60))]),
 .o 12 (.alloc 79 [.s [],.i .i64 0,.s [],.s [],.s [],.b false,.b false]),
 .s 7 12 61]
 (.seq (.s [.w 62 7 12,
 .c 63 76 [.t 62],
 .h 64 63,
 .k 65 .gtr 64 4096]
 (.cond (.t 65)
 (.s [.o 66 (.build [.s [],.i .i64 0,.s [],.s [],.s [],.b false,.b false] []),
 .s 7 2 66,
 .n 3 5]
 (.ret))
 (.skip)))
 (.s [.w 67 7 12,
 .s 7 2 67,
 .n 3 0]
 (.ret)))))))))
theorem hP:FnIs Tryz.prog 108 68 [.celln 2 7,.tmp 3] T9:=⟨⟨_,_,Tryz.func108,rfl,rfl,by kernel_rfl,by kernel_rfl⟩⟩
def UA:SCode :=
 .s [.o 1 (.box 79 (.t 0)),
 .o 2 (.alloc 119 [.s [],.s []]),
 .n 3 0]
 (.seq (.s [.w 12 7 1,
 .c 13 133 [.t 12],
 .o 14 (.not (.t 13))]
 (.cond (.t 14)
 (.s [.o 15 (.build [.s [],.s []] []),
 .s 2 2 15,
 .n 3 8]
 (.ret))
 (.skip)))
 (.s [.f 16 2 1,
 .l 17 16,
 .c 18 95 [.t 17,.c (.i .u8 47)],
 .o 19 (.pu (.rsl 1) [.t 18,.c (.i .i64 1)]),
 .m 4 19]
 (.seq (.s [.f 20 5 1,
 .l 21 20,
 .m 22 21,
 ⟨some 23,.fad 6 (.t 1),some (22,false)⟩,
 ⟨some 24,.load1 (.t 23),some (22,false)⟩,
 .p 25 22 24,
 .m 26 25,
 ⟨some 27,.mv (.t 4),some (26,false)⟩,
 ⟨some 28,.mv (.t 4),some (26,false)⟩,
 ⟨some 29,.lenr (.t 28),some (26,false)⟩,
 ⟨some 30,.bin .sub (.t 29) (.c (.i .i64 1)),some (26,false)⟩,
 ⟨some 31,.iad 1 (.t 27) (.t 30),some (26,false)⟩,
 ⟨some 32,.load1 (.t 31),some (26,false)⟩,
 ⟨some 33,.bin .neq (.t 32) (.c (.s [100,105,100,46,106,115,111,110])),some (26,false)⟩,
 .p 34 26 33]
 (.cond (.t 34)
 (.s [.o 35 (.build [.s [],.s []] []),
 .s 2 2 35,
 .n 3 6]
 (.ret))
 (.skip)))
 (.s [.m 36 4,
 .m 37 4,
 .o 38 (.lenr (.t 37)),
 .k 39 .sub 38 1,
 .o 40 (.trn 1 (.t 36) (.t 39)),
 .m 4 40]
 (.seq (.s [.m 41 4,
 .o 42 (.lenr (.t 41)),
 .k 43 .eql 42 0]
 (.cond (.t 43)
 (.s [.o 44 (.build [.s [],.s []] []),
 .s 2 2 44,
 .n 3 110]
 (.ret))
 (.skip)))
 (.s [.f 45 0 1,
 .l 46 45,
 .m 5 46]
 (.seq (.s [.f 47 1 1,
 .l 48 47,
 .k 49 .neq 48 0]
 (.cond (.t 49)
 (.reg [.m 50 5,
 .f 51 1 1,
 .l 52 51,
 .c 53 132 [.t 52],
 .o 54 (.bin .add (.c (.s [37,51,65])) (.t 53)),
 .b 55 .add 50 54,
 .m 5 55])
 (.skip)))
 (.seq (.s [.m 56 4,
 .o 57 (.lenr (.t 56)),
 .n 58 0]
 (.blk 0
 (.loop
 (.s [.b 59 .lss 58 57]
 (.seq (.cond (.t 59)
 (.skip)
 (.exit 0))
 (.seq (.blk 1
 (.s [.o 60 (.iad 1 (.t 56) (.t 58)),
 .l 61 60,
 .m 7 61]
 (.seq (.s [.n 8 0]
 (.blk 2
 (.loop
 (.seq (.s [.m 62 8,
 .m 63 7,
 .h 64 63,
 .b 65 .lss 62 64]
 (.cond (.t 65)
 (.skip)
 (.exit 2)))
 (.seq (.blk 3
 (.s [.m 68 7,
 .m 69 8,
 .o 70 (.idx (.t 68) (.t 69)),
 .c 71 70 [.t 70],
 .o 72 (.not (.t 71)),
 .m 73 72,
 ⟨some 74,.mv (.t 7),some (73,true)⟩,
 ⟨some 75,.mv (.t 8),some (73,true)⟩,
 ⟨some 76,.idx (.t 74) (.t 75),some (73,true)⟩,
 ⟨some 77,.bin .neq (.t 76) (.c (.i .u8 37)),some (73,true)⟩,
 .o 78 (.pick (.t 73) (.t 77) (.c (.b false)))]
 (.cond (.t 78)
 (.s [.o 79 (.build [.s [],.s []] []),
 .s 2 2 79,
 .n 3 110]
 (.ret))
 (.skip))))
 (.reg [.m 66 8,
 .k 67 .add 66 1,
 .m 8 67]))))))
 (.s [.m 81 7,
 .c 82 71 [.t 81],
 .m 80 82,
 .e 83 80 0,
 .e 84 80 1,
 .m 9 83,
 .m 10 84]
 (.seq (.s [.m 85 9,
 .o 86 (.bin .eql (.t 85) (.c (.s [])))]
 (.cond (.t 86)
 (.s [.o 87 (.build [.s [],.s []] []),
 .s 2 2 87,
 .n 3 110]
 (.ret))
 (.skip)))
 (.s [.f 88 2 1,
 .l 89 88,
 .o 90 (.bin .neq (.t 89) (.c (.s [47,46,119,101,108,108,45,107,110,111,119,110,47,100,105,100,46,106,115,111,110])))]
 (.cond (.t 90)
 (.reg [.m 91 5,
 .m 92 9,
 .c 93 107 [.t 92],
 .o 94 (.bin .add (.c (.s [58])) (.t 93)),
 .b 95 .add 91 94,
 .m 5 95])
 (.skip))))))))
 (.reg [.k 96 .add 58 1,
 .m 58 96])))))))
 (.s [.m 97 5,
 .o 98 (.build [.s [],.s []] [(0,(1,.c (.s [119,101,98]))),(1,(1,.t 97))]),
 .o 11 (.alloc 119 [.s [],.s []]),
 .s 2 11 98]
 (.seq (.s [.w 99 2 11,
 .c 100 80 [.t 99],
 .h 101 100,
 .k 102 .gtr 101 4096]
 (.cond (.t 102)
 (.s [.o 103 (.build [.s [],.s []] []),
 .s 2 2 103,
 .n 3 5]
 (.ret))
 (.skip)))
 (.s [.w 104 2 11,
 .s 2 2 104,
 .n 3 0]
 (.ret))))))))))))
theorem jK:FnIs Tryz.prog 109 105 [.celln 2 2,.tmp 3] UA:=⟨⟨_,_,Tryz.func109,rfl,rfl,by kernel_rfl,by kernel_rfl⟩⟩
def Oo:SCode :=
 .s [.o 1 (.box 119 (.t 0)),
 .o 2 (.mv (.c .nil)),
 .o 3 (.alloc 124 [.s [],.i .i64 0]),
 .n 4 0]
 (.seq (.s [.f 12 0 1,
 .l 13 12,
 .o 14 (.bin .neq (.t 13) (.c (.s [119,101,98])))]
 (.cond (.t 14)
 (.s [.o 15 (.build [.s [],.i .i64 0] []),
 .o 2 (.mv (.c .nil)),
 .s 2 3 15,
 .n 4 100]
 (.ret))
 (.skip)))
 (.seq (.s [.w 17 2 1,
 .c 18 80 [.t 17],
 .c 19 77 [.t 18],
 .m 16 19,
 .e 20 16 0,
 .e 21 16 1,
 .o 5 (.alloc 119 [.s [],.s []]),
 .s 2 5 20,
 .m 6 21]
 (.s [.m 22 6,
 .k 23 .neq 22 0]
 (.cond (.t 23)
 (.s [.o 24 (.build [.s [],.i .i64 0] []),
 .m 25 6,
 .o 2 (.mv (.c .nil)),
 .s 2 3 24,
 .m 4 25]
 (.ret))
 (.skip))))
 (.s [.f 26 1 1,
 .l 27 26,
 .c 28 95 [.t 27,.c (.i .u8 58)],
 .m 7 28]
 (.s [.m 30 7,
 .o 31 (.iad 1 (.t 30) (.c (.i .i64 0))),
 .l 32 31,
 .c 33 71 [.t 32],
 .m 29 33,
 .e 34 29 0,
 .e 35 29 1,
 .m 8 34,
 .m 9 35]
 (.s [.m 37 8,
 .c 38 99 [.t 37],
 .m 36 38,
 .e 39 36 0,
 .e 40 36 1,
 .o 10 (.alloc 124 [.s [],.i .i64 0]),
 .s 2 10 39,
 .m 11 40]
 (.seq (.drw [.m 41 7,
 .w 42 2 10,
 .m 43 11,
 .m 2 41,
 .s 2 3 42,
 .m 4 43] 6 [])
 (.ret)))))))
theorem iA:FnIs Tryz.prog 110 44 [.tmp 2,.celln 3 2,.tmp 4] Oo:=⟨⟨_,_,Tryz.func110,rfl,rfl,by kernel_rfl,by kernel_rfl⟩⟩
def Oz:SCode :=
 .s [.o 2 (.alloc 79 [.s [],.i .i64 0,.s [],.s [],.s [],.b false,.b false]),
 .n 3 0]
 (.seq (.s [.m 8 0,
 .h 9 8,
 .k 10 .gtr 9 4096]
 (.cond (.t 10)
 (.s [.o 11 (.build [.s [],.i .i64 0,.s [],.s [],.s [],.b false,.b false] []),
 .s 7 2 11,
 .n 3 5]
 (.ret))
 (.skip)))
 (.s [.m 13 0,
 .c 14 142 [.t 13],
 .m 12 14,
 .e 15 12 0,
 .e 16 12 1,
 .o 4 (.alloc 150 [.s [],.s [],.s [],.s [],.s [],.b false,.b false,.b false,.b false]),
 .s 9 4 15,
 .m 5 16]
 (.seq (.s [.m 17 5,
 .k 18 .neq 17 0]
 (.cond (.t 18)
 (.s [.o 19 (.build [.s [],.i .i64 0,.s [],.s [],.s [],.b false,.b false] []),
 .m 20 5,
 .s 7 2 19,
 .m 3 20]
 (.ret))
 (.skip)))
 (.s [.w 22 9 4,
 .c 23 143 [.t 22],
 .m 21 23,
 .e 24 21 0,
 .e 25 21 1,
 .o 6 (.alloc 124 [.s [],.i .i64 0]),
 .s 2 6 24,
 .m 5 25]
 (.seq (.s [.m 26 5,
 .k 27 .neq 26 0]
 (.cond (.t 27)
 (.s [.o 28 (.build [.s [],.i .i64 0,.s [],.s [],.s [],.b false,.b false] []),
 .m 29 5,
 .s 7 2 28,
 .m 3 29]
 (.ret))
 (.skip)))
 (.s [.w 31 9 4,
 .c 32 144 [.t 31],
 .m 30 32,
 .e 33 30 0,
 .e 34 30 1,
 .o 7 (.alloc 79 [.s [],.i .i64 0,.s [],.s [],.s [],.b false,.b false]),
 .s 7 7 33,
 .m 5 34]
 (.seq (.s [.m 35 5,
 .k 36 .neq 35 0]
 (.cond (.t 36)
 (.s [.o 37 (.build [.s [],.i .i64 0,.s [],.s [],.s [],.b false,.b false] []),
 .m 38 5,
 .s 7 2 37,
 .m 3 38]
 (.ret))
 (.skip)))
 (.seq (.drw [.f 39 0 6,
 .l 40 39,
 .f 41 1 6,
 .l 42 41,
 .f 43 0 7,
 .s 1 43 40,
 .f 44 1 7,
 .s 1 44 42] 8 [(41,(43,none))])
 (.seq (.s [.w 45 7 7,
 .c 46 117 [.t 45],
 .h 47 46,
 .k 48 .gtr 47 4096]
 (.cond (.t 48)
 (.s [.o 49 (.build [.s [],.i .i64 0,.s [],.s [],.s [],.b false,.b false] []),
 .s 7 2 49,
 .n 3 5]
 (.ret))
 (.skip)))
 (.s [.w 50 7 7,
 .s 7 2 50,
 .n 3 0]
 (.ret)))))))))))
theorem iS:FnIs Tryz.prog 116 51 [.celln 2 7,.tmp 3] Oz:=⟨⟨_,_,Tryz.func116,rfl,rfl,by kernel_rfl,by kernel_rfl⟩⟩
def UB:SCode :=
 .s [.o 1 (.box 79 (.t 0)),
 .z 2]
 (.seq (.drw [.w 4 7 1,
 .c 5 146 [.t 4],
 .c 6 145 [.t 5],
 .o 7 (.bin .add (.c (.s [104,116,116,112,115,58,47,47])) (.t 6)),
 .w 8 7 1,
 .c 9 147 [.t 8],
 .b 10 .add 7 9,
 .m 3 10] 8 [])
 (.seq (.s [.f 11 6 1,
 .l 12 11]
 (.cond (.t 12)
 (.reg [.m 13 3,
 .f 14 4 1,
 .l 15 14,
 .o 16 (.bin .add (.c (.s [35])) (.t 15)),
 .b 17 .add 13 16,
 .m 3 17])
 (.skip)))
 (.s [.m 18 3,
 .m 2 18]
 (.ret))))
theorem jL:FnIs Tryz.prog 117 19 [.tmp 2] UB:=⟨⟨_,_,Tryz.func117,rfl,rfl,by kernel_rfl,by kernel_rfl⟩⟩
def Ox:SCode :=
 .s [.o 2 (.alloc 119 [.s [],.s []]),
 .n 3 0]
 (.seq (.s [.m 9 0,
 .h 10 9,
 .k 11 .gtr 10 4096]
 (.cond (.t 11)
 (.s [.o 12 (.build [.s [],.s []] []),
 .s 2 2 12,
 .n 3 5]
 (.ret))
 (.skip)))
 (.s [.m 14 0,
 .c 15 148 [.t 14,.c (.s [100,105,100,58])],
 .m 13 15,
 .e 16 13 0,
 .e 17 13 1,
 .m 4 16,
 .m 5 17]
 (.seq (.s [.m 18 5,
 .o 19 (.not (.t 18))]
 (.cond (.t 19)
 (.s [.o 20 (.build [.s [],.s []] []),
 .s 2 2 20,
 .n 3 60]
 (.ret))
 (.skip)))
 (.s [.m 22 4,
 .c 23 88 [.t 22,.c (.s [58])],
 .m 21 23,
 .e 24 21 0,
 .e 25 21 1,
 .e 26 21 2,
 .m 6 24,
 .m 7 25,
 .m 5 26]
 (.seq (.s [.m 27 5,
 .o 28 (.not (.t 27))]
 (.cond (.t 28)
 (.s [.o 29 (.build [.s [],.s []] []),
 .s 2 2 29,
 .n 3 6]
 (.ret))
 (.skip)))
 (.seq (.s [.m 30 6,
 .c 31 149 [.t 30],
 .o 32 (.not (.t 31))]
 (.cond (.t 32)
 (.s [.o 33 (.build [.s [],.s []] []),
 .s 2 2 33,
 .n 3 100]
 (.ret))
 (.skip)))
 (.s [.m 35 7,
 .c 36 150 [.t 35],
 .m 34 36,
 .e 37 34 0,
 .e 38 34 1,
 .m 7 37,
 .m 8 38]
 (.seq (.s [.m 39 8,
 .k 40 .neq 39 0]
 (.cond (.t 40)
 (.s [.o 41 (.build [.s [],.s []] []),
 .m 42 8,
 .s 2 2 41,
 .m 3 42]
 (.ret))
 (.skip)))
 (.s [.m 43 6,
 .m 44 7,
 .o 45 (.build [.s [],.s []] [(0,(1,.t 43)),(1,(1,.t 44))]),
 .s 2 2 45,
 .n 3 0]
 (.ret))))))))))
theorem iH:FnIs Tryz.prog 118 46 [.celln 2 2,.tmp 3] Ox:=⟨⟨_,_,Tryz.func118,rfl,rfl,by kernel_rfl,by kernel_rfl⟩⟩
def UJ:SCode :=
 .s [.o 1 (.box 119 (.t 0)),
 .o 2 (.alloc 119 [.s [],.s []]),
 .n 3 0]
 (.s [.w 7 2 1,
 .c 8 151 [.t 7],
 .m 6 8,
 .e 9 6 0,
 .e 10 6 1,
 .o 4 (.alloc 79 [.s [],.i .i64 0,.s [],.s [],.s [],.b false,.b false]),
 .s 7 4 9,
 .m 5 10]
 (.seq (.s [.m 11 5,
 .k 12 .neq 11 0]
 (.cond (.t 12)
 (.s [.o 13 (.build [.s [],.s []] []),
 .m 14 5,
 .s 2 2 13,
 .m 3 14]
 (.ret))
 (.skip)))
 (.s [.w 15 7 4,
 .c 16 152 [.t 15],
 .e 17 16 0,
 .e 18 16 1,
 .s 2 2 17,
 .m 3 18]
 (.ret))))
theorem kE:FnIs Tryz.prog 119 19 [.celln 2 2,.tmp 3] UJ:=⟨⟨_,_,Tryz.func119,rfl,rfl,by kernel_rfl,by kernel_rfl⟩⟩
def OG:SCode :=
 .s [.o 1 (.box 119 (.t 0)),
 .o 2 (.alloc 124 [.s [],.i .i64 0]),
 .n 3 0]
 (.seq (.s [.f 11 0 1,
 .l 12 11,
 .o 13 (.bin .neq (.t 12) (.c (.s [119,101,98])))]
 (.cond (.t 13)
 (.s [.o 14 (.build [.s [],.i .i64 0] []),
 .s 2 2 14,
 .n 3 100]
 (.ret))
 (.skip)))
 (.seq (.s [.w 16 2 1,
 .c 17 121 [.t 16],
 .c 18 118 [.t 17],
 .m 15 18,
 .e 19 15 0,
 .e 20 15 1,
 .o 4 (.alloc 119 [.s [],.s []]),
 .s 2 4 19,
 .m 5 20]
 (.s [.m 21 5,
 .k 22 .neq 21 0]
 (.cond (.t 22)
 (.s [.o 23 (.build [.s [],.i .i64 0] []),
 .m 24 5,
 .s 2 2 23,
 .m 3 24]
 (.ret))
 (.skip))))
 (.s [.f 26 1 1,
 .l 27 26,
 .c 28 88 [.t 27,.c (.s [58])],
 .m 25 28,
 .e 29 25 0,
 .e 30 25 1,
 .e 31 25 2,
 .m 6 29,
 .m 7 30,
 .m 8 31]
 (.s [.m 33 6,
 .c 34 153 [.t 33],
 .m 32 34,
 .e 35 32 0,
 .e 36 32 1,
 .m 9 35,
 .m 10 36]
 (.seq (.s [.m 37 10,
 .k 38 .neq 37 0]
 (.cond (.t 38)
 (.s [.o 39 (.build [.s [],.i .i64 0] []),
 .m 40 10,
 .s 2 2 39,
 .m 3 40]
 (.ret))
 (.skip)))
 (.s [.m 41 9,
 .c 42 154 [.t 41],
 .e 43 42 0,
 .e 44 42 1,
 .s 2 2 43,
 .m 3 44]
 (.ret)))))))
theorem kD:FnIs Tryz.prog 120 45 [.celln 2 2,.tmp 3] OG:=⟨⟨_,_,Tryz.func120,rfl,rfl,by kernel_rfl,by kernel_rfl⟩⟩
def UF:SCode :=
 .s [.o 1 (.box 119 (.t 0)),
 .z 2]
 (.s [.f 3 0 1,
 .l 4 3,
 .o 5 (.bin .add (.c (.s [100,105,100,58])) (.t 4)),
 .o 6 (.bin .add (.t 5) (.c (.s [58]))),
 .f 7 1 1,
 .l 8 7,
 .b 9 .add 6 8,
 .m 2 9]
 (.ret))
theorem jG:FnIs Tryz.prog 121 10 [.tmp 2] UF:=⟨⟨_,_,Tryz.func121,rfl,rfl,by kernel_rfl,by kernel_rfl⟩⟩
def OE:SCode :=
 .s [.z 2]
 (.seq (.s [.m 3 0,
 .k 4 .lss 3 0]
 (.cond (.t 4)
 (.s [.m 5 0,
 .k 6 .add 5 1,
 .o 7 (.neg (.t 6)),
 .o 8 (.cvi .u64 (.t 7)),
 .o 9 (.bin .add (.t 8) (.c (.i .u64 1))),
 .c 10 157 [.t 9],
 .o 11 (.bin .add (.c (.s [45])) (.t 10)),
 .m 2 11]
 (.ret))
 (.skip)))
 (.s [.m 12 0,
 .o 13 (.cvi .u64 (.t 12)),
 .c 14 157 [.t 13],
 .m 2 14]
 (.ret)))
theorem jI:FnIs Tryz.prog 132 15 [.tmp 2] OE:=⟨⟨_,_,Tryz.func132,rfl,rfl,by kernel_rfl,by kernel_rfl⟩⟩
def T7:SCode :=
 .s [.o 1 (.box 79 (.t 0)),
 .o 2 (.mv (.c (.b false)))]
 (.s [.w 6 7 1,
 .c 7 76 [.t 6],
 .c 8 75 [.t 7],
 .m 5 8,
 .e 9 5 0,
 .e 10 5 1,
 .o 3 (.alloc 79 [.s [],.i .i64 0,.s [],.s [],.s [],.b false,.b false]),
 .s 7 3 9,
 .m 4 10]
 (.s [.m 11 4,
 .k 12 .eql 11 0,
 .m 13 12,
 ⟨some 14,.loadn 7 (.t 1),some (13,true)⟩,
 ⟨some 15,.loadn 7 (.t 3),some (13,true)⟩,
 ⟨some 16,.eqs false (.str [(0,(none,.ts)),(1,(none,.ti)),(2,(none,.ts)),(3,(none,.ts)),(4,(none,.ts)),(5,(none,.tb)),(6,(none,.tb))]) (.t 14) (.t 15),some (13,true)⟩,
 .o 17 (.pick (.t 13) (.t 16) (.c (.b false))),
 .m 2 17]
 (.ret)))
theorem hC:FnIs Tryz.prog 133 18 [.tmp 2] T7:=⟨⟨_,_,Tryz.func133,rfl,rfl,by kernel_rfl,by kernel_rfl⟩⟩
def Tm:SCode :=
 .s [.o 2 (.alloc 150 [.s [],.s [],.s [],.s [],.s [],.b false,.b false,.b false,.b false]),
 .n 3 0]
 (.seq (.s [.m 10 0,
 .h 11 10,
 .k 12 .gtr 11 16384]
 (.cond (.t 12)
 (.s [.o 13 (.build [.s [],.s [],.s [],.s [],.s [],.b false,.b false,.b false,.b false] []),
 .s 9 2 13,
 .n 3 5]
 (.ret))
 (.skip)))
 (.s [.m 14 0,
 .o 4 (.alloc 9 [.s []]),
 .s 1 4 14]
 (.s [.o 15 (.mkf 168 [] [.t 4]),
 .m 5 15]
 (.s [.o 6 (.alloc 150 [.s [],.s [],.s [],.s [],.s [],.b false,.b false,.b false,.b false])]
 (.s [.m 17 5,
 .o 18 (.callv (.t 17) [.c (.i .u8 35)]),
 .m 16 18,
 .e 19 16 0,
 .e 20 16 1,
 .f 21 4 6,
 .s 1 21 19,
 .f 22 8 6,
 .s 1 22 20]
 (.s [.m 24 5,
 .o 25 (.callv (.t 24) [.c (.i .u8 63)]),
 .m 23 25,
 .e 26 23 0,
 .e 27 23 1,
 .f 28 3 6,
 .s 1 28 26,
 .f 29 7 6,
 .s 1 29 27]
 (.seq (.s [.l 30 4,
 .c 31 170 [.t 30],
 .m 7 31]
 (.s [.m 32 7,
 .k 33 .geq 32 0]
 (.cond (.t 33)
 (.seq (.s [.l 34 4,
 .m 35 7,
 .o 36 (.slcs (.t 34) none (some (.t 35))),
 .c 37 171 [.t 36],
 .o 38 (.not (.t 37))]
 (.cond (.t 38)
 (.s [.o 39 (.build [.s [],.s [],.s [],.s [],.s [],.b false,.b false,.b false,.b false] []),
 .s 9 2 39,
 .n 3 6]
 (.ret))
 (.skip)))
 (.drw [.l 40 4,
 .m 41 7,
 .o 42 (.slcs (.t 40) none (some (.t 41))),
 .l 43 4,
 .m 44 7,
 .k 45 .add 44 1,
 .o 46 (.slcs (.t 43) (some (.t 45)) none),
 .f 47 0 6,
 .s 1 47 42,
 .f 48 5 6,
 ⟨none,.store 1 (.t 48) (.c (.b true)),none⟩,
 .s 1 4 46] 12 [(4,(47,none)),(4,(48,none))]))
 (.skip))))
 (.seq (.s [.l 50 4,
 .c 51 148 [.t 50,.c (.s [47,47])],
 .m 49 51,
 .e 52 49 0,
 .e 53 49 1,
 .m 8 52,
 .m 9 53]
 (.s [.m 54 9]
 (.cond (.t 54)
 (.s [.m 55 8,
 .c 56 172 [.t 55],
 .f 57 1 6,
 .s 1 57 56,
 .f 58 6 6,
 ⟨none,.store 1 (.t 58) (.c (.b true)),none⟩]
 (.reg [.m 59 8,
 .f 60 1 6,
 .l 61 60,
 .h 62 61,
 .o 63 (.slcs (.t 59) (some (.t 62)) none),
 .s 1 4 63]))
 (.skip))))
 (.s [.l 64 4,
 .f 65 2 6,
 .s 1 65 64]
 (.s [.w 66 9 6,
 .s 9 2 66,
 .n 3 0]
 (.ret)))))))))))
theorem fM:FnIs Tryz.prog 142 67 [.celln 2 9,.tmp 3] Tm:=⟨⟨_,_,Tryz.func142,rfl,rfl,by kernel_rfl,by kernel_rfl⟩⟩
def IU:SCode :=
 .s [.o 1 (.box 150 (.t 0)),
 .o 2 (.alloc 124 [.s [],.i .i64 0]),
 .n 3 0]
 (.seq (.blk 0
 (.s [.f 5 5 1,
 .l 6 5,
 .o 7 (.not (.t 6)),
 .m 8 7,
 ⟨some 9,.fad 0 (.t 1),some (8,false)⟩,
 ⟨some 10,.load1 (.t 9),some (8,false)⟩,
 ⟨some 11,.call 134 [.t 10,.c (.s [104,116,116,112,115])],some (8,false)⟩,
 ⟨some 12,.not (.t 11),some (8,false)⟩,
 .p 13 8 12,
 .m 4 13]
 (.cond (.t 4)
 (.s [.o 14 (.build [.s [],.i .i64 0] []),
 .s 2 2 14,
 .n 3 60]
 (.ret))
 (.s [.f 16 6 1,
 .l 17 16,
 .o 18 (.not (.t 17)),
 .m 15 18]
 (.cond (.t 15)
 (.s [.o 19 (.build [.s [],.i .i64 0] []),
 .s 2 2 19,
 .n 3 71]
 (.ret))
 (.s [.f 21 1 1,
 .l 22 21,
 .c 23 173 [.t 22,.c (.s [64])],
 .m 20 23]
 (.cond (.t 20)
 (.s [.o 24 (.build [.s [],.i .i64 0] []),
 .s 2 2 24,
 .n 3 70]
 (.ret))
 (.skip))))))))
 (.s [.f 25 1 1,
 .l 26 25,
 .c 27 154 [.t 26],
 .e 28 27 0,
 .e 29 27 1,
 .s 2 2 28,
 .m 3 29]
 (.ret)))
theorem kV:FnIs Tryz.prog 143 30 [.celln 2 2,.tmp 3] IU:=⟨⟨_,_,Tryz.func143,rfl,rfl,by kernel_rfl,by kernel_rfl⟩⟩
def UL:SCode :=
 .s [.o 1 (.box 150 (.t 0)),
 .o 2 (.alloc 79 [.s [],.i .i64 0,.s [],.s [],.s [],.b false,.b false]),
 .n 3 0]
 (.s [.f 9 2 1,
 .l 10 9,
 .c 11 136 [.t 10,.c (.s [33,36,38,39,40,41,42,43,44,59,61,58,64,47])],
 .m 8 11,
 .e 12 8 0,
 .e 13 8 1,
 .m 4 12,
 .m 5 13]
 (.seq (.s [.m 14 5,
 .k 15 .neq 14 0]
 (.cond (.t 15)
 (.s [.o 16 (.build [.s [],.i .i64 0,.s [],.s [],.s [],.b false,.b false] []),
 .m 17 5,
 .s 7 2 16,
 .m 3 17]
 (.ret))
 (.skip)))
 (.seq (.s [.m 18 4,
 .c 19 174 [.t 18],
 .m 4 19]
 (.s [.m 20 4,
 .o 21 (.bin .eql (.t 20) (.c (.s [])))]
 (.cond (.t 21)
 (.reg [.o 4 (.mv (.c (.s [47])))])
 (.skip))))
 (.s [.f 23 3 1,
 .l 24 23,
 .c 25 136 [.t 24,.c (.s [33,36,38,39,40,41,42,43,44,59,61,58,64,47,63])],
 .m 22 25,
 .e 26 22 0,
 .e 27 22 1,
 .m 6 26,
 .m 5 27]
 (.seq (.s [.m 28 5,
 .k 29 .neq 28 0]
 (.cond (.t 29)
 (.s [.o 30 (.build [.s [],.i .i64 0,.s [],.s [],.s [],.b false,.b false] []),
 .m 31 5,
 .s 7 2 30,
 .m 3 31]
 (.ret))
 (.skip)))
 (.s [.f 33 4 1,
 .l 34 33,
 .c 35 136 [.t 34,.c (.s [33,36,38,39,40,41,42,43,44,59,61,58,64,47,63])],
 .m 32 35,
 .e 36 32 0,
 .e 37 32 1,
 .m 7 36,
 .m 5 37]
 (.seq (.s [.m 38 5,
 .k 39 .neq 38 0]
 (.cond (.t 39)
 (.s [.o 40 (.build [.s [],.i .i64 0,.s [],.s [],.s [],.b false,.b false] []),
 .m 41 5,
 .s 7 2 40,
 .m 3 41]
 (.ret))
 (.skip)))
 (.s [.m 42 4,
 .m 43 6,
 .f 44 7 1,
 .l 45 44,
 .m 46 7,
 .f 47 8 1,
 .l 48 47,
 .o 49 (.build [.s [],.i .i64 0,.s [],.s [],.s [],.b false,.b false] [(2,(1,.t 42)),(3,(1,.t 43)),(5,(1,.t 45)),(4,(1,.t 46)),(6,(1,.t 48))]),
 .s 7 2 49,
 .n 3 0]
 (.ret)))))))))
theorem kH:FnIs Tryz.prog 144 50 [.celln 2 7,.tmp 3] UL:=⟨⟨_,_,Tryz.func144,rfl,rfl,by kernel_rfl,by kernel_rfl⟩⟩
def Ol:SCode :=
 .s [.o 1 (.box 124 (.t 0)),
 .z 2]
 (.seq (.s [.f 3 1 1,
 .l 4 3,
 .k 5 .eql 4 0]
 (.cond (.t 5)
 (.s [.f 6 0 1,
 .l 7 6,
 .m 2 7]
 (.ret))
 (.skip)))
 (.seq (.drw [.f 8 0 1,
 .l 9 8,
 .o 10 (.bin .add (.t 9) (.c (.s [58]))),
 .f 11 1 1,
 .l 12 11,
 .c 13 175 [.t 12],
 .b 14 .add 10 13,
 .m 2 14] 8 [])
 (.ret)))
theorem gV:FnIs Tryz.prog 145 15 [.tmp 2] Ol:=⟨⟨_,_,Tryz.func145,rfl,rfl,by kernel_rfl,by kernel_rfl⟩⟩
def UC:SCode :=
 .s [.o 1 (.box 79 (.t 0)),
 .o 2 (.alloc 124 [.s [],.i .i64 0])]
 (.s [.f 3 0 1,
 .l 4 3,
 .f 5 1 1,
 .l 6 5,
 .o 7 (.build [.s [],.i .i64 0] [(0,(1,.t 4)),(1,(1,.t 6))]),
 .s 2 2 7]
 (.ret))
theorem jM:FnIs Tryz.prog 146 8 [.celln 2 2] UC:=⟨⟨_,_,Tryz.func146,rfl,rfl,by kernel_rfl,by kernel_rfl⟩⟩
def UD:SCode :=
 .s [.o 1 (.box 79 (.t 0)),
 .z 2]
 (.seq (.s [.f 3 5 1,
 .l 4 3,
 .o 5 (.not (.t 4))]
 (.cond (.t 5)
 (.s [.f 6 2 1,
 .l 7 6,
 .m 2 7]
 (.ret))
 (.skip)))
 (.s [.f 8 2 1,
 .l 9 8,
 .o 10 (.bin .add (.t 9) (.c (.s [63]))),
 .f 11 3 1,
 .l 12 11,
 .b 13 .add 10 12,
 .m 2 13]
 (.ret)))
theorem jN:FnIs Tryz.prog 147 14 [.tmp 2] UD:=⟨⟨_,_,Tryz.func147,rfl,rfl,by kernel_rfl,by kernel_rfl⟩⟩
def Uf:SCode :=
 .s [.o 2 (.mv (.c (.b false)))]
 (.seq (.s [.m 4 0,
 .h 5 4,
 .n 6 0]
 (.blk 0
 (.loop
 (.s [.b 7 .lss 6 5]
 (.seq (.cond (.t 7)
 (.skip)
 (.exit 0))
 (.seq (.blk 1
 (.s [.m 8 6,
 .m 3 8]
 (.s [.m 9 0,
 .m 10 3,
 .o 11 (.idx (.t 9) (.t 10)),
 .c 12 177 [.t 11],
 .o 13 (.not (.t 12)),
 .m 14 13,
 ⟨some 15,.mv (.t 0),some (14,true)⟩,
 ⟨some 16,.mv (.t 3),some (14,true)⟩,
 ⟨some 17,.idx (.t 15) (.t 16),some (14,true)⟩,
 ⟨some 18,.bin .lss (.t 17) (.c (.i .u8 97)),some (14,true)⟩,
 ⟨some 19,.mv (.t 18),some (14,true)⟩,
 ⟨some 20,.mv (.t 0),some (19,false)⟩,
 ⟨some 21,.mv (.t 3),some (19,false)⟩,
 ⟨some 22,.idx (.t 20) (.t 21),some (19,false)⟩,
 ⟨some 23,.bin .gtr (.t 22) (.c (.i .u8 122)),some (19,false)⟩,
 ⟨some 24,.pick (.t 19) (.c (.b true)) (.t 23),some (14,true)⟩,
 .o 25 (.pick (.t 14) (.t 24) (.c (.b false)))]
 (.cond (.t 25)
 (.s [.o 2 (.mv (.c (.b false)))]
 (.ret))
 (.skip)))))
 (.reg [.k 26 .add 6 1,
 .m 6 26])))))))
 (.s [.m 27 0,
 .o 28 (.bin .neq (.t 27) (.c (.s []))),
 .m 2 28]
 (.ret)))
theorem iJ:FnIs Tryz.prog 149 29 [.tmp 2] Uf:=⟨⟨_,_,Tryz.func149,rfl,rfl,by kernel_rfl,by kernel_rfl⟩⟩
def T0:SCode :=
 .s [.z 2,
 .n 3 0]
 (.seq (.s [.m 10 0,
 .c 11 153 [.t 10],
 .m 9 11,
 .e 12 9 0,
 .e 13 9 1,
 .m 4 12,
 .m 5 13]
 (.s [.m 14 5,
 .k 15 .neq 14 0]
 (.cond (.t 15)
 (.s [.m 16 5,
 .z 2,
 .m 3 16]
 (.ret))
 (.skip))))
 (.seq (.s [.m 17 0,
 .h 18 17,
 .n 19 0]
 (.blk 0
 (.loop
 (.s [.b 20 .lss 19 18]
 (.seq (.cond (.t 20)
 (.skip)
 (.exit 0))
 (.seq (.blk 1
 (.s [.m 21 19,
 .m 6 21]
 (.s [.m 22 0,
 .m 23 6,
 .o 24 (.idx (.t 22) (.t 23)),
 .o 25 (.bin .neq (.t 24) (.c (.i .u8 37))),
 .m 26 25,
 ⟨some 27,.mv (.t 0),some (26,true)⟩,
 ⟨some 28,.mv (.t 6),some (26,true)⟩,
 ⟨some 29,.idx (.t 27) (.t 28),some (26,true)⟩,
 ⟨some 30,.call 178 [.t 29],some (26,true)⟩,
 ⟨some 31,.not (.t 30),some (26,true)⟩,
 .o 32 (.pick (.t 26) (.t 31) (.c (.b false)))]
 (.cond (.t 32)
 (.s [.z 2,
 .n 3 1]
 (.ret))
 (.skip)))))
 (.reg [.k 33 .add 19 1,
 .m 19 33])))))))
 (.seq (.s [.m 34 0,
 .o 35 (.bin .eql (.t 34) (.c (.s []))),
 .m 36 35,
 ⟨some 37,.mv (.t 0),some (36,false)⟩,
 ⟨some 38,.mv (.t 0),some (36,false)⟩,
 ⟨some 39,.lens (.t 38),some (36,false)⟩,
 ⟨some 40,.bin .sub (.t 39) (.c (.i .i64 1)),some (36,false)⟩,
 ⟨some 41,.idx (.t 37) (.t 40),some (36,false)⟩,
 ⟨some 42,.bin .eql (.t 41) (.c (.i .u8 58)),some (36,false)⟩,
 .p 43 36 42]
 (.cond (.t 43)
 (.s [.z 2,
 .n 3 3]
 (.ret))
 (.skip)))
 (.s [.m 45 0,
 .c 46 136 [.t 45,.c (.s [46,45,95,58])],
 .m 44 46,
 .e 47 44 0,
 .e 48 44 1,
 .m 7 47,
 .m 8 48]
 (.seq (.s [.m 49 8,
 .k 50 .neq 49 0]
 (.cond (.t 50)
 (.s [.m 51 8,
 .z 2,
 .m 3 51]
 (.ret))
 (.skip)))
 (.s [.m 52 7,
 .c 53 179 [.t 52,.c (.s [126]),.c (.s [37,55,69])],
 .m 2 53,
 .n 3 0]
 (.ret)))))))
theorem gT:FnIs Tryz.prog 150 54 [.tmp 2,.tmp 3] T0:=⟨⟨_,_,Tryz.func150,rfl,rfl,by kernel_rfl,by kernel_rfl⟩⟩
def Ug:SCode :=
 .s [.o 1 (.box 119 (.t 0)),
 .o 2 (.alloc 79 [.s [],.i .i64 0,.s [],.s [],.s [],.b false,.b false]),
 .n 3 0]
 (.s [.w 11 2 1,
 .c 12 120 [.t 11],
 .m 10 12,
 .e 13 10 0,
 .e 14 10 1,
 .o 4 (.alloc 124 [.s [],.i .i64 0]),
 .s 2 4 13,
 .m 5 14]
 (.seq (.s [.m 15 5,
 .k 16 .neq 15 0]
 (.cond (.t 16)
 (.s [.o 17 (.build [.s [],.i .i64 0,.s [],.s [],.s [],.b false,.b false] []),
 .m 18 5,
 .s 7 2 17,
 .m 3 18]
 (.ret))
 (.skip)))
 (.s [.f 19 0 4,
 .l 20 19,
 .f 21 1 4,
 .l 22 21,
 .o 23 (.build [.s [],.i .i64 0,.s [],.s [],.s [],.b false,.b false] [(0,(1,.t 20)),(1,(1,.t 22)),(2,(1,.c (.s [47,46,119,101,108,108,45,107,110,111,119,110,47,100,105,100,46,106,115,111,110])))]),
 .o 6 (.alloc 79 [.s [],.i .i64 0,.s [],.s [],.s [],.b false,.b false]),
 .s 7 6 23]
 (.seq (.s [.f 24 1 1,
 .l 25 24,
 .c 26 180 [.t 25,.c (.s [58])],
 .o 27 (.pu (.rsl 1) [.t 26,.c (.i .i64 1)]),
 .m 7 27]
 (.s [.m 28 7,
 .o 29 (.lenr (.t 28)),
 .k 30 .gtr 29 0]
 (.cond (.t 30)
 (.s [.o 8 (.alloc 185 [.o (.pointer none),.nil])]
 (.seq (.s [.m 31 7,
 .o 32 (.mkf 182 [.t 8] []),
 .c 33 181 [.t 31,.t 32],
 .m 9 33]
 (.s [.m 34 9,
 .k 35 .neq 34 0]
 (.cond (.t 35)
 (.s [.o 36 (.build [.s [],.i .i64 0,.s [],.s [],.s [],.b false,.b false] []),
 .m 37 9,
 .s 7 2 36,
 .m 3 37]
 (.ret))
 (.skip))))
 (.reg [.f 38 0 8,
 .c 39 183 [.t 38],
 .o 40 (.bin .add (.t 39) (.c (.s [47]))),
 .o 41 (.bin .add (.t 40) (.c (.s [100,105,100,46,106,115,111,110]))),
 .f 42 2 6,
 .s 1 42 41])))
 (.skip))))
 (.seq (.s [.w 43 7 6,
 .c 44 117 [.t 43],
 .h 45 44,
 .k 46 .gtr 45 4096]
 (.cond (.t 46)
 (.s [.o 47 (.build [.s [],.i .i64 0,.s [],.s [],.s [],.b false,.b false] []),
 .s 7 2 47,
 .n 3 5]
 (.ret))
 (.skip)))
 (.s [.w 48 7 6,
 .s 7 2 48,
 .n 3 0]
 (.ret)))))))
theorem iK:FnIs Tryz.prog 151 49 [.celln 2 7,.tmp 3] Ug:=⟨⟨_,_,Tryz.func151,rfl,rfl,by kernel_rfl,by kernel_rfl⟩⟩
def Uu:SCode :=
 .s [.o 1 (.box 79 (.t 0)),
 .o 2 (.alloc 119 [.s [],.s []]),
 .n 3 0]
 (.seq (.s [.w 9 7 1,
 .c 10 184 [.t 9],
 .o 11 (.not (.t 10))]
 (.cond (.t 11)
 (.s [.o 12 (.build [.s [],.s []] []),
 .s 2 2 12,
 .n 3 8]
 (.ret))
 (.skip)))
 (.s [.f 13 2 1,
 .l 14 13,
 .c 15 180 [.t 14,.c (.s [47])],
 .o 16 (.pu (.rsl 1) [.t 15,.c (.i .i64 1)]),
 .m 4 16]
 (.s [.m 17 4,
 .o 18 (.lenr (.t 17)),
 .k 19 .sub 18 1,
 .m 5 19]
 (.seq (.s [.f 20 5 1,
 .l 21 20,
 .m 22 21,
 ⟨some 23,.fad 6 (.t 1),some (22,false)⟩,
 ⟨some 24,.load1 (.t 23),some (22,false)⟩,
 .p 25 22 24,
 .m 26 25,
 ⟨some 27,.mv (.t 4),some (26,false)⟩,
 ⟨some 28,.mv (.t 5),some (26,false)⟩,
 ⟨some 29,.iad 1 (.t 27) (.t 28),some (26,false)⟩,
 ⟨some 30,.load1 (.t 29),some (26,false)⟩,
 ⟨some 31,.bin .neq (.t 30) (.c (.s [100,105,100,46,106,115,111,110])),some (26,false)⟩,
 .p 32 26 31]
 (.cond (.t 32)
 (.s [.o 33 (.build [.s [],.s []] []),
 .s 2 2 33,
 .n 3 6]
 (.ret))
 (.skip)))
 (.s [.o 6 (.alloc 189 [.o (.pointer none),.nil])]
 (.s [.w 34 7 1,
 .c 35 146 [.t 34],
 .c 36 185 [.t 6,.t 35]]
 (.seq (.s [.f 37 2 1,
 .l 38 37,
 .o 39 (.bin .neq (.t 38) (.c (.s [47,46,119,101,108,108,45,107,110,111,119,110,47,100,105,100,46,106,115,111,110])))]
 (.cond (.t 39)
 (.seq (.s [.m 40 5,
 .k 41 .eql 40 0]
 (.cond (.t 41)
 (.s [.o 42 (.build [.s [],.s []] []),
 .s 2 2 42,
 .n 3 110]
 (.ret))
 (.skip)))
 (.s [.m 43 4,
 .m 44 5,
 .o 45 (.trn 1 (.t 43) (.t 44)),
 .o 46 (.mkf 186 [.t 6] []),
 .c 47 181 [.t 45,.t 46],
 .m 7 47]
 (.s [.m 48 7,
 .k 49 .neq 48 0]
 (.cond (.t 49)
 (.s [.o 50 (.build [.s [],.s []] []),
 .m 51 7,
 .s 2 2 50,
 .m 3 51]
 (.ret))
 (.skip)))))
 (.skip)))
 (.s [.f 52 0 6,
 .c 53 183 [.t 52],
 .o 54 (.build [.s [],.s []] [(0,(1,.c (.s [119,101,98]))),(1,(1,.t 53))]),
 .o 8 (.alloc 119 [.s [],.s []]),
 .s 2 8 54]
 (.seq (.s [.w 55 2 8,
 .c 56 121 [.t 55],
 .h 57 56,
 .k 58 .gtr 57 4096]
 (.cond (.t 58)
 (.s [.o 59 (.build [.s [],.s []] []),
 .s 2 2 59,
 .n 3 5]
 (.ret))
 (.skip)))
 (.s [.w 60 2 8,
 .s 2 2 60,
 .n 3 0]
 (.ret)))))))))))
theorem jA:FnIs Tryz.prog 152 61 [.celln 2 2,.tmp 3] Uu:=⟨⟨_,_,Tryz.func152,rfl,rfl,by kernel_rfl,by kernel_rfl⟩⟩
def Ub:SCode :=
 .s [.z 3,
 .o 4 (.mv (.c (.b false)))]
 (.s [.l 7 1,
 .m 8 0,
 .c 9 169 [.t 7,.t 8],
 .m 5 9]
 (.seq (.s [.m 10 5,
 .k 11 .lss 10 0]
 (.cond (.t 11)
 (.s [.z 3,
 .o 4 (.mv (.c (.b false)))]
 (.ret))
 (.skip)))
 (.s [.l 12 1,
 .m 13 5,
 .k 14 .add 13 1,
 .o 15 (.slcs (.t 12) (some (.t 14)) none),
 .m 6 15]
 (.s [.l 16 1,
 .m 17 5,
 .o 18 (.slcs (.t 16) none (some (.t 17))),
 .s 1 1 18]
 (.s [.m 19 6,
 .m 3 19,
 .o 4 (.mv (.c (.b true)))]
 (.ret))))))
theorem iD:FnIs Tryz.prog 168 20 [.tmp 3,.tmp 4] Ub:=⟨⟨_,_,Tryz.func168,rfl,rfl,by kernel_rfl,by kernel_rfl⟩⟩
def Ue:SCode :=
 .s [.o 2 (.mv (.c (.b false)))]
 (.s [.m 3 0,
 .c 4 206 [.t 3],
 .m 5 4,
 ⟨some 6,.mv (.t 0),some (5,false)⟩,
 ⟨some 7,.call 177 [.t 6],some (5,false)⟩,
 .p 8 5 7,
 .m 9 8,
 ⟨some 10,.mv (.t 0),some (9,false)⟩,
 ⟨some 11,.call 169 [.c (.s [46,45,95,58]),.t 10],some (9,false)⟩,
 ⟨some 12,.bin .geq (.t 11) (.c (.i .i64 0)),some (9,false)⟩,
 .p 13 9 12,
 .m 2 13]
 (.ret))
theorem iI:FnIs Tryz.prog 178 14 [.tmp 2] Ue:=⟨⟨_,_,Tryz.func178,rfl,rfl,by kernel_rfl,by kernel_rfl⟩⟩
def T1:SCode :=
 .s [.n 4 0]
 (.seq (.s [.m 8 0,
 .o 9 (.lenr (.t 8)),
 .n 10 0]
 (.blk 0
 (.loop
 (.s [.b 11 .lss 10 9]
 (.seq (.cond (.t 11)
 (.skip)
 (.exit 0))
 (.seq (.blk 1
 (.s [.o 12 (.iad 1 (.t 8) (.t 10)),
 .l 13 12,
 .m 6 13]
 (.s [.m 14 1,
 .m 15 6,
 .o 16 (.callv (.t 14) [.t 15]),
 .m 7 16]
 (.s [.m 17 7,
 .k 18 .neq 17 0]
 (.cond (.t 18)
 (.s [.m 19 7,
 .m 4 19]
 (.ret))
 (.skip))))))
 (.reg [.k 20 .add 10 1,
 .m 10 20])))))))
 (.s [.n 4 0]
 (.ret)))
theorem gU:FnIs Tryz.prog 181 21 [.tmp 4] T1:=⟨⟨_,_,Tryz.func181,rfl,rfl,by kernel_rfl,by kernel_rfl⟩⟩
def Vb:SCode :=
 .s [.n 4 0]
 (.s [.m 8 1,
 .c 9 153 [.t 8],
 .m 7 9,
 .e 10 7 0,
 .e 11 7 1,
 .m 5 10,
 .m 6 11]
 (.seq (.s [.m 12 6,
 .k 13 .neq 12 0,
 .m 14 13,
 ⟨some 15,.mv (.t 5),some (14,false)⟩,
 ⟨some 16,.bin .eql (.t 15) (.c (.s [])),some (14,false)⟩,
 .p 17 14 16,
 .m 18 17,
 ⟨some 19,.mv (.t 5),some (18,false)⟩,
 ⟨some 20,.bin .eql (.t 19) (.c (.s [46])),some (18,false)⟩,
 .p 21 18 20,
 .m 22 21,
 ⟨some 23,.mv (.t 5),some (22,false)⟩,
 ⟨some 24,.bin .eql (.t 23) (.c (.s [46,46])),some (22,false)⟩,
 .p 25 22 24]
 (.cond (.t 25)
 (.s [.n 4 110]
 (.ret))
 (.skip)))
 (.seq (.drw [.m 26 0,
 .o 27 (.nck (.t 26)),
 .f 28 0 27,
 .m 29 5,
 .c 30 141 [.t 29,.c (.s [])],
 .o 31 (.bin .add (.c (.s [47])) (.t 30)),
 .c 32 214 [.t 28,.t 31]] 6 [])
 (.s [.n 4 0]
 (.ret)))))
theorem kX:FnIs Tryz.prog 182 33 [.tmp 4] Vb:=⟨⟨_,_,Tryz.func182,rfl,rfl,by kernel_rfl,by kernel_rfl⟩⟩
def Un:SCode :=
 .s [.o 1 (.box 79 (.t 0)),
 .o 2 (.mv (.c (.b false)))]
 (.s [.w 6 7 1,
 .c 7 117 [.t 6],
 .c 8 116 [.t 7],
 .m 5 8,
 .e 9 5 0,
 .e 10 5 1,
 .o 3 (.alloc 79 [.s [],.i .i64 0,.s [],.s [],.s [],.b false,.b false]),
 .s 7 3 9,
 .m 4 10]
 (.s [.m 11 4,
 .k 12 .eql 11 0,
 .m 13 12,
 ⟨some 14,.loadn 7 (.t 3),some (13,true)⟩,
 ⟨some 15,.loadn 7 (.t 1),some (13,true)⟩,
 ⟨some 16,.eqs false (.str [(0,(none,.ts)),(1,(none,.ti)),(2,(none,.ts)),(3,(none,.ts)),(4,(none,.ts)),(5,(none,.tb)),(6,(none,.tb))]) (.t 14) (.t 15),some (13,true)⟩,
 .o 17 (.pick (.t 13) (.t 16) (.c (.b false))),
 .m 2 17]
 (.ret)))
theorem iT:FnIs Tryz.prog 184 18 [.tmp 2] Un:=⟨⟨_,_,Tryz.func184,rfl,rfl,by kernel_rfl,by kernel_rfl⟩⟩
def Va:SCode :=
 .s [.o 3 (.box 124 (.t 1))]
 (.seq (.drw [.m 4 0,
 .o 5 (.nck (.t 4)),
 .f 6 0 5,
 .f 7 0 3,
 .l 8 7,
 .c 9 214 [.t 6,.t 8]] 5 [])
 (.s [.f 10 1 3,
 .l 11 10,
 .k 12 .neq 11 0]
 (.cond (.t 12)
 (.drw [.m 13 0,
 .o 14 (.nck (.t 13)),
 .f 15 0 14,
 .f 16 1 3,
 .l 17 16,
 .c 18 175 [.t 17],
 .o 19 (.bin .add (.c (.s [37,51,65])) (.t 18)),
 .c 20 214 [.t 15,.t 19]] 7 [])
 (.skip))))
theorem kW:FnIs Tryz.prog 185 21 [] Va:=⟨⟨_,_,Tryz.func185,rfl,rfl,by kernel_rfl,by kernel_rfl⟩⟩
def U7:SCode :=
 .s [.n 4 0]
 (.s [.m 8 1,
 .c 9 136 [.t 8,.c (.s [])],
 .m 7 9,
 .e 10 7 0,
 .e 11 7 1,
 .m 5 10,
 .m 6 11]
 (.seq (.s [.m 12 6,
 .k 13 .neq 12 0,
 .m 14 13,
 ⟨some 15,.mv (.t 1),some (14,false)⟩,
 ⟨some 16,.bin .eql (.t 15) (.c (.s [])),some (14,false)⟩,
 .p 17 14 16]
 (.cond (.t 17)
 (.s [.n 4 110]
 (.ret))
 (.skip)))
 (.seq (.drw [.m 18 0,
 .o 19 (.nck (.t 18)),
 .f 20 0 19,
 .m 21 5,
 .c 22 179 [.t 21,.c (.s [126]),.c (.s [37,55,69])],
 .o 23 (.bin .add (.c (.s [58])) (.t 22)),
 .c 24 214 [.t 20,.t 23]] 6 [])
 (.s [.n 4 0]
 (.ret)))))
theorem kP:FnIs Tryz.prog 186 25 [.tmp 4] U7:=⟨⟨_,_,Tryz.func186,rfl,rfl,by kernel_rfl,by kernel_rfl⟩⟩
def OH:SCode :=
 .s [.n 4 0,
 .o 5 (.mv (.c (.o .nilIface)))]
 (.s [.m 6 0,
 .c 7 225 [.t 6]]
 (.s [.m 8 0,
 .m 9 0,
 .o 10 (.nck (.t 9)),
 .f 11 1 10,
 .l 12 11,
 .m 13 1,
 .o 14 (.apps 5 (.t 12) (.t 13)),
 .o 15 (.nck (.t 8)),
 .f 16 1 15,
 .s 1 16 14]
 (.s [.m 17 1,
 .h 18 17,
 .m 4 18,
 .o 5 (.mv (.c (.o .nilIface)))]
 (.ret))))
theorem Vf:FnIs Tryz.prog 214 19 [.tmp 4,.tmp 5] OH:=⟨⟨_,_,Tryz.func214,rfl,rfl,by kernel_rfl,by kernel_rfl⟩⟩
def UW:SCode :=
 .s [.n 2 0]
 (.s [.m 3 0,
 .o 4 (.nck (.t 3)),
 .f 5 1 4,
 .l 6 5,
 .o 7 (.lenr (.t 6)),
 .m 2 7]
 (.ret))
theorem kQ:FnIs Tryz.prog 259 8 [.tmp 2] UW:=⟨⟨_,_,Tryz.func259,rfl,rfl,by kernel_rfl,by kernel_rfl⟩⟩
def U1:SCode :=
 .s [.o 6 (.mv (.c (.b false)))]
 (.seq (.drw [.m 9 0,
 .o 10 (.nck (.t 9)),
 .f 11 1 10,
 .l 12 11,
 .m 13 1,
 .o 14 (.iad 1 (.t 12) (.t 13)),
 .l 15 14,
 .m 16 0,
 .o 17 (.nck (.t 16)),
 .f 18 1 17,
 .l 19 18,
 .m 20 2,
 .o 21 (.iad 1 (.t 19) (.t 20)),
 .l 22 21,
 .m 7 15,
 .m 8 22] 16 [])
 (.seq (.seq (.drw [.m 23 0,
 .o 24 (.nck (.t 23)),
 .f 25 0 24,
 .l 26 25,
 .m 27 7,
 .o 28 (.iad 14 (.t 26) (.t 27)),
 .f 29 13 28,
 .l 30 29,
 .m 31 0,
 .o 32 (.nck (.t 31)),
 .f 33 0 32,
 .l 34 33,
 .m 35 8,
 .o 36 (.iad 14 (.t 34) (.t 35)),
 .f 37 13 36,
 .l 38 37,
 .b 39 .neq 30 38] 17 [])
 (.cond (.t 39)
 (.seq (.drw [.m 40 0,
 .o 41 (.nck (.t 40)),
 .f 42 0 41,
 .l 43 42,
 .m 44 7,
 .o 45 (.iad 14 (.t 43) (.t 44)),
 .f 46 13 45,
 .l 47 46,
 .m 48 0,
 .o 49 (.nck (.t 48)),
 .f 50 0 49,
 .l 51 50,
 .m 52 8,
 .o 53 (.iad 14 (.t 51) (.t 52)),
 .f 54 13 53,
 .l 55 54,
 .b 56 .lss 47 55,
 .m 6 56] 18 [])
 (.ret))
 (.skip)))
 (.s [.m 57 7,
 .m 58 8,
 .b 59 .lss 57 58,
 .m 6 59]
 (.ret))))
theorem kI:FnIs Tryz.prog 260 60 [.tmp 6] U1:=⟨⟨_,_,Tryz.func260,rfl,rfl,by kernel_rfl,by kernel_rfl⟩⟩
def UX:SCode :=
 .s [.o 2 (.mv (.c (.o .nilIface)))]
 (.s [.m 5 0,
 .o 6 (.nck (.t 5)),
 .f 7 1 6,
 .l 8 7,
 .o 9 (.lenr (.t 8)),
 .k 10 .sub 9 1,
 .m 3 10]
 (.s [.m 11 0,
 .o 12 (.nck (.t 11)),
 .f 13 1 12,
 .l 14 13,
 .m 15 3,
 .o 16 (.iad 1 (.t 14) (.t 15)),
 .l 17 16,
 .m 4 17]
 (.s [.m 18 0,
 .m 19 0,
 .o 20 (.nck (.t 19)),
 .f 21 1 20,
 .l 22 21,
 .m 23 3,
 .o 24 (.trn 1 (.t 22) (.t 23)),
 .o 25 (.nck (.t 18)),
 .f 26 1 25,
 .s 1 26 24]
 (.s [.m 27 4,
 .o 28 (.pu (.mki 3) [.t 27]),
 .m 2 28]
 (.ret)))))
theorem kR:FnIs Tryz.prog 261 29 [.tmp 2] UX:=⟨⟨_,_,Tryz.func261,rfl,rfl,by kernel_rfl,by kernel_rfl⟩⟩
def U2:SCode :=
 .drw [.m 6 0,
 .o 7 (.nck (.t 6)),
 .f 8 1 7,
 .l 9 8,
 .m 10 1,
 .m 11 0,
 .o 12 (.nck (.t 11)),
 .f 13 1 12,
 .l 14 13,
 .m 15 2,
 .m 16 0,
 .o 17 (.nck (.t 16)),
 .f 18 1 17,
 .l 19 18,
 .m 20 2,
 .o 21 (.iad 1 (.t 19) (.t 20)),
 .l 22 21,
 .m 23 0,
 .o 24 (.nck (.t 23)),
 .f 25 1 24,
 .l 26 25,
 .m 27 1,
 .o 28 (.iad 1 (.t 26) (.t 27)),
 .l 29 28,
 .o 30 (.iad 1 (.t 9) (.t 10)),
 .s 1 30 22,
 .o 31 (.iad 1 (.t 14) (.t 15)),
 .s 1 31 29] 28 []
theorem kJ:FnIs Tryz.prog 262 32 [] U2:=⟨⟨_,_,Tryz.func262,rfl,rfl,by kernel_rfl,by kernel_rfl⟩⟩
end Go.Proofs.YtbeoijfmfkifeaaGreatDoor.Sx
namespace Go.Proofs.YtbeoijfmfkifeaaGreatDoor
open Go.RowKit Sx
open Lib renaming hasPrefix->zk, indexByte->jl
open List renaming all_eq_true->zj
theorem Kq {s:List UInt8} {p:UInt8->Bool} (h:∀j (hj:j<s.length),p s[j]=true):s.all p=true:=by
 rw[zj];intro x hx;obtain⟨j,hj,rfl⟩:=List.mem_iff_getElem.1 hx;exact h j hj
theorem KA {s:List UInt8} {p:UInt8->Bool} {j:Nat} (hj:j<s.length) (h:p s[j]=false):s.all p=false:=by
 rw[Bool.eq_false_iff];intro e;have:=zj.1 e s[j] (List.getElem_mem _);rw[h] at this;cases this
theorem GP {s:List UInt8} {j:Nat} (hj:j<s.length):s.getD j 0=s[j]:=by
 rw[List.getD_eq_getElem?_getD,List.getElem?_eq_getElem hj];rfl
theorem WI (l:List UInt8) (c:UInt8):decide (0<=jl l c)=Aw c l:=by
 have:=MM (l:=l) (c:=c);rcases h:Aw c l with _|_
 ·exact decide_eq_false (fun h2=>by have:=this.2 h;omega)
 ·exact decide_eq_true (by
   apply Classical.byContradiction
   intro h2;have:=this.1 (by omega);rw[h] at this;cases this)
theorem wrap_u64 (n:Int) (h0:0<=n) (h1:n<18446744073709551616):IntKind.u64.wrap n=n:=by
 simp[IntKind.wrap,IntKind.bits,IntKind.signed];omega
theorem Qb.rev {w w':World} (h:w'=w):Qb w w':=by subst h;exact Qb.refl _
section
variable [Tabs Tryz.prog] {objs:List OB} {K:List OB->AV->Prop}
theorem Rb (c:UInt8) (hk:K objs (.b (AC c))):Ai Tryz.prog 177 [.i .u8 c.toNat] objs K :=
 conv (vs:=[.int .u8 c.toNat]) rfl rfl (fun w=>(Eg c w).mono (by rintro e w' ⟨rfl,rfl⟩;exact⟨rfl,Qb.refl _⟩)) hk
theorem XQ (c:UInt8) (hk:K objs (.b (Ca c))):Ai Tryz.prog 206 [.i .u8 c.toNat] objs K :=
 conv (vs:=[.int .u8 c.toNat]) rfl rfl (fun w=>(EW c w).mono (by rintro e w' ⟨rfl,rfl⟩;exact⟨rfl,Qb.refl _⟩)) hk
theorem TU (s:List UInt8) (c:UInt8) (hk:K objs (.i .i64 (jl s c))):Ai Tryz.prog 169 [.s s,.i .u8 c.toNat] objs K:=by
 have e:((c.toNat:Nat):Int).toNat.toUInt8=c:=by simp
 exact conv (vs:=[.string (S s),.int .u8 c.toNat]) rfl rfl (fun w=>(Tryz.strings_IndexByte (S s) c.toNat w).mono fun e' w' ⟨h1,h2⟩=>⟨by rw[h1,e],Qb.rev h2⟩) hk
theorem TS (s p:List UInt8) (hk:K objs (.tup [.s (Lib.trimPrefix s p),.b (zk s p)])):Ai Tryz.prog 148 [.s s,.s p] objs K :=
 conv (vs:=[.string (S s),.string (S p)]) rfl rfl (fun w=>(Tryz.strings_CutPrefix (S s) (S p) w).mono fun e w' ⟨h1,h2⟩=>⟨h1,Qb.rev h2⟩) hk
theorem KQ (a b:List UInt8) (ha:a.length<=maxLen) (hb:b.length<=maxLen) (hk:K objs (.b (AN a b))):Ai Tryz.prog 134 [.s a,.s b] objs K :=
 conv (vs:=[.string (S a),.string (S b)]) rfl rfl (fun w=>Ef (S a) (S b) w (by rw[Am];exact ha) (by rw[Am];exact hb)) hk
theorem Z9 (a b:List UInt8) (ha:a.length<=140737488351232) (hb:b.length<=140737488351232) (hk:K objs (.b (AN a b))):Ai Tryz.prog 67 [.s a,.s b] objs K :=
 conv (vs:=[.string (S a),.string (S b)]) rfl rfl (fun w=>E2 (S a) (S b) w (by rw[Am];exact ha) (by rw[Am];exact hb)) hk
theorem PH (s:List UInt8) (c:UInt8) (hs:s.length<=maxLen) (hk:K objs (.tup [.s (Af c s).1,.s (Af c s).2.1,.b (Af c s).2.2])):Ai Tryz.prog 88 [.s s,.s [c]] objs K :=
 conv (vs:=[.string (S s),.string (S [c])]) rfl rfl (fun w=>CD (S s) c w (by rw[Am];exact hs)) hk
theorem SQ (u:Nat) (hu:u<18446744073709551616) (hk:K objs (.s (Lib.decDigits u))):Ai Tryz.prog 157 [.i .u64 u] objs K :=
 conv (vs:=[.int .u64 u]) rfl rfl (fun w=>fH u hu w) hk
theorem PU [Pow Tryz.prog] (n:Int) (h0:-9223372036854775808<=n) (h1:n<=9223372036854775807) (hk:K objs (.s (Lib.itoa n))):Ai Tryz.prog 175 [.i .i64 n] objs K :=
 Ma (vs:=[.int .i64 n]) rfl rfl (fun w hT=>(Tryz.strconv_Itoa n h0 h1 w (Pow.pw w hT)).mono fun e w' h=>by
  obtain⟨h2,k,os,h3⟩:=h;exact⟨h2,by rw[h3];exact Xm w k os⟩) hk
theorem Gc (s set:List UInt8) (hs:s.length<=maxLen) (ha:set.length<=maxLen) (hk:K objs (.i .i64 (Au s set))):Ai Tryz.prog 47 [.s s,.s set] objs K :=
 FY (vs:=[.string (S s),.string (S set)]) rfl rfl (fun w=>E3 (S s) (S set) w (by rw[Am];exact hs) (by rw[Am];exact ha)) hk
theorem ID (s p:List UInt8) (hs:s.length<=maxLen) (hk:K objs (.b (zk s p))):Ai Tryz.prog 104 [.s s,.s p] objs K :=
 FY (vs:=[.string (S s),.string (S p)]) rfl rfl (fun w=>eT (S s) (S p) w (by rw[Am];exact hs)) hk
end
end Go.Proofs.YtbeoijfmfkifeaaGreatDoor
namespace Go.Proofs.YtbeoijfmfkifeaaGreatDoor.Sx
open Go.RowKit
theorem M4 {k:IntKind} {r:Int} {K K':Int->Prop} (hk:∀v,K v->K' v) (h:EA k r K):EA k r K':=by
 cases k
 all_goals first|exact hk _ h|exact⟨h.1,hk _ h.2⟩
theorem Z3 {op:BinOp} {x y:AV} {K K':AV->Prop} (hk:∀v,K v->K' v) (h:Fx op x y K):Fx op x y K':=by
 unfold Fx at h ⊢
 split at h
 ·refine⟨h.1,?_⟩
  replace h:=h.2
  cases op
  all_goals first
   | exact h.elim
   | exact M4 (fun _ g=>hk _ g) h
   | exact⟨h.1,M4 (fun _ g=>hk _ g) h.2⟩
   | exact⟨h.1,hk _ h.2⟩
   | exact hk _ h
 all_goals
  revert h
  cases op
  all_goals first
   | exact fun h=>h.elim
   | exact fun h=>⟨h.1,hk _ h.2⟩
   | exact fun h=>hk _ h
section
variable {P:Program} [Tabs P] {C:Cx}
theorem K8 {so:SOp} {objs:List OB} {tm:List AV} {K K':List OB->AV->Prop} (hk:∀o v,K o v->K' o v) (h:Ah P so objs tm K):Ah P so objs tm K':=by
 cases so
 all_goals simp only[Ah] at h ⊢
 all_goals try exact hk _ _ h
 all_goals try exact⟨h.1,hk _ _ h.2⟩
 all_goals try exact Z3 (fun _ g=>hk _ _ g) h
 all_goals try exact h.mono hk
 all_goals try exact⟨h.1,h.2.mono fun _ _ g=>⟨g.1,hk _ _ g.2⟩⟩
 all_goals
  revert h
  repeat' split
  all_goals first
   | exact fun h=>h.elim
   | exact fun h=>hk _ _ h
   | exact fun h=>⟨h.1,hk _ _ h.2⟩
   | exact fun h=>M4 (fun _ g=>hk _ _ g) h
   | exact fun h=>⟨fun e=>hk _ _ (h.1 e),fun e=>hk _ _ (h.2 e)⟩
   | exact fun ⟨v,h1,h2⟩=>⟨v,h1,hk _ _ h2⟩
   | exact fun ⟨h0,l,h1,h2⟩=>⟨h0,l,h1,hk _ _ h2⟩
   | exact fun h=>⟨h.1,h.2.mono hk⟩
   | exact fun h=>h.mono hk
theorem DJ:∀{l:List SO} {objs:List OB} {tm:List AV} {K K':List OB->List AV->Prop},(∀o t,K o t->K' o t)->As P l objs tm K->As P l objs tm K'
 | [],_,_,_,_,hk,h=>hk _ _ h
 | ⟨dst,op,none⟩::r,_,_,_,_,hk,h=>K8 (fun _ _ g=>DJ hk g) h
 | ⟨dst,op,some (t,want)⟩::r,objs,tm,K,K',hk,h=>by
  simp only[As] at h ⊢
  revert h
  split
  ·exact fun h=>⟨fun e=>K8 (fun _ _ g=>DJ hk g) (h.1 e),fun e=>DJ hk (h.2 e)⟩
  ·exact fun h=>DJ hk h
  ·exact fun h=>h.elim
theorem Ht:∀{l:List SO} {objs:List OB} {tm:List AV} {K K':List OB->List AV->Prop},(∀o t,K o t->K' o t)->BB P l objs tm K->BB P l objs tm K'
 | [],_,_,_,_,hk,h=>hk _ _ h
 | ⟨dst,op,none⟩::r,_,_,_,_,hk,h=>by
  simp only[BB] at h ⊢
  revert h
  split
  ·exact fun ⟨v,h1,h2⟩=>⟨v,h1,Ht hk h2⟩
  ·exact fun h=>K8 (fun _ _ g=>Ht hk g) h
 | ⟨dst,op,some (t,want)⟩::r,objs,tm,K,K',hk,h=>by
  simp only[BB] at h ⊢
  revert h
  split
  ·refine fun h=>⟨fun e=>?_,fun e=>Ht hk (h.2 e)⟩;have h1:=h.1 e
   revert h1
   split
   ·exact fun ⟨v,h1,h2⟩=>⟨v,h1,Ht hk h2⟩
   ·exact fun h=>K8 (fun _ _ g=>Ht hk g) h
  ·exact fun h=>Ht hk h
  ·exact fun h=>h.elim
theorem dF {N N':List OB->List AV->Prop} {K K':Bb} (hn:∀o t,N o t->N' o t) (hk:∀e o t,K e o t->K' e o t):∀e o t,D9 N K e o t->D9 N' K' e o t:=by
 intro e o t h
 cases e<;>first|exact hn _ _ h|exact hk _ _ _ h
theorem Z4 {id:Nat} {K K':Bb} (hk:∀e o t,K e o t->K' e o t):∀e o t,Gs id K e o t->Gs id K' e o t:=by
 intro e o t h
 cases e
 all_goals try exact hk _ _ _ h
 rename_i i;unfold Gs at h ⊢;simp only at h ⊢
 split at h
 ·rename_i g;rw[if_pos g];exact hk _ _ _ h
 ·rename_i g;rw[if_neg g];exact hk _ _ _ h
theorem Nb:∀(st:List (List SO×SO)) (h:List (List SO×List AV×List AV)) (last:List SO) (o:List OB) (t:List AV) {K K':List OB->List AV->Prop},(∀o t,K o t->K' o t)->Dh P st h last o t K->Dh P st h last o t K'
 | [],h,last,o,t,K,K',hk,g=>DJ hk g
 | (L,c)::st,h,last,o,t,K,K',hk,g=>DJ (fun _ _ g=>DJ (fun _ _ g=>⟨g.1,Nb st _ last _ _ hk g.2⟩) g) g
theorem RE (d:Nat) (T:TypeId) (z:List AV):∀(st:List (List SO×SO)) (h:List (List SO×List AV×List AV)) (last:List SO) (o:List OB) (t:List AV) {K K':List OB->List AV->Prop},(∀o t,K o t->K' o t)->E6 P d T z st h last o t K->E6 P d T z st h last o t K'
 | [],h,last,o,t,K,K',hk,g=>DJ (fun _ _ g=>⟨g.1,hk _ _ g.2⟩) g
 | (L,c)::st,h,last,o,t,K,K',hk,g=>DJ (fun _ _ g=>⟨⟨g.1.1,DJ (fun _ _ g=>⟨g.1,Nb st _ last _ _ hk g.2⟩) g.1.2⟩,DJ (fun _ _ g=>⟨g.1,RE d T z st _ last _ _ hk g.2⟩) g.2⟩) g
theorem Iy:∀(c:SCode) {K K':Bb} {objs:List OB} {tm:List AV},(∀e o t,K e o t->K' e o t)->DO P C c K objs tm->DO P C c K' objs tm
 | .skip,_,_,_,_,hk,h=>hk _ _ _ h
 | .reg l,_,_,_,_,hk,h=>DJ (fun _ _ g=>hk _ _ _ g) h
 | .drw l k ap,_,_,_,_,hk,h=>Ht (fun _ _ g=>⟨g.1,DJ (fun _ _ g=>hk _ _ _ g) g.2⟩) h
 | .crg pre cl post,_,_,_,_,hk,h=>DJ (fun _ _ g=>DJ (fun _ _ g=>⟨g.1,DJ (fun _ _ g=>hk _ _ _ g) g.2⟩) g) h
 | .crs st last,_,_,_,_,hk,h=>Nb st [] last _ _ (fun _ _ g=>hk _ _ _ g) h
 | .cra d T z st last sr,_,_,_,_,hk,h=>⟨h.1,RE d T z st [] last _ _ (fun _ _ g=>DJ (fun _ _ g=>hk _ _ _ g) g) h.2⟩
 | .seq x y,_,_,_,_,hk,h=>Iy x (dF (fun _ _ g=>Iy y hk g) hk) h
 | .cond c x y,_,_,_,_,hk,h=>by
  simp only[DO] at h ⊢
  revert h
  split
  ·exact fun h=>⟨fun e=>Iy x hk (h.1 e),fun e=>Iy y hk (h.2 e)⟩
  ·exact fun h=>h.elim
 | .blk id c,_,_,_,_,hk,h=>Iy c (Z4 hk) h
 | .loop c,_,_,_,_,hk,h=>fun c hc=>WP.mono (fun e o t g=>by cases e<;>first|exact hk _ _ _ g|exact g) (h c hc)
 | .exit id,_,_,_,_,hk,h=>hk _ _ _ h
 | .ret,_,_,_,_,hk,h=>hk _ _ _ h
 | .dead,_,_,_,_,hk,h=>h.elim
def LS (P:Program) [Tabs P] (C:Cx) (J:List OB->List AV->Prop) (k:List IT) (F:Bb):Bb:=D9 J (D5 P C F k)
variable {F:Bb} {k:List IT} {objs:List OB} {tm:List AV}
theorem Bw (J:List OB->List AV->Prop):LS P C J k F .normal objs tm=J objs tm:=Eq.trans rfl rfl
theorem RQ (J:List OB->List AV->Prop) (id:Nat):LS P C J k F (.exit id) objs tm=Eu P C id k objs tm F:=Eq.trans rfl rfl
theorem Jw (J:List OB->List AV->Prop):LS P C J k F .ret objs tm=F .ret objs tm:=GO k
theorem CV {x:SCode} (J:List OB->List AV->Prop) (h:run P C [.code x] objs tm (LS P C J k F)) (hJ:∀o t,J o t->run P C k o t F):run P C (.code x::k) objs tm F :=
 Iy x (fun e o t g=>by
  cases e
  ·exact hJ _ _ g
  all_goals exact g) h
end
section
variable {P:Program} [Tabs P] {C:Cx} {F:Bb} {k:List IT} {objs:List OB} {tm:List AV}
theorem Ae {x y:SCode} (h:∀Y,Y=y->run P C (.code x::.code Y::k) objs tm F):run P C (.code (.seq x y)::k) objs tm F:=h y rfl
end
end Go.Proofs.YtbeoijfmfkifeaaGreatDoor.Sx
namespace Go.Proofs.YtbeoijfmfkifeaaGreatDoor
open Go.RowKit Sx
open Int renaming toNat_natCast->zm
open Lib renaming hasPrefix->zk
open List renaming getElem?_eq_some_iff->jf, getElem?_set->zb, length_drop->zt, take_length->qc
section
attribute [local irreducible] run
def DF (u:UriP):AV:=.agg [.s u.scheme,.s u.auth,.s u.path,.s u.query,.s u.frag,.b u.hs,.b u.ha,.b u.hq,.b u.hf]
def Ku (l2 fr qu:List UInt8) (bf bq:Bool):Int×UriP :=
 if ((Af 58 (Ba l2)).2.2&&!Ed (Af 58 (Ba l2)).1)=true then (6,I3)
 else
  let r:=if (Af 58 (Ba l2)).2.2=true then l2.drop ((Af 58 (Ba l2)).1.length+1) else l2
  (0,{ scheme:=if (Af 58 (Ba l2)).2.2=true then (Af 58 (Ba l2)).1 else [],auth:=Db r,path:=D8 r,query:=qu,frag:=fr,hs:=(Af 58 (Ba l2)).2.2,ha:=DV r,hq:=bq,hf:=bf })
theorem Tz {s l1 l2 fr qu:List UInt8} {bf bq:Bool} (h:¬16384<s.length) (e1:Af 35 s=(l1,fr,bf)) (e2:Af 63 l1=(l2,qu,bq)):AQ s=Ku l2 fr qu bf bq:=by
 unfold AQ Ku EP Dd Ck;rw[if_neg h,e1];simp only[e2]
theorem bM {l:List UInt8} {k:Nat} (h:k<(Ba l).length):(Ba l).take k=l.take k:=by
 rw[(FK l).1,List.take_take,Nat.min_eq_left (by omega)]
theorem Sg:Gr Tryz.prog 168:=⟨_,Tryz.func168,by kernel_rfl,of_decide_eq_true (by kernel_rfl)⟩
section
variable [Tabs Tryz.prog] {objs:List OB} {K:List OB->AV->Prop}
theorem V1 (s:List UInt8) (hs:s.length<=1000000) (hk:K objs (.i .i64 (Lib.indexByte (Ba s) 58))):Ai Tryz.prog 170 [.s s] objs K :=
 conv (vs:=[.string (S s)]) rfl rfl (fun w=>gC (S s) w (by unfold maxLen;rw[Am];omega)) hk
theorem V0 (s:List UInt8) (hs:s.length<=1000000) (hk:K objs (.b (Ed s))):Ai Tryz.prog 171 [.s s] objs K :=
 FY (vs:=[.string (S s)]) rfl rfl (fun w=>fU (S s) w (by unfold maxLen;rw[Am];omega)) hk
theorem VZ (s:List UInt8) (hs:s.length<=1000000) (hk:K objs (.s (Ba s))):Ai Tryz.prog 172 [.s s] objs K :=
 conv (vs:=[.string (S s)]) rfl rfl (fun w=>OC (S s) w (by unfold maxLen;rw[Am];omega)) hk
theorem Pl {b T:Nat} (s:List UInt8) (c:UInt8) (hs:s.length<=1000000) (hb:objs[b]? = some (.box T [.s s])) (hk:K (objs.set b (.box T [.s (Af c s).1])) (.tup [.s (Af c s).2.1,.b (Af c s).2.2])):Ai Tryz.prog 168 [.i .u8 c.toNat,.p b 0] objs K:=by
 have hlt:=(jf.1 hb).1;refine CE iD fun C _=>?_;rw[Ub];refine Ae fun Z hZ=>?_;simp only[Aa,simprocAttr];subst hZ;refine Ae fun Z hZ=>?_;simp only[Aa,simprocAttr,hb];refine Ag (TU s c ?_);simp only[Aa,simprocAttr];subst hZ;rcases Du c s with ⟨h1,h2,_⟩|⟨k,h1,h2,h3,_⟩
 ·rw[h2] at hk;rw[show objs.set b (.box T [.s s])=objs from by rw[<-(jf.1 hb).2,List.set_getElem_self]] at hk;simp only[Aa,simprocAttr,h1];exact hk
 ·rw[h3] at hk;have c1:¬(k:Int)<0:=by omega
  have e1:((k:Int)+1).toNat=k+1:=by omega
  simp only[Aa,simprocAttr,h1,c1,hb,zm,e1,qc];exact⟨by omega,⟨by omega,by omega,by omega⟩,⟨by omega,by omega⟩,hk⟩
theorem YW (s:List UInt8) (hk:K objs (.tup [DF (AQ s).2,.i .i64 (AQ s).1])):Ai Tryz.prog 142 [.s s] objs K:=by
 refine AI fM rfl fun C _=>?_;rw[Tm];refine Ae fun Z hZ=>?_;simp only[Aa,simprocAttr];subst hZ;refine Ae fun Z hZ=>?_
 by_cases hb:16384<s.length
 ·have hb':(16384:Int)<s.length:=by omega
  unfold AQ at hk;rw[if_pos hb] at hk;simp only[Aa,simprocAttr,hb'];exact hk
 have hb':¬(16384:Int)<s.length:=by omega
 have h0:s.length<=16384:=by omega
 obtain⟨l1,fr,bf,e1⟩:∃l1 fr bf,Af 35 s=(l1,fr,bf):=⟨_,_,_,rfl⟩;obtain⟨l2,qu,bq,e2⟩:∃l2 qu bq,Af 63 l1=(l2,qu,bq):=⟨_,_,_,rfl⟩;have h1:=(Dn 35 s).1;have h2:=(Dn 63 l1).1;rw[e1] at h1;rw[e2] at h2;dsimp only at h1 h2;rw[Tz hb e1 e2] at hk;simp only[Aa,simprocAttr,hb'];subst hZ;refine Ae fun Z hZ=>?_;simp only[Aa,simprocAttr];subst hZ;refine Ae fun Z hZ=>?_;simp only[Aa,simprocAttr];subst hZ;refine Ae fun Z hZ=>?_;simp only[Aa,simprocAttr];subst hZ;refine Ae fun Z hZ=>?_;simp only[Aa,simprocAttr];refine He Sg (Pl s 35 (by omega) rfl ?_);rw[e1];simp only[Aa,simprocAttr];subst hZ;refine Ae fun Z hZ=>?_;simp only[Aa,simprocAttr];refine He Sg (Pl l1 63 (by omega) rfl ?_);rw[e2];simp only[Aa,simprocAttr];subst hZ;clear e1 e2 hb hb';refine Ae fun Z hZ=>?_;refine CV (fun o t=>∃(r sc:List UInt8) (hs:Bool) (X:OB),r.length<=16384/\o=[X,.box 9 [.s r],.box 150 [.s sc,.s [],.s [],.s qu,.s fr,.b hs,.b false,.b bq,.b bf]]/\K objs (.tup [DF ⟨sc,Db r,D8 r,qu,fr,hs,DV r,bq,bf⟩,.i .i64 0])/\t.length=67/\t[2]? = some (.p 0 0)/\t[4]? = some (.p 1 0)/\t[6]? = some (.p 2 0)/\X=.box 150 [.s [],.s [],.s [],.s [],.s [],.b false,.b false,.b false,.b false]) ?_ ?_
 ·refine Ae fun Y hY=>?_;simp only[Aa,simprocAttr];refine Ag (V1 l2 (by omega) ?_);simp only[Aa,simprocAttr];subst hY;unfold Ku at hk;rcases Du 58 (Ba l2) with ⟨q1,q2,_⟩|⟨k,q1,q2,q3,_⟩
  ·rw[q2] at hk;simp only[Aa,simprocAttr,q1,Bw];exact⟨l2,[],false,_,by omega,rfl,hk,rfl⟩
  ·have hkl:=Nat.lt_of_lt_of_le q2 (FK l2).2;have hlk:(l2.take k).length=k:=by rw[List.length_take];omega
   rw[q3,bM q2] at hk;have c1:(0:Int)<=(k:Int):=by omega
   have e1:((k:Int)+1).toNat=k+1:=by omega
   simp only[Aa,simprocAttr,q1,c1,zm];refine⟨by omega,Ag (V0 (l2.take k) (by omega) ?_)⟩
   cases hsb:Ed (l2.take k) with
   | false=>
    rw[hsb] at hk;simp only[Aa,simprocAttr,Jw];exact hk
   | true=>
    rw[hsb,hlk] at hk;simp only[Aa,simprocAttr,zm,e1,qc,Bw];exact⟨by omega,⟨by omega,by omega⟩,by omega,l2.drop (k+1),l2.take k,true,_,by rw[zt];omega,rfl,hk,rfl⟩
 ·clear hk;rintro _ t ⟨r,sc,hs,X,hr,rfl,hk,hlen,t2,t4,t6,rfl⟩;subst hZ;refine Ae fun Z hZ=>?_;refine CV (fun o t=>∃(X:OB),o=[X,.box 9 [.s (D8 r)],.box 150 [.s sc,.s (Db r),.s [],.s qu,.s fr,.b hs,.b (DV r),.b bq,.b bf]]/\t.length=67/\t[2]? = some (.p 0 0)/\t[4]? = some (.p 1 0)/\t[6]? = some (.p 2 0)/\X=.box 150 [.s [],.s [],.s [],.s [],.s [],.b false,.b false,.b false,.b false]) ?_ ?_
  ·refine Ae fun Y hY=>?_;simp only[Aa,simprocAttr,zb,hlen,t4];refine Ag (TS r [47,47] ?_);simp only[Aa,simprocAttr,zb,hlen,t4];subst hY;unfold D8 Db
   cases h:DV r with
   | false=>
    rw[show zk r [47,47]=false from h];simp only[Aa,simprocAttr,zb,hlen,t2,t4,t6,Bw];exact⟨_,rfl,rfl⟩
   | true=>
    rw[show zk r [47,47]=true from h,dH h];have hd:(r.drop 2).length<=16384:=by rw[zt];omega
    have hf:=(FK (r.drop 2)).2;simp only[Aa,simprocAttr,zb,hlen,t2,t4,t6];refine Ag (VZ (r.drop 2) (by omega) ?_);simp only[Aa,simprocAttr,zb,hlen,t2,t4,t6,zm,qc,Bw];exact⟨⟨by omega,by omega,by omega⟩,_,rfl,rfl⟩
  ·clear hlen t2 t4 t6;rintro _ t ⟨X,rfl,hlen,t2,t4,t6,rfl⟩;subst hZ;simp only[Aa,simprocAttr,zb,hlen,t2,t4,t6];exact hk
end
end
end Go.Proofs.YtbeoijfmfkifeaaGreatDoor
