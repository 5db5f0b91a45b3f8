/- The contracts of the library that the walks use, at this program: each one application of a law of the library. -/
import Derived.Shelf.Strings.Builder1
import Derived.Shelf.Strings.Builder2
import Derived.Shelf.Strings.OnBuilder
import Derived.Shelf.Small.Bits
import Derived.Shelf.Small.Strs
import Derived.Shelf.Strings.BuilderF
import Derived.Shelf.Strings.BuilderK
import Derived.Shelf.Strings.Builder2Cap
import Derived.Shelf.Strconv.Atoi
import Derived.Shelf.Strconv.Itoa0
import Derived.Shelf.Strconv.Itoa1
import Derived.Shelf.LaysM
import Derived.Shelf.Strconv.Itoa2
import Derived.Shelf.Strconv.Itoa3
import Derived.Shelf.Strconv.AtoiErrFast
import Derived.Shelf.Strconv.ParseIntEmpty
import Derived.Shelf.Strconv.AtoiFail
import Derived.Shelf.Strconv.Clone
import Derived.Shelf.Strconv.SyntaxError
import Derived.Shelf.LaysC
import Derived.Shelf.Strconv.ToError
import Derived.Shelf.Strconv.Lower
import Derived.Shelf.Strconv.ParseUint10
import Derived.Shelf.Strconv.ParseUint10Empty
import Derived.Shelf.Strconv.ParseUint10Any
import Derived.Shelf.Strconv.ParseInt10
import Derived.Shelf.Strconv.AtoiLong
import Derived.Shelf.Strconv.AtoiInnerAll
import Derived.Shelf.Strconv.RangeError
import Derived.Shelf.Strconv.ToErrorRange
import Derived.Shelf.Strconv.AtoiAll
import Derived.Shelf.Strconv.ErrVarAll
import Derived.Shelf.Strings.Search1
import Derived.Shelf.Strings.Search2
import Derived.Shelf.Strings.Search3
import Derived.Shelf.Strings.Cut
import Derived.Shelf.Strings.Count
import Derived.Shelf.Strings.Shaped
import Derived.Shelf.Sort.Plain
import Derived.Shelf.Strings.Prefix
import Derived.Shelf.Strings.Split
import Derived.Shelf.Strings.SplitShaped
import Derived.Shelf.Unicode.DecodeSlow
import Derived.Shelf.Strings.BuilderCap
import Derived.Shelf.Slices.Turned
import Derived.Shelf.Slices.Reverse
import Derived.Ground.Names2Prog
import Derived.Shelf.Slices.ReverseS
import Derived.Shelf.Slices.Clone
import Derived.Shelf.Slices.CompactS
import Derived.Shelf.Slices.Delete
import Derived.Shelf.Slices.Cells
import Derived.Shelf.Slices.In.SortNone
import Derived.Shelf.Slices.Empties
import Derived.Ground.SlgnProg
import Derived.Shelf.SlicesE.Equal
import Derived.Shelf.SlicesE.Compact
import Derived.Ground.SlgfProg
import Derived.Shelf.SlicesE.IndexFunc
import Derived.Shelf.SlicesE.DeleteFunc
import Derived.Test.YtolgebdmffcemaaGreatDoorProg
namespace Go.Proofs.Tryz
open Go.Shelf
theorem k0{a:Option Func}{x y:Func}(h:a=some x)(e:x=y):a=some y:=h.trans (congrArg some e)
def lays169_ren:Ren:=⟨fun|169=>90|n=>n,fun|70=>132|9=>9|0=>0|72=>134|37=>100|127=>189|3=>3|5=>5|n=>n,fun|n=>n⟩
theorem lays169:Go.Proofs.Lays.n169 prog lays169_ren:=⟨by kernel_rfl,k0 func90 (by kernel_rfl),underlying0,isAgg0,sizeOf0,zeroValue0,underlying3,isAgg3,sizeOf3,zeroValue3,underlying9,isAgg9,sizeOf9,zeroValue9,underlying100,isAgg100,sizeOf100,zeroValue100,underlying132,isAgg132,sizeOf132,zeroValue132,underlying134,isAgg134,sizeOf134,zeroValue134,underlying189,isAgg189,sizeOf189,zeroValue189⟩
theorem Builder_Extra_169:Builder.Extra prog lays169_ren:={
 sizeBuilder:=by kernel_rfl
 liesBuilder:=by kernel_rfl
 t5:=underlying5
 a5:=isAgg5
 z5:=sizeOf5
 v5:=zeroValue5
 infoByte:=by kernel_rfl
 cellsByte:=by kernel_rfl
 sizeByte:=by kernel_rfl
 neB5:=by decide}
open Go.RowKit in
theorem Builder_String_any (B b:Nat)(l:List UInt8)(w:World)(h:Lib.IsBuilder 134 5 B b (Lib.byteCells l) w)(hBw:B≤w.heap.size):
  Calls prog 90 #[.pointer (some ⟨b,0,none⟩)] w fun e w' =>e= .returned (.string ⟨l.toArray⟩)∧Below B w w' :=Any.Builder_String_any lays169 Builder_Extra_169 B b l w h hBw
def lays156_ren:Ren:=⟨fun|156=>142|165=>191|166=>88|169=>90|240=>140|241=>226|276=>189|277=>262|n=>n,fun|31=>45|9=>9|3=>3|4=>4|0=>0|20=>20|72=>134|76=>142|70=>132|37=>100|75=>141|127=>189|164=>234|5=>5|80=>36|n=>n,fun|n=>n⟩
theorem lays156:Go.Proofs.Lays.n156 prog lays156_ren:=⟨by kernel_rfl,k0 func142 (by kernel_rfl),k0 func191 (by kernel_rfl),k0 func88 (by kernel_rfl),k0 func90 (by kernel_rfl),k0 func140 (by kernel_rfl),k0 func226 (by kernel_rfl),k0 func189 (by kernel_rfl),k0 func262 (by kernel_rfl),underlying0,isAgg0,sizeOf0,zeroValue0,underlying3,isAgg3,sizeOf3,zeroValue3,underlying4,isAgg4,sizeOf4,zeroValue4,underlying9,isAgg9,sizeOf9,zeroValue9,underlying20,isAgg20,sizeOf20,zeroValue20,underlying45,isAgg45,sizeOf45,zeroValue45,underlying100,isAgg100,sizeOf100,zeroValue100,underlying132,isAgg132,sizeOf132,zeroValue132,underlying134,isAgg134,sizeOf134,zeroValue134,underlying141,isAgg141,sizeOf141,zeroValue141,underlying142,isAgg142,sizeOf142,zeroValue142,underlying189,isAgg189,sizeOf189,zeroValue189,underlying234,isAgg234,sizeOf234,zeroValue234⟩
theorem Builder_Extra_156:Builder.Extra prog lays156_ren:={
 sizeBuilder:=by kernel_rfl
 liesBuilder:=by kernel_rfl
 t5:=underlying5
 a5:=isAgg5
 z5:=sizeOf5
 v5:=zeroValue5
 infoByte:=by kernel_rfl
 cellsByte:=by kernel_rfl
 sizeByte:=by kernel_rfl
 neB5:=by decide}
open Go.RowKit in
theorem strings_Join_none (a:Option Addr)(c:Nat)(sep:ByteArray)(w:World):
  Calls prog 142 #[.slice a 0 c,.string sep] w fun e w' =>e= .returned (.string ⟨#[]⟩)∧w' =w:=Any.strings_Join_none lays156 Builder_Extra_156 a c sep w
open Go.RowKit in
theorem strings_Join (bk o c:Nat)(xs:List ByteArray)(sep:ByteArray)(w:World)(hcells:∀(j:Nat) x,xs[j]? =some x→w.cell? ⟨bk,o+j,none⟩=some (.string x))(hbk:bk<w.heap.size)(hN:xs.length≤140737488355328)(hcap:xs.length≤c)(hlen:(Lib.join (xs.map (·.data.toList)) sep.data.toList).length≤140737488355328):
  Calls prog 142 #[.slice (some ⟨bk,o,none⟩) xs.length c,.string sep] w fun e w' =>e= .returned (.string ⟨(Lib.join (xs.map (·.data.toList)) sep.data.toList).toArray⟩)∧Below w.heap.size w w' :=Any.strings_Join lays156 Builder_Extra_156 bk o c xs sep w hcells hbk hN hcap hlen
def lays106_ren:Ren:=⟨fun|106=>106|213=>154|265=>206|n=>n,fun|9=>9|3=>3|n=>n,fun|n=>n⟩
theorem lays106:Go.Proofs.Lays.n106 prog lays106_ren:=⟨by kernel_rfl,k0 func106 (by kernel_rfl),k0 func154 (by kernel_rfl),k0 func206 (by kernel_rfl),underlying3,isAgg3,sizeOf3,zeroValue3,underlying9,isAgg9,sizeOf9,zeroValue9⟩
open Go.RowKit in
theorem strings_Compare (a b:ByteArray)(w:World):
  Calls prog 106 #[.string a,.string b] w fun e w' =>e= .returned (.int .i64 (Lib.compareBytes a.data.toList b.data.toList))∧w' =w:=Any.strings_Compare lays106 a b w
def lays137_ren:Ren:=⟨fun|137=>238|217=>270|266=>288|n=>n,fun|9=>9|5=>5|3=>3|n=>n,fun|n=>n⟩
theorem lays137:Go.Proofs.Lays.n137 prog lays137_ren:=⟨by kernel_rfl,k0 func238 (by kernel_rfl),k0 func270 (by kernel_rfl),k0 func288 (by kernel_rfl),underlying3,isAgg3,sizeOf3,zeroValue3,underlying5,isAgg5,sizeOf5,zeroValue5,underlying9,isAgg9,sizeOf9,zeroValue9⟩
open Go.RowKit in
theorem strings_IndexByte (s:ByteArray)(c:Int)(w:World):
  Calls prog 238 #[.string s,.int .u8 c] w fun e w' =>e= .returned (.int .i64 (Lib.indexByte s.data.toList c.toNat.toUInt8))∧w' =w:=Any.strings_IndexByte lays137 s c w
def lays172_ren:Ren:=⟨fun|172=>241|244=>272|245=>273|247=>289|279=>290|280=>291|281=>292|282=>293|287=>299|316=>157|171=>141|205=>300|321=>302|322=>303|243=>190|246=>225|283=>258|284=>259|285=>260|286=>261|129=>256|317=>280|318=>281|319=>282|320=>283|337=>296|338=>297|n=>n,fun|9=>9|3=>3|75=>141|76=>142|4=>4|5=>5|167=>300|37=>100|0=>0|85=>301|2=>2|168=>303|53=>278|175=>315|46=>159|210=>318|127=>189|145=>325|143=>323|21=>21|171=>280|173=>282|212=>298|51=>276|20=>20|213=>299|232=>320|233=>321|80=>36|n=>n,fun|15=>4|16=>5|17=>1|18=>6|19=>7|n=>n⟩
theorem lays172:Go.Proofs.Lays.n172 prog lays172_ren:=⟨by kernel_rfl,k0 func256 (by kernel_rfl),k0 func141 (by kernel_rfl),k0 func241 (by kernel_rfl),k0 func300 (by kernel_rfl),k0 func190 (by kernel_rfl),k0 func272 (by kernel_rfl),k0 func273 (by kernel_rfl),k0 func225 (by kernel_rfl),k0 func289 (by kernel_rfl),k0 func290 (by kernel_rfl),k0 func291 (by kernel_rfl),k0 func292 (by kernel_rfl),k0 func293 (by kernel_rfl),k0 func258 (by kernel_rfl),k0 func259 (by kernel_rfl),k0 func260 (by kernel_rfl),k0 func261 (by kernel_rfl),k0 func299 (by kernel_rfl),k0 func157 (by kernel_rfl),k0 func280 (by kernel_rfl),k0 func281 (by kernel_rfl),k0 func282 (by kernel_rfl),k0 func283 (by kernel_rfl),k0 func302 (by kernel_rfl),k0 func303 (by kernel_rfl),k0 func296 (by kernel_rfl),k0 func297 (by kernel_rfl),underlying0,isAgg0,sizeOf0,zeroValue0,underlying2,isAgg2,sizeOf2,zeroValue2,underlying3,isAgg3,sizeOf3,zeroValue3,underlying4,isAgg4,sizeOf4,zeroValue4,underlying5,isAgg5,sizeOf5,zeroValue5,underlying9,isAgg9,sizeOf9,zeroValue9,underlying20,isAgg20,sizeOf20,zeroValue20,underlying21,isAgg21,sizeOf21,zeroValue21,underlying100,isAgg100,sizeOf100,zeroValue100,underlying159,isAgg159,sizeOf159,zeroValue159,underlying276,isAgg276,sizeOf276,zeroValue276,underlying278,isAgg278,sizeOf278,zeroValue278,underlying141,isAgg141,sizeOf141,zeroValue141,underlying142,isAgg142,sizeOf142,zeroValue142,underlying301,isAgg301,sizeOf301,zeroValue301,underlying189,isAgg189,sizeOf189,zeroValue189,underlying323,isAgg323,sizeOf323,zeroValue323,underlying325,isAgg325,sizeOf325,zeroValue325,underlying300,isAgg300,sizeOf300,zeroValue300,underlying303,isAgg303,sizeOf303,zeroValue303,underlying280,isAgg280,sizeOf280,zeroValue280,underlying282,isAgg282,sizeOf282,zeroValue282,underlying315,isAgg315,sizeOf315,zeroValue315,underlying318,isAgg318,sizeOf318,zeroValue318,underlying298,isAgg298,sizeOf298,zeroValue298,underlying299,isAgg299,sizeOf299,underlying320,isAgg320,sizeOf320,zeroValue320,underlying321,isAgg321,sizeOf321,zeroValue321,by kernel_rfl,by kernel_rfl,by kernel_rfl,by kernel_rfl,by kernel_rfl⟩
open Go.RowKit in
theorem strconv_Atoi (s:ByteArray)(n:Int)(hl:s.size≤18)(h:Lib.atoi s.data.toList=some n)(w:World):
  Calls prog 241 #[.string s] w fun e w' =>e= .returned (.tuple #[.int .i64 n,.nilIface])∧∃t,w' =Lib.bytesWorld w 5 t:=Any.strconv_Atoi lays172 s n hl h w
def laysM171_ren:Ren:=⟨fun|171=>141|243=>190|246=>225|283=>258|284=>259|285=>260|286=>261|129=>256|317=>280|318=>281|319=>282|320=>283|337=>296|338=>297|n=>n,fun|3=>3|9=>9|2=>2|4=>4|171=>280|0=>0|53=>278|37=>100|5=>5|173=>282|212=>298|51=>276|20=>20|213=>299|46=>159|232=>320|233=>321|n=>n,fun|17=>1|18=>6|19=>7|n=>n⟩
theorem laysM171:Go.Proofs.LaysM.n171 prog laysM171_ren:={
 mixed:=by kernel_rfl
 f129:=k0 func256 (by kernel_rfl)
 f171:=k0 func141 (by kernel_rfl)
 f243:=k0 func190 (by kernel_rfl)
 f246:=k0 func225 (by kernel_rfl)
 f283:=k0 func258 (by kernel_rfl)
 f284:=k0 func259 (by kernel_rfl)
 f285:=k0 func260 (by kernel_rfl)
 f286:=k0 func261 (by kernel_rfl)
 f317:=k0 func280 (by kernel_rfl)
 f318:=k0 func281 (by kernel_rfl)
 f319:=k0 func282 (by kernel_rfl)
 f320:=k0 func283 (by kernel_rfl)
 f337:=k0 func296 (by kernel_rfl)
 f338:=k0 func297 (by kernel_rfl)
 t0:=underlying0
 a0:=isAgg0
 z0:=sizeOf0
 v0:=zeroValue0
 t2:=underlying2
 a2:=isAgg2
 z2:=sizeOf2
 v2:=zeroValue2
 t3:=underlying3
 a3:=isAgg3
 z3:=sizeOf3
 v3:=zeroValue3
 t4:=underlying4
 a4:=isAgg4
 z4:=sizeOf4
 v4:=zeroValue4
 t5:=underlying5
 a5:=isAgg5
 z5:=sizeOf5
 v5:=zeroValue5
 t9:=underlying9
 a9:=isAgg9
 z9:=sizeOf9
 v9:=zeroValue9
 t20:=underlying20
 a20:=isAgg20
 z20:=sizeOf20
 v20:=zeroValue20
 t37:=underlying100
 a37:=isAgg100
 z37:=sizeOf100
 v37:=zeroValue100
 t46:=underlying159
 a46:=isAgg159
 z46:=sizeOf159
 v46:=zeroValue159
 t51:=underlying276
 a51:=isAgg276
 z51:=sizeOf276
 v51:=zeroValue276
 t53:=underlying278
 a53:=isAgg278
 z53:=sizeOf278
 v53:=zeroValue278
 t171:=underlying280
 a171:=isAgg280
 z171:=sizeOf280
 v171:=zeroValue280
 t173:=underlying282
 a173:=isAgg282
 z173:=sizeOf282
 v173:=zeroValue282
 t212:=underlying298
 a212:=isAgg298
 z212:=sizeOf298
 v212:=zeroValue298
 t213:=underlying299
 a213:=isAgg299
 z213:=sizeOf299
 t232:=underlying320
 a232:=isAgg320
 z232:=sizeOf320
 v232:=zeroValue320
 t233:=underlying321
 a233:=isAgg321
 z233:=sizeOf321
 v233:=zeroValue321
 g17:=by kernel_rfl
 g18:=by kernel_rfl
 g19:=by kernel_rfl
 i0:=by kernel_rfl
 i2:=by kernel_rfl
 i3:=by kernel_rfl
 i4:=by kernel_rfl
 i5:=by kernel_rfl
 i9:=by kernel_rfl
 i20:=by kernel_rfl
 i37:=by kernel_rfl
 i46:=by kernel_rfl
 i51:=by kernel_rfl
 i53:=by kernel_rfl
 i171:=by kernel_rfl
 i173:=by kernel_rfl
 i212:=by kernel_rfl
 i232:=by kernel_rfl
 i233:=by kernel_rfl
 m17:=by kernel_rfl
 m18:=by kernel_rfl
 m19:=by kernel_rfl}
open Go.RowKit Go.Sort Go.Lib in
theorem strconv_Itoa (n:Int)(h0: -9223372036854775808≤n)(h1:n≤9223372036854775807)(w:World)(htab:Lib.TabIs prog w "internal/strconv.uint64pow10" .u64 Lib.pow10Tab):
  Calls prog 141 #[.int .i64 n] w fun e w' =>e= .returned (.string ⟨(Lib.itoa n).toArray⟩)∧∃k os,w' =grow (w.drewN k) os:=Any.strconv_Itoa laysM171 n h0 h1 w htab
def laysM316_ren:Ren:=⟨fun|316=>157|n=>n,fun|9=>9|3=>3|4=>4|37=>100|0=>0|127=>189|5=>5|n=>n,fun|n=>n⟩
theorem laysM316:Go.Proofs.LaysM.n316 prog laysM316_ren:={
 mixed:=by kernel_rfl
 f316:=k0 func157 (by kernel_rfl)
 t0:=underlying0
 a0:=isAgg0
 z0:=sizeOf0
 v0:=zeroValue0
 t3:=underlying3
 a3:=isAgg3
 z3:=sizeOf3
 v3:=zeroValue3
 t4:=underlying4
 a4:=isAgg4
 z4:=sizeOf4
 v4:=zeroValue4
 t9:=underlying9
 a9:=isAgg9
 z9:=sizeOf9
 v9:=zeroValue9
 t37:=underlying100
 a37:=isAgg100
 z37:=sizeOf100
 v37:=zeroValue100
 t127:=underlying189
 a127:=isAgg189
 z127:=sizeOf189
 v127:=zeroValue189
 t5:=underlying5
 a5:=isAgg5
 z5:=sizeOf5
 v5:=zeroValue5
 i0:=by kernel_rfl
 i3:=by kernel_rfl
 i4:=by kernel_rfl
 i5:=by kernel_rfl
 i9:=by kernel_rfl
 i37:=by kernel_rfl
 i127:=by kernel_rfl}
open Go.RowKit in
theorem stringslite_Clone (s:ByteArray)(w:World)(hlim:s.size≤281474976710656):
  Calls prog 157 #[.string s] w fun e w' =>e= .returned (.string s)∧Below w.heap.size w w' :=Any.stringslite_Clone laysM316 s w hlim
def lays143_ren:Ren:=⟨fun|143=>229|219=>266|217=>270|225=>285|224=>286|267=>287|266=>288|314=>298|n=>n,fun|9=>9|3=>3|4=>4|5=>5|46=>159|146=>313|51=>276|n=>n,fun|1=>0|n=>n⟩
theorem lays143:Go.Proofs.Lays.n143 prog lays143_ren:=⟨by kernel_rfl,k0 func229 (by kernel_rfl),k0 func270 (by kernel_rfl),k0 func266 (by kernel_rfl),k0 func286 (by kernel_rfl),k0 func285 (by kernel_rfl),k0 func288 (by kernel_rfl),k0 func287 (by kernel_rfl),k0 func298 (by kernel_rfl),underlying3,isAgg3,sizeOf3,zeroValue3,underlying4,isAgg4,sizeOf4,zeroValue4,underlying5,isAgg5,sizeOf5,zeroValue5,underlying9,isAgg9,sizeOf9,zeroValue9,underlying159,isAgg159,sizeOf159,zeroValue159,underlying276,isAgg276,sizeOf276,zeroValue276,underlying313,isAgg313,sizeOf313,zeroValue313,by kernel_rfl⟩
open Go.RowKit Go.Lib in
theorem strings_Index_one (s:ByteArray)(c:UInt8)(w:World):
  Calls prog 229 #[.string s,.string ⟨#[c]⟩] w fun e w' =>e= .returned (.int .i64 (Lib.indexByte s.data.toList c))∧w' =w:=Any.strings_Index_one lays143 s c w
def lays145_ren:Ren:=⟨fun|145=>210|220=>239|219=>266|217=>270|225=>285|224=>286|267=>287|266=>288|314=>298|n=>n,fun|9=>9|4=>4|59=>121|3=>3|5=>5|46=>159|146=>313|51=>276|n=>n,fun|1=>0|n=>n⟩
theorem lays145:Go.Proofs.Lays.n145 prog lays145_ren:=⟨by kernel_rfl,k0 func210 (by kernel_rfl),k0 func270 (by kernel_rfl),k0 func266 (by kernel_rfl),k0 func239 (by kernel_rfl),k0 func286 (by kernel_rfl),k0 func285 (by kernel_rfl),k0 func288 (by kernel_rfl),k0 func287 (by kernel_rfl),k0 func298 (by kernel_rfl),underlying3,isAgg3,sizeOf3,zeroValue3,underlying4,isAgg4,sizeOf4,zeroValue4,underlying5,isAgg5,sizeOf5,zeroValue5,underlying9,isAgg9,sizeOf9,zeroValue9,underlying159,isAgg159,sizeOf159,zeroValue159,underlying276,isAgg276,sizeOf276,zeroValue276,underlying121,isAgg121,sizeOf121,zeroValue121,underlying313,isAgg313,sizeOf313,zeroValue313,by kernel_rfl⟩
open Go.RowKit Go.Lib in
theorem strings_Cut (s sep:ByteArray)(m:Int)(w:World)(hs:s.size<4294967281)(hm:w.cell? ⟨0,0,none⟩=some (.int .i64 m)):
  Calls prog 210 #[.string s,.string sep] w fun e w' =>e= .returned (.tuple #[.string ⟨(Lib.cut s.data.toList sep.data.toList).1.toArray⟩,.string ⟨(Lib.cut s.data.toList sep.data.toList).2.1.toArray⟩,.bool (Lib.cut s.data.toList sep.data.toList).2.2])∧∃n,w' =w.drewN n:=Any.strings_Cut lays145 s sep m w hs hm
def lays190_ren:Ren:=⟨fun|190=>183|125=>222|258=>221|128=>255|129=>256|302=>247|303=>248|304=>249|305=>250|306=>251|307=>252|308=>198|309=>253|310=>254|333=>275|329=>276|330=>277|334=>278|335=>279|336=>232|344=>295|n=>n,fun|31=>45|9=>9|3=>3|46=>159|0=>0|51=>276|53=>278|4=>4|183=>270|182=>269|131=>117|5=>5|218=>290|222=>294|228=>307|229=>170|n=>n,fun|n=>n⟩
theorem lays190:Go.Proofs.Lays.n190 prog lays190_ren:=⟨by kernel_rfl,k0 func222 (by kernel_rfl),k0 func255 (by kernel_rfl),k0 func256 (by kernel_rfl),k0 func183 (by kernel_rfl),k0 func221 (by kernel_rfl),k0 func247 (by kernel_rfl),k0 func248 (by kernel_rfl),k0 func249 (by kernel_rfl),k0 func250 (by kernel_rfl),k0 func251 (by kernel_rfl),k0 func252 (by kernel_rfl),k0 func198 (by kernel_rfl),k0 func253 (by kernel_rfl),k0 func254 (by kernel_rfl),k0 func276 (by kernel_rfl),k0 func277 (by kernel_rfl),k0 func275 (by kernel_rfl),k0 func278 (by kernel_rfl),k0 func279 (by kernel_rfl),k0 func232 (by kernel_rfl),k0 func295 (by kernel_rfl),underlying0,isAgg0,sizeOf0,zeroValue0,underlying3,isAgg3,sizeOf3,zeroValue3,underlying4,isAgg4,sizeOf4,zeroValue4,underlying5,isAgg5,sizeOf5,zeroValue5,underlying9,isAgg9,sizeOf9,zeroValue9,underlying45,isAgg45,sizeOf45,zeroValue45,underlying159,isAgg159,sizeOf159,zeroValue159,underlying276,isAgg276,sizeOf276,zeroValue276,underlying278,isAgg278,sizeOf278,zeroValue278,underlying117,isAgg117,sizeOf117,zeroValue117,underlying269,isAgg269,sizeOf269,zeroValue269,underlying270,isAgg270,sizeOf270,zeroValue270,underlying290,isAgg290,sizeOf290,zeroValue290,underlying294,isAgg294,sizeOf294,zeroValue294,underlying307,isAgg307,sizeOf307,zeroValue307,underlying170,isAgg170,sizeOf170,zeroValue170⟩
open Go.Sort Go.RowKit in
theorem slices_Sort_string (blk off cap:Nat)(ss:List (List UInt8))(w:World)(hH:Holds encStr w blk off ss.toArray)(hblk:blk<w.heap.size)(hsz:ss.length<4611686018427387904):
  Calls prog 183 #[.slice (some ⟨blk,off,none⟩) ss.length cap] w fun e w' =>
   e= .returned (.tuple #[])∧∃n os,w' =grow (putRow encStr (Sort.ahead w n) blk off (ss.mergeSort fun x y=>decide (x≤y)).toArray) os:=Any.slices_Sort_string lays190 blk off cap ss w hH hblk hsz
def lays99_ren:Ren:=⟨fun|99=>230|206=>267|n=>n,fun|9=>9|4=>4|3=>3|n=>n,fun|n=>n⟩
theorem lays99:Go.Proofs.Lays.n99 prog lays99_ren:=⟨by kernel_rfl,k0 func230 (by kernel_rfl),k0 func267 (by kernel_rfl),underlying3,isAgg3,sizeOf3,zeroValue3,underlying4,isAgg4,sizeOf4,zeroValue4,underlying9,isAgg9,sizeOf9,zeroValue9⟩
open Go.RowKit Go.Lib in
theorem strings_HasPrefix (s p:ByteArray)(w:World):
  Calls prog 230 #[.string s,.string p] w fun e w' =>e= .returned (.bool (Lib.hasPrefix s.data.toList p.data.toList))∧w' =w:=Any.strings_HasPrefix lays99 s p w
def lays102_ren:Ren:=⟨fun|102=>211|209=>240|207=>271|n=>n,fun|9=>9|4=>4|3=>3|n=>n,fun|n=>n⟩
theorem lays102:Go.Proofs.Lays.n102 prog lays102_ren:=⟨by kernel_rfl,k0 func211 (by kernel_rfl),k0 func271 (by kernel_rfl),k0 func240 (by kernel_rfl),underlying3,isAgg3,sizeOf3,zeroValue3,underlying4,isAgg4,sizeOf4,zeroValue4,underlying9,isAgg9,sizeOf9,zeroValue9⟩
open Go.RowKit Go.Lib in
theorem strings_TrimSuffix (s p:ByteArray)(w:World)(hs:s.size≤9223372036854775807):
  Calls prog 211 #[.string s,.string p] w fun e w' =>e= .returned (.string ⟨(Lib.trimSuffix s.data.toList p.data.toList).toArray⟩)∧w' =w:=Any.strings_TrimSuffix lays102 s p w hs
def lays146_ren:Ren:=⟨fun|146=>143|221=>192|268=>227|138=>228|143=>229|195=>263|197=>264|218=>265|219=>266|260=>284|217=>270|225=>285|224=>286|267=>287|266=>288|314=>298|n=>n,fun|9=>9|31=>45|3=>3|4=>4|0=>0|105=>285|21=>21|5=>5|46=>159|119=>309|139=>312|138=>311|146=>313|51=>276|n=>n,fun|1=>0|3=>2|4=>3|n=>n⟩
theorem lays146:Go.Proofs.Lays.n146 prog lays146_ren:=⟨by kernel_rfl,k0 func228 (by kernel_rfl),k0 func229 (by kernel_rfl),k0 func143 (by kernel_rfl),k0 func263 (by kernel_rfl),k0 func264 (by kernel_rfl),k0 func270 (by kernel_rfl),k0 func265 (by kernel_rfl),k0 func266 (by kernel_rfl),k0 func192 (by kernel_rfl),k0 func286 (by kernel_rfl),k0 func285 (by kernel_rfl),k0 func284 (by kernel_rfl),k0 func288 (by kernel_rfl),k0 func287 (by kernel_rfl),k0 func227 (by kernel_rfl),k0 func298 (by kernel_rfl),underlying0,isAgg0,sizeOf0,zeroValue0,underlying3,isAgg3,sizeOf3,zeroValue3,underlying4,isAgg4,sizeOf4,zeroValue4,underlying5,isAgg5,sizeOf5,zeroValue5,underlying9,isAgg9,sizeOf9,zeroValue9,underlying21,isAgg21,sizeOf21,zeroValue21,underlying45,isAgg45,sizeOf45,zeroValue45,underlying159,isAgg159,sizeOf159,zeroValue159,underlying276,isAgg276,sizeOf276,zeroValue276,underlying285,isAgg285,sizeOf285,zeroValue285,underlying309,isAgg309,sizeOf309,underlying311,isAgg311,sizeOf311,zeroValue311,underlying312,isAgg312,sizeOf312,zeroValue312,underlying313,isAgg313,sizeOf313,zeroValue313,by kernel_rfl,by kernel_rfl,by kernel_rfl⟩
open Go.RowKit Go.Lib in
theorem strings_Split (s sep:ByteArray)(m:Int)(w:World)(hs:s.size<4294967281)(hm:w.cell? ⟨0,0,none⟩=some (.int .i64 m))(h1:1≤sep.size):
  Calls prog 143 #[.string s,.string sep] w fun e w' =>
   e= .returned (.slice (some ⟨w.heap.size,0,none⟩) (Lib.countB s sep+1) (Lib.countB s sep+1))∧w' =w.alloc (.cells ((Lib.splitB sep 0 (Lib.countB s sep) s).map Value.string).toArray 9):=Any.strings_Split lays146 (by kernel_rfl) s sep m w hs hm h1
def laysM146_ren:Ren:=⟨fun|146=>143|221=>192|268=>227|138=>228|143=>229|195=>263|197=>264|218=>265|219=>266|260=>284|217=>270|225=>285|224=>286|267=>287|266=>288|314=>298|n=>n,fun|9=>9|31=>45|3=>3|4=>4|0=>0|105=>285|21=>21|5=>5|46=>159|119=>309|139=>312|138=>311|146=>313|51=>276|n=>n,fun|1=>0|3=>2|4=>3|n=>n⟩
theorem laysM146:Go.Proofs.LaysM.n146 prog laysM146_ren:={
 mixed:=by kernel_rfl
 f138:=k0 func228 (by kernel_rfl)
 f143:=k0 func229 (by kernel_rfl)
 f146:=k0 func143 (by kernel_rfl)
 f195:=k0 func263 (by kernel_rfl)
 f197:=k0 func264 (by kernel_rfl)
 f217:=k0 func270 (by kernel_rfl)
 f218:=k0 func265 (by kernel_rfl)
 f219:=k0 func266 (by kernel_rfl)
 f221:=k0 func192 (by kernel_rfl)
 f224:=k0 func286 (by kernel_rfl)
 f225:=k0 func285 (by kernel_rfl)
 f260:=k0 func284 (by kernel_rfl)
 f266:=k0 func288 (by kernel_rfl)
 f267:=k0 func287 (by kernel_rfl)
 f268:=k0 func227 (by kernel_rfl)
 f314:=k0 func298 (by kernel_rfl)
 t0:=underlying0
 a0:=isAgg0
 z0:=sizeOf0
 v0:=zeroValue0
 t3:=underlying3
 a3:=isAgg3
 z3:=sizeOf3
 v3:=zeroValue3
 t4:=underlying4
 a4:=isAgg4
 z4:=sizeOf4
 v4:=zeroValue4
 t5:=underlying5
 a5:=isAgg5
 z5:=sizeOf5
 v5:=zeroValue5
 t9:=underlying9
 a9:=isAgg9
 z9:=sizeOf9
 v9:=zeroValue9
 t21:=underlying21
 a21:=isAgg21
 z21:=sizeOf21
 v21:=zeroValue21
 t31:=underlying45
 a31:=isAgg45
 z31:=sizeOf45
 v31:=zeroValue45
 t46:=underlying159
 a46:=isAgg159
 z46:=sizeOf159
 v46:=zeroValue159
 t51:=underlying276
 a51:=isAgg276
 z51:=sizeOf276
 v51:=zeroValue276
 t105:=underlying285
 a105:=isAgg285
 z105:=sizeOf285
 v105:=zeroValue285
 t119:=underlying309
 a119:=isAgg309
 z119:=sizeOf309
 t138:=underlying311
 a138:=isAgg311
 z138:=sizeOf311
 v138:=zeroValue311
 t139:=underlying312
 a139:=isAgg312
 z139:=sizeOf312
 v139:=zeroValue312
 t146:=underlying313
 a146:=isAgg313
 z146:=sizeOf313
 v146:=zeroValue313
 g1:=by kernel_rfl
 g3:=by kernel_rfl
 g4:=by kernel_rfl
 i0:=by kernel_rfl
 i3:=by kernel_rfl
 i4:=by kernel_rfl
 i5:=by kernel_rfl
 i9:=by kernel_rfl
 i21:=by kernel_rfl
 i31:=by kernel_rfl
 i46:=by kernel_rfl
 i51:=by kernel_rfl
 i105:=by kernel_rfl
 i138:=by kernel_rfl
 i139:=by kernel_rfl
 i146:=by kernel_rfl
 m1:=by kernel_rfl
 s1_3:=fun w h=>Go.Proofs.cell_of_shapedOpen_int (zero:= #[.int .i64 0]) (t:=3) h (of_decide_eq_true (by kernel_rfl)) (by kernel_rfl) rfl (by kernel_rfl) (by kernel_rfl) underlying3
 m3:=by kernel_rfl
 m4:=by kernel_rfl}
def lays107_ren:Ren:=⟨fun|107=>84|108=>133|n=>n,fun|28=>39|3=>3|4=>4|0=>0|n=>n,fun|n=>n⟩
theorem lays107:Go.Proofs.Lays.n107 prog lays107_ren:=⟨by kernel_rfl,k0 func84 (by kernel_rfl),k0 func133 (by kernel_rfl),underlying0,isAgg0,sizeOf0,zeroValue0,underlying3,isAgg3,sizeOf3,zeroValue3,underlying4,isAgg4,sizeOf4,zeroValue4,underlying39,isAgg39,sizeOf39,zeroValue39⟩
open Go.Lib in
theorem slices_Contains_int (b off n c:Nat)(zs:List Int)(x:Int)(w:World)(hz:n≤zs.length)(hbig:n≤9223372036854775807)(hc:∀j,j<zs.length→w.cell? ⟨b,off+j,none⟩=some (.int .i64 (zs.getD j 0))):
  Calls prog 84 #[.slice (some ⟨b,off,none⟩) n c,.int .i64 x] w fun e w' =>e= .returned (.bool ((zs.take n).contains x))∧w' =w:=Any.slices_Contains_int lays107 b off n c zs x w hz hbig hc
open Go.Lib in
theorem slices_Contains_int_empty (a:Option Addr)(c:Nat)(x:Int)(w:World):
  Calls prog 84 #[.slice a 0 c,.int .i64 x] w fun e w' =>e= .returned (.bool false)∧w' =w:=Any.slices_Contains_int_empty lays107 a c x w
def lays112_ren:Ren:=⟨fun|112=>205|n=>n,fun|28=>39|3=>3|4=>4|0=>0|n=>n,fun|n=>n⟩
theorem lays112:Go.Proofs.Lays.n112 prog lays112_ren:=⟨by kernel_rfl,k0 func205 (by kernel_rfl),underlying0,isAgg0,sizeOf0,zeroValue0,underlying3,isAgg3,sizeOf3,zeroValue3,underlying4,isAgg4,sizeOf4,zeroValue4,underlying39,isAgg39,sizeOf39,zeroValue39⟩
open Go.RowKit Go.Lib Go.Sort in
theorem slices_Reverse_int (blk off cap:Nat)(zs:List Int)(w:World)(hH:Holds (Value.int .i64) w blk off zs.toArray)(hsz:zs.length≤9223372036854775807):
  Calls prog 205 #[.slice (some ⟨blk,off,none⟩) zs.length cap] w fun e w' =>e= .returned (.tuple #[])∧∃n,w' =putRow (Value.int .i64) (Sort.ahead w n) blk off zs.reverse.toArray:=Any.slices_Reverse_int lays112 blk off cap zs w hH hsz
open Go.RowKit Go.Lib Go.Sort in
theorem slices_Reverse_int_empty (a:Option Addr)(cap:Nat)(w:World):
  Calls prog 205 #[.slice a 0 cap] w fun e w' =>e= .returned (.tuple #[])∧w' =w:=Any.slices_Reverse_int_empty lays112 a cap w
def laysNm216_ren:Ren:=⟨fun|16=>150|n=>n,fun|24=>45|9=>9|4=>4|n=>n,fun|n=>n⟩
theorem laysNm216:Go.Proofs.Lays2.n16 prog laysNm216_ren:={
 mixed:=by kernel_rfl
 f16:=k0 func150 (by kernel_rfl)
 t4:=underlying4
 a4:=isAgg4
 z4:=sizeOf4
 v4:=zeroValue4
 t9:=underlying9
 a9:=isAgg9
 z9:=sizeOf9
 v9:=zeroValue9
 t24:=underlying45
 a24:=isAgg45
 z24:=sizeOf45
 v24:=zeroValue45
 i9:=by kernel_rfl}
open Go.RowKit Go.Lib in
theorem slices_Clone_string (b off n c:Nat)(zs:List ByteArray)(w:World)(hz:n≤zs.length)(hbig:n*16≤140737488355328)(hc:∀j,j<zs.length→w.cell? ⟨b,off+j,none⟩=some (.string (zs.getD j ByteArray.empty))):
  Calls prog 150 #[.slice (some ⟨b,off,none⟩) n c] w fun e w' =>∃v',e= .returned v' ∧w'.ownsRow w.heap.size 9 1 v' n ((zs.take n).map (Value.string))∧v' ≠ .slice none 0 0∧Below w.heap.size w w' :=Any.slices_Clone_string laysNm216 b off n c zs w hz hbig hc
open Go.RowKit Go.Lib in
theorem slices_Clone_string_nil (n c:Nat)(w:World):
  Calls prog 150 #[.slice none n c] w fun e w' =>e= .returned (.slice none 0 0)∧w' =w:=Any.slices_Clone_string_nil laysNm216 n c w
open Go.RowKit Go.Lib in
theorem slices_Clone_string_zero (a:Addr)(c:Nat)(w:World):
  Calls prog 150 #[.slice (some a) 0 c] w fun e w' =>∃v',e= .returned v' ∧w'.ownsRow w.heap.size 9 1 v' 0 []∧v' ≠ .slice none 0 0∧Below w.heap.size w w' :=Any.slices_Clone_string_zero laysNm216 a c w
def lays194_ren:Ren:=⟨fun|194=>184|n=>n,fun|31=>45|9=>9|3=>3|4=>4|0=>0|n=>n,fun|n=>n⟩
theorem lays194:Go.Proofs.Lays.n194 prog lays194_ren:=⟨by kernel_rfl,k0 func184 (by kernel_rfl),underlying0,isAgg0,sizeOf0,zeroValue0,underlying3,isAgg3,sizeOf3,zeroValue3,underlying4,isAgg4,sizeOf4,zeroValue4,underlying9,isAgg9,sizeOf9,zeroValue9,underlying45,isAgg45,sizeOf45,zeroValue45⟩
open Go.RowKit Go.Lib Go.Sort in
theorem slices_Compact_string (blk off cap:Nat)(zs:List (List UInt8))(w:World)(hH:Holds encStr w blk off zs.toArray)(hsz:zs.length≤9223372036854775807)(hcap:zs.length≤cap):
  Calls prog 184 #[.slice (some ⟨blk,off,none⟩) zs.length cap] w fun e w' =>e= .returned (.slice (some ⟨blk,off,none⟩) (Lib.compact zs).length cap)∧∃q,w' =putRow encStr (Sort.ahead w q) blk off (Lib.compact zs++List.replicate (zs.length-(Lib.compact zs).length) []).toArray:=Any.slices_Compact_string lays194 blk off cap zs w hH hsz hcap
open Go.RowKit Go.Lib Go.Sort in
theorem slices_Compact_string_empty (a:Option Addr)(cap:Nat)(w:World):
  Calls prog 184 #[.slice a 0 cap] w fun e w' =>e= .returned (.slice a 0 cap)∧w' =w:=Any.slices_Compact_string_empty lays194 a cap w
open Go.RowKit Go.Sort in
theorem slices_Sort_string_none (p:Option Addr)(cap:Nat)(w:World):
  Calls prog 183 #[.slice p 0 cap] w fun e w' =>e= .returned (.tuple #[])∧w' =w:=Any.slices_Sort_string_none lays190 p cap w
def laysSlH10_f203_ren:Ren:=⟨fun|10=>203|6=>235|n=>n,fun|22=>39|23=>3|25=>103|3=>3|4=>4|0=>0|n=>n,fun|n=>n⟩
theorem laysSlH10_f203:Go.Proofs.SlLaysH.n10 prog laysSlH10_f203_ren:={
 mixed:=by kernel_rfl
 f6:=⟨f235.name,by decide,k0 func235 (by kernel_rfl)⟩
 f10:=⟨f203.name,by decide,k0 func203 (by kernel_rfl)⟩
 t0:=underlying0
 a0:=isAgg0
 z0:=sizeOf0
 v0:=zeroValue0
 t3:=underlying3
 a3:=isAgg3
 z3:=sizeOf3
 v3:=zeroValue3
 t4:=underlying4
 a4:=isAgg4
 z4:=sizeOf4
 v4:=zeroValue4
 t22:=underlying39
 a22:=isAgg39
 z22:=sizeOf39
 v22:=zeroValue39
 a23:=isAgg3
 z23:=sizeOf3
 t25:=underlying103
 a25:=isAgg103
 z25:=sizeOf103
 v25:=zeroValue103}
open Go.RowKit Go.Lib Go.Sort in
theorem slices_DeleteFunc {α:Type} [Inhabited α] (enc:α→Value)(hO:OneCell enc)(p:α→Bool)(g:Nat)(lb:Array Value)(eg:∀args w,(callFunc g args).run prog w= .ok (.enter g args) w)(zr:α)(v23:∀w,(zeroValue 3).run prog w= .ok (enc zr) w)(blk off cap:Nat)(d:Array α)(w:World)(hp:PredAt prog g lb enc p w)(hpo:PredOver prog g lb enc p blk off d.size w)(hH:Holds enc w blk off d)(hsz:d.size≤9223372036854775807)(hcap:d.size≤cap):
  Calls prog 203 #[.slice (some ⟨blk,off,none⟩) d.size cap,.func (.func g) #[] lb] w fun e w' =>e= .returned (.slice (some ⟨blk,off,none⟩) (d.toList.filter fun x=> !p x).length cap)∧∃q,w' =putRow enc (Sort.ahead w q) blk off ((d.toList.filter fun x=> !p x)++List.replicate (d.size-(d.toList.filter fun x=> !p x).length) zr).toArray:=AnyE.slices_DeleteFunc laysSlH10_f203 enc hO p g lb eg zr v23 blk off cap d w hp hpo hH hsz hcap
end Go.Proofs.Tryz
