/- Part of a proof, said shortly. -/
import Derived.Shelf.Small.Bits
import Derived.Shelf.Small.Wraps
import Derived.Shelf.Strconv.Itoa0
import Derived.Shelf.Strconv.Itoa1
import Derived.Shelf.LaysM
import Derived.Shelf.Strconv.Itoa2
import Derived.Shelf.Strings.Search1
import Derived.Shelf.Strings.Search2
import Derived.Shelf.Strings.Search3
import Derived.Shelf.Strings.Cut
import Derived.Shelf.Strings.Shaped
import Derived.Shelf.Strconv.AppendUint10
import Derived.Shelf.Strings.Prefix
import Derived.Test.YtbihljnjaondcaaGreatDoorProg
import Derived.Test.YtbihljnjaondcaaGreatDoorAlt
namespace Go.Proofs
open Go.Shelf YtbihljnjaondcaaGreatDoor
def Tryz.lays128_ren:Go.Shelf.Ren:=⟨fun | 128=>206 | n=>n,fun | 51=>99 | 3=>3 | 4=>4 | 46=>125 | 5=>5 | 9=>9 | n=>n,fun | n=>n⟩
theorem Tryz.lays128:Go.Proofs.Lays.n128 Tryz.prog Tryz.lays128_ren := {
 mixed:=by kernel_rfl
 f128:=Tryz.func206.trans (congrArg some (by kernel_rfl))
 t3:=bsJ
 a3:=bsO
 z3:=bsP
 v3:=bsQ
 t4:=bsF
 a4:=bsC
 z4:=bsD
 v4:=bsR
 t5:=bsU
 a5:=bsY
 z5:=bsZ
 v5:=bs0
 t9:=bsV
 a9:=bs1
 z9:=bs2
 v9:=bs3
 t46:=bs4
 a46:=bs5
 z46:=bs6
 v46:=bs7
 t51:=btd
 a51:=bth
 z51:=bti
 v51:=btj }
theorem Tryz.bits_Len32 (x:Int) (w:World) (h0:0≤x) (h1:x≤4294967295) :
  Calls Tryz.prog 206 #[.int .u32 x] w fun e w'=>e = .returned (.int .i64 (Lib.bitLen x.toNat))∧w'=w:=Any.bits_Len32 Tryz.lays128 x w h0 h1
def Tryz.lays125_ren:Go.Shelf.Ren:=⟨fun | 125=>153 | 128=>206 | 129=>207 | n=>n,fun | 46=>125 | 3=>3 | 51=>99 | 53=>144 | 4=>4 | 5=>5 | 9=>9 | n=>n,fun | n=>n⟩
theorem Tryz.lays125:Go.Proofs.Lays.n125 Tryz.prog Tryz.lays125_ren := {
 mixed:=by kernel_rfl
 f125:=Tryz.func153.trans (congrArg some (by kernel_rfl))
 f128:=Tryz.func206.trans (congrArg some (by kernel_rfl))
 f129:=Tryz.func207.trans (congrArg some (by kernel_rfl))
 t3:=bsJ
 a3:=bsO
 z3:=bsP
 v3:=bsQ
 t4:=bsF
 a4:=bsC
 z4:=bsD
 v4:=bsR
 t5:=bsU
 a5:=bsY
 z5:=bsZ
 v5:=bs0
 t9:=bsV
 a9:=bs1
 z9:=bs2
 v9:=bs3
 t46:=bs4
 a46:=bs5
 z46:=bs6
 v46:=bs7
 t51:=btd
 a51:=bth
 z51:=bti
 v51:=btj
 t53:=btA
 a53:=btI
 z53:=btJ
 v53:=btK }
theorem Tryz.bits_Len (x:Int) (w:World) (h0:0≤x) (h1:x≤18446744073709551615) :
  Calls Tryz.prog 153 #[.int .u64 x] w fun e w'=>e = .returned (.int .i64 (Lib.bitLen x.toNat))∧w'=w:=Any.bits_Len Tryz.lays125 x w h0 h1
def Tryz.lays133_ren:Go.Shelf.Ren:=⟨fun | 133=>252 | 128=>206 | n=>n,fun | 51=>99 | 3=>3 | 4=>4 | 46=>125 | 5=>5 | 9=>9 | n=>n,fun | n=>n⟩
theorem Tryz.lays133:Go.Proofs.Lays.n133 Tryz.prog Tryz.lays133_ren := {
 mixed:=by kernel_rfl
 f128:=Tryz.func206.trans (congrArg some (by kernel_rfl))
 f133:=Tryz.func252.trans (congrArg some (by kernel_rfl))
 t3:=bsJ
 a3:=bsO
 z3:=bsP
 v3:=bsQ
 t4:=bsF
 a4:=bsC
 z4:=bsD
 v4:=bsR
 t5:=bsU
 a5:=bsY
 z5:=bsZ
 v5:=bs0
 t9:=bsV
 a9:=bs1
 z9:=bs2
 v9:=bs3
 t46:=bs4
 a46:=bs5
 z46:=bs6
 v46:=bs7
 t51:=btd
 a51:=bth
 z51:=bti
 v51:=btj }
theorem Tryz.bits_LeadingZeros32 (x:Int) (w:World) (h0:0≤x) (h1:x≤4294967295) :
  Calls Tryz.prog 252 #[.int .u32 x] w fun e w'=>e = .returned (.int .i64 (32 - (Lib.bitLen x.toNat:Int)))∧w'=w:=Any.bits_LeadingZeros32 Tryz.lays133 x w h0 h1
def Tryz.lays103_ren:Go.Shelf.Ren:=⟨fun | 103=>173 | 210=>219 | 206=>245 | n=>n,fun | 9=>9 | 4=>4 | 24=>139 | 3=>3 | n=>n,fun | n=>n⟩
theorem Tryz.lays103:Go.Proofs.Lays.n103 Tryz.prog Tryz.lays103_ren := {
 mixed:=by kernel_rfl
 f103:=Tryz.func173.trans (congrArg some (by kernel_rfl))
 f206:=Tryz.func245.trans (congrArg some (by kernel_rfl))
 f210:=Tryz.func219.trans (congrArg some (by kernel_rfl))
 t3:=bsJ
 a3:=bsO
 z3:=bsP
 v3:=bsQ
 t4:=bsF
 a4:=bsC
 z4:=bsD
 v4:=bsR
 t9:=bsV
 a9:=bs1
 z9:=bs2
 v9:=bs3
 t24:=Tryz.underlying139
 a24:=Tryz.isAgg139
 z24:=Tryz.sizeOf139
 v24:=Tryz.zeroValue139 }
open Go.RowKit in
theorem Tryz.strings_CutPrefix (s p:ByteArray) (w:World) :
  Calls Tryz.prog 173 #[.string s,.string p] w fun e w'=>e = .returned (.tuple #[.string ⟨(Lib.trimPrefix s.data.toList p.data.toList).toArray⟩,.bool (Lib.hasPrefix s.data.toList p.data.toList)])∧w'=w:=Any.strings_CutPrefix Tryz.lays103 s p w
def Tryz.lays129_ren:Go.Shelf.Ren:=⟨fun | 129=>207 | n=>n,fun | 53=>144 | 3=>3 | 4=>4 | 46=>125 | 5=>5 | 9=>9 | n=>n,fun | n=>n⟩
theorem Tryz.lays129:Go.Proofs.Lays.n129 Tryz.prog Tryz.lays129_ren := {
 mixed:=by kernel_rfl
 f129:=Tryz.func207.trans (congrArg some (by kernel_rfl))
 t3:=bsJ
 a3:=bsO
 z3:=bsP
 v3:=bsQ
 t4:=bsF
 a4:=bsC
 z4:=bsD
 v4:=bsR
 t5:=bsU
 a5:=bsY
 z5:=bsZ
 v5:=bs0
 t9:=bsV
 a9:=bs1
 z9:=bs2
 v9:=bs3
 t46:=bs4
 a46:=bs5
 z46:=bs6
 v46:=bs7
 t53:=btA
 a53:=btI
 z53:=btJ
 v53:=btK }
theorem Tryz.bits_Len64 (x:Int) (w:World) (h0:0≤x) (h1:x≤18446744073709551615) :
  Calls Tryz.prog 207 #[.int .u64 x] w fun e w'=>e = .returned (.int .i64 (Lib.bitLen x.toNat))∧w'=w:=Any.bits_Len64 Tryz.lays129 x w h0 h1
def Tryz.lays144_ren:Go.Shelf.Ren:=⟨fun | 144=>107 | 143=>172 | 219=>218 | 217=>241 | 225=>242 | 224=>243 | 267=>244 | 266=>255 | 314=>256 | n=>n,fun | 9=>9 | 4=>4 | 3=>3 | 5=>5 | 46=>125 | 146=>185 | 51=>99 | n=>n,fun | 1=>0 | n=>n⟩
theorem Tryz.lays144:Go.Proofs.Lays.n144 Tryz.prog Tryz.lays144_ren := {
 mixed:=by kernel_rfl
 f143:=Tryz.func172.trans (congrArg some (by kernel_rfl))
 f144:=Tryz.func107.trans (congrArg some (by kernel_rfl))
 f217:=Tryz.func241.trans (congrArg some (by kernel_rfl))
 f219:=Tryz.func218.trans (congrArg some (by kernel_rfl))
 f224:=Tryz.func243.trans (congrArg some (by kernel_rfl))
 f225:=Tryz.func242.trans (congrArg some (by kernel_rfl))
 f266:=Tryz.func255.trans (congrArg some (by kernel_rfl))
 f267:=Tryz.func244.trans (congrArg some (by kernel_rfl))
 f314:=Tryz.func256.trans (congrArg some (by kernel_rfl))
 t3:=bsJ
 a3:=bsO
 z3:=bsP
 v3:=bsQ
 t4:=bsF
 a4:=bsC
 z4:=bsD
 v4:=bsR
 t5:=bsU
 a5:=bsY
 z5:=bsZ
 v5:=bs0
 t9:=bsV
 a9:=bs1
 z9:=bs2
 v9:=bs3
 t46:=bs4
 a46:=bs5
 z46:=bs6
 v46:=bs7
 t51:=btd
 a51:=bth
 z51:=bti
 v51:=btj
 t146:=Tryz.underlying185
 a146:=Tryz.isAgg185
 z146:=Tryz.sizeOf185
 v146:=Tryz.zeroValue185
 g1:=by kernel_rfl }
open Go.RowKit Go.Lib in
theorem Tryz.strings_Contains_one (s:ByteArray) (c:UInt8) (w:World) :
  Calls Tryz.prog 107 #[.string s,.string ⟨#[c]⟩] w fun e w'=>e = .returned (.bool (decide (0≤Lib.indexByte s.data.toList c)))∧w'=w:=Any.strings_Contains_one Tryz.lays144 s c w
def Tryz.lays145_ren:Go.Shelf.Ren:=⟨fun | 145=>109 | 220=>176 | 219=>218 | 217=>241 | 225=>242 | 224=>243 | 267=>244 | 266=>255 | 314=>256 | n=>n,fun | 9=>9 | 4=>4 | 59=>102 | 3=>3 | 5=>5 | 46=>125 | 146=>185 | 51=>99 | n=>n,fun | 1=>0 | n=>n⟩
theorem Tryz.lays145:Go.Proofs.Lays.n145 Tryz.prog Tryz.lays145_ren := {
 mixed:=by kernel_rfl
 f145:=Tryz.func109.trans (congrArg some (by kernel_rfl))
 f217:=Tryz.func241.trans (congrArg some (by kernel_rfl))
 f219:=Tryz.func218.trans (congrArg some (by kernel_rfl))
 f220:=Tryz.func176.trans (congrArg some (by kernel_rfl))
 f224:=Tryz.func243.trans (congrArg some (by kernel_rfl))
 f225:=Tryz.func242.trans (congrArg some (by kernel_rfl))
 f266:=Tryz.func255.trans (congrArg some (by kernel_rfl))
 f267:=Tryz.func244.trans (congrArg some (by kernel_rfl))
 f314:=Tryz.func256.trans (congrArg some (by kernel_rfl))
 t3:=bsJ
 a3:=bsO
 z3:=bsP
 v3:=bsQ
 t4:=bsF
 a4:=bsC
 z4:=bsD
 v4:=bsR
 t5:=bsU
 a5:=bsY
 z5:=bsZ
 v5:=bs0
 t9:=bsV
 a9:=bs1
 z9:=bs2
 v9:=bs3
 t46:=bs4
 a46:=bs5
 z46:=bs6
 v46:=bs7
 t51:=btd
 a51:=bth
 z51:=bti
 v51:=btj
 t59:=Tryz.underlying102
 a59:=Tryz.isAgg102
 z59:=Tryz.sizeOf102
 v59:=Tryz.zeroValue102
 t146:=Tryz.underlying185
 a146:=Tryz.isAgg185
 z146:=Tryz.sizeOf185
 v146:=Tryz.zeroValue185
 g1:=by kernel_rfl }
open Go.RowKit Go.Lib in
theorem Tryz.strings_Cut (s sep:ByteArray) (m:Int) (w:World) (hs:s.size < 4294967281) (hm:w.cell? ⟨0,0,none⟩=some (.int .i64 m)) :
  Calls Tryz.prog 109 #[.string s,.string sep] w fun e w'=>e = .returned (.tuple #[.string ⟨(Lib.cut s.data.toList sep.data.toList).1.toArray⟩,.string ⟨(Lib.cut s.data.toList sep.data.toList).2.1.toArray⟩,.bool (Lib.cut s.data.toList sep.data.toList).2.2]) ∧ ∃ n,w'=w.drewN n:=Any.strings_Cut Tryz.lays145 s sep m w hs hm
def Tryz.laysM288_ren:Go.Shelf.Ren:=⟨fun | 288=>230 | 283=>246 | 284=>247 | 285=>248 | 286=>249 | 129=>207 | 317=>257 | 318=>258 | 319=>259 | 320=>260 | 337=>261 | 338=>229 | n=>n,fun | 37=>122 | 53=>144 | 3=>3 | 4=>4 | 9=>9 | 171=>178 | 0=>0 | 173=>180 | 212=>188 | 51=>99 | 5=>5 | 20=>20 | 213=>189 | 46=>125 | 232=>190 | 233=>176 | n=>n,fun | 17=>2 | 18=>3 | 19=>1 | n=>n⟩
theorem Tryz.laysM288:Go.Proofs.LaysM.n288 Tryz.prog Tryz.laysM288_ren := {
 mixed:=by kernel_rfl
 f129:=Tryz.func207.trans (congrArg some (by kernel_rfl))
 f283:=Tryz.func246.trans (congrArg some (by kernel_rfl))
 f284:=Tryz.func247.trans (congrArg some (by kernel_rfl))
 f285:=Tryz.func248.trans (congrArg some (by kernel_rfl))
 f286:=Tryz.func249.trans (congrArg some (by kernel_rfl))
 f288:=Tryz.func230.trans (congrArg some (by kernel_rfl))
 f317:=Tryz.func257.trans (congrArg some (by kernel_rfl))
 f318:=Tryz.func258.trans (congrArg some (by kernel_rfl))
 f319:=Tryz.func259.trans (congrArg some (by kernel_rfl))
 f320:=Tryz.func260.trans (congrArg some (by kernel_rfl))
 f337:=Tryz.func261.trans (congrArg some (by kernel_rfl))
 f338:=Tryz.func229.trans (congrArg some (by kernel_rfl))
 t0:=Tryz.underlying0
 a0:=Tryz.isAgg0
 z0:=Tryz.sizeOf0
 v0:=Tryz.zeroValue0
 t3:=bsJ
 a3:=bsO
 z3:=bsP
 v3:=bsQ
 t4:=bsF
 a4:=bsC
 z4:=bsD
 v4:=bsR
 t5:=bsU
 a5:=bsY
 z5:=bsZ
 v5:=bs0
 t9:=bsV
 a9:=bs1
 z9:=bs2
 v9:=bs3
 t20:=Tryz.underlying20
 a20:=Tryz.isAgg20
 z20:=Tryz.sizeOf20
 v20:=Tryz.zeroValue20
 t37:=Tryz.underlying122
 a37:=Tryz.isAgg122
 z37:=Tryz.sizeOf122
 v37:=Tryz.zeroValue122
 t46:=bs4
 a46:=bs5
 z46:=bs6
 v46:=bs7
 t51:=btd
 a51:=bth
 z51:=bti
 v51:=btj
 t53:=btA
 a53:=btI
 z53:=btJ
 v53:=btK
 t171:=Tryz.underlying178
 a171:=Tryz.isAgg178
 z171:=Tryz.sizeOf178
 v171:=Tryz.zeroValue178
 t173:=Tryz.underlying180
 a173:=Tryz.isAgg180
 z173:=Tryz.sizeOf180
 v173:=Tryz.zeroValue180
 t212:=Tryz.underlying188
 a212:=Tryz.isAgg188
 z212:=Tryz.sizeOf188
 v212:=Tryz.zeroValue188
 t213:=Tryz.underlying189
 a213:=Tryz.isAgg189
 z213:=Tryz.sizeOf189
 t232:=Tryz.underlying190
 a232:=Tryz.isAgg190
 z232:=Tryz.sizeOf190
 v232:=Tryz.zeroValue190
 t233:=Tryz.underlying176
 a233:=Tryz.isAgg176
 z233:=Tryz.sizeOf176
 v233:=Tryz.zeroValue176
 g17:=by kernel_rfl
 g18:=by kernel_rfl
 g19:=by kernel_rfl
 i0:=by kernel_rfl
 i3:=by kernel_rfl
 i4:=by kernel_rfl
 i5:=by kernel_rfl
 i9:=by kernel_rfl
 i20:=by kernel_rfl
 i37:=by kernel_rfl
 i46:=by kernel_rfl
 i51:=by kernel_rfl
 i53:=by kernel_rfl
 i171:=by kernel_rfl
 i173:=by kernel_rfl
 i212:=by kernel_rfl
 i232:=by kernel_rfl
 i233:=by kernel_rfl
 m17:=by kernel_rfl
 m18:=by kernel_rfl
 m19:=by kernel_rfl }
open Go.RowKit Go.Sort Go.Lib in
theorem Tryz.internal_strconv_AppendUint_10_small (B n u:Nat) (hu:u < 100) (sv:Value) (xs:List Value) (w:World) (hown:w.ownsRow B 5 1 sv n xs) (hBw:B≤w.heap.size) (hlim:n+20≤140737488355328) :
  Calls Tryz.prog 230 #[sv,.int .u64 u,.int .i64 10] w fun e w' => ∃ v',e = .returned v'∧w'.ownsRow B 5 1 v' (n+(Lib.decDigits u).length) (xs++Lib.byteCells (Lib.decDigits u))∧Below B w w'∧Lib.OthersKept 5 none w w':=Any.internal_strconv_AppendUint_10_small Tryz.laysM288 B n u hu sv xs w hown hBw hlim
open Go.RowKit Go.Sort Go.Lib in
theorem Tryz.internal_strconv_AppendUint_10_big (B n u:Nat) (hu:100≤u) (hu64:u < 18446744073709551616) (sv:Value) (xs:List Value) (w:World) (hown:w.ownsRow B 5 1 sv n xs) (hBw:B≤w.heap.size) (hlim:n+20≤140737488355328) (htab:Lib.TabIs Tryz.prog w "internal/strconv.uint64pow10" .u64 Lib.pow10Tab) :
  Calls Tryz.prog 230 #[sv,.int .u64 u,.int .i64 10] w fun e w' => ∃ v',e = .returned v'∧w'.ownsRow B 5 1 v' (n+(Lib.decDigits u).length) (xs++Lib.byteCells (Lib.decDigits u))∧Below B w w'∧Lib.OthersKept 5 none w w':=Any.internal_strconv_AppendUint_10_big Tryz.laysM288 B n u hu hu64 sv xs w hown hBw hlim htab
end Go.Proofs
