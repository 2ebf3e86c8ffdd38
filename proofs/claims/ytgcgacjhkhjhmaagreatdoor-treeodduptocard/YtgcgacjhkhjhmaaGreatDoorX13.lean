/- Part of the proof: contracts over the turned program. -/
import Derived.Shelf.Strings.Repeat
import Derived.Test.YtgcgacjhkhjhmaaGreatDoorChecked
set_option linter.unusedVariables false
set_option maxHeartbeats 4000000
open Go.Proofs.Tryz
namespace Go.Proofs.YtgcgacjhkhjhmaaGreatDoor
open Go.Shelf
def Ex:Go.Shelf.Ren:=⟨fun|105=>29|212=>56|99=>57|165=>58|166=>59|170=>60|169=>61|263=>88|264=>89|206=>90|240=>91|241=>92|276=>123|277=>124|n=>n,fun|9=>9|3=>3|4=>4|20=>20|0=>0|46=>123|109=>124|5=>5|72=>129|76=>132|51=>162|146=>163|53=>159|148=>165|70=>127|37=>112|75=>131|127=>167|164=>188|80=>134|n=>n,fun|n=>n⟩
theorem O4:Go.Proofs.Lays.n105 prog Ex:={
 mixed:=by kernel_rfl
 f99:=func57.trans (congrArg some (by kernel_rfl))
 f105:=func29.trans (congrArg some (by kernel_rfl))
 f165:=func58.trans (congrArg some (by kernel_rfl))
 f166:=func59.trans (congrArg some (by kernel_rfl))
 f169:=func61.trans (congrArg some (by kernel_rfl))
 f170:=func60.trans (congrArg some (by kernel_rfl))
 f206:=func90.trans (congrArg some (by kernel_rfl))
 f212:=func56.trans (congrArg some (by kernel_rfl))
 f240:=func91.trans (congrArg some (by kernel_rfl))
 f241:=func92.trans (congrArg some (by kernel_rfl))
 f263:=func88.trans (congrArg some (by kernel_rfl))
 f264:=func89.trans (congrArg some (by kernel_rfl))
 f276:=func123.trans (congrArg some (by kernel_rfl))
 f277:=func124.trans (congrArg some (by kernel_rfl))
 t0:=underlying0
 a0:=Tryz.isAgg0
 z0:=Tryz.sizeOf0
 v0:=Tryz.zeroValue0
 t3:=underlying3
 a3:=Tryz.isAgg3
 z3:=Tryz.sizeOf3
 v3:=Tryz.zeroValue3
 t4:=underlying4
 a4:=Tryz.isAgg4
 z4:=Tryz.sizeOf4
 v4:=Tryz.zeroValue4
 t5:=underlying5
 a5:=Tryz.isAgg5
 z5:=Tryz.sizeOf5
 v5:=Tryz.zeroValue5
 t9:=underlying9
 a9:=Tryz.isAgg9
 z9:=Tryz.sizeOf9
 v9:=Tryz.zeroValue9
 t20:=underlying20
 a20:=Tryz.isAgg20
 z20:=Tryz.sizeOf20
 v20:=Tryz.zeroValue20
 t37:=underlying112
 a37:=Tryz.isAgg112
 z37:=Tryz.sizeOf112
 v37:=Tryz.zeroValue112
 t46:=underlying123
 a46:=Tryz.isAgg123
 z46:=Tryz.sizeOf123
 v46:=Tryz.zeroValue123
 t51:=underlying162
 a51:=Tryz.isAgg162
 z51:=Tryz.sizeOf162
 v51:=Tryz.zeroValue162
 t53:=underlying159
 a53:=Tryz.isAgg159
 z53:=Tryz.sizeOf159
 v53:=Tryz.zeroValue159
 t70:=underlying127
 a70:=Tryz.isAgg127
 z70:=Tryz.sizeOf127
 v70:=Tryz.zeroValue127
 t72:=underlying129
 a72:=Tryz.isAgg129
 z72:=Tryz.sizeOf129
 v72:=Tryz.zeroValue129
 t75:=underlying131
 a75:=Tryz.isAgg131
 z75:=Tryz.sizeOf131
 v75:=Tryz.zeroValue131
 t76:=underlying132
 a76:=Tryz.isAgg132
 z76:=Tryz.sizeOf132
 v76:=Tryz.zeroValue132
 t109:=underlying124
 a109:=Tryz.isAgg124
 z109:=Tryz.sizeOf124
 v109:=Tryz.zeroValue124
 t127:=underlying167
 a127:=Tryz.isAgg167
 z127:=Tryz.sizeOf167
 v127:=Tryz.zeroValue167
 t146:=underlying163
 a146:=Tryz.isAgg163
 z146:=Tryz.sizeOf163
 v146:=Tryz.zeroValue163
 t148:=underlying165
 a148:=Tryz.isAgg165
 z148:=Tryz.sizeOf165
 v148:=Tryz.zeroValue165
 t164:=underlying188
 a164:=Tryz.isAgg188
 z164:=Tryz.sizeOf188
 v164:=Tryz.zeroValue188 }
theorem NG:Builder.Extra prog Ex:={
 sizeBuilder:=by kernel_rfl
 liesBuilder:=by kernel_rfl
 t5:=underlying5
 a5:=Tryz.isAgg5
 z5:=Tryz.sizeOf5
 v5:=Tryz.zeroValue5
 infoByte:=by kernel_rfl
 cellsByte:=by kernel_rfl
 sizeByte:=by kernel_rfl
 neB5:=by decide }
open Go.RowKit Go.Lib in
theorem strings_Repeat(s:ByteArray)(c:Nat)(w:World)(hc:c<=9223372036854775807)(hlen:s.size*c<=140737488355328) :
  Calls prog 29 #[.string s,.int .i64 c] w fun e w'=>e=.returned (.string ⟨(Lib.repeatL s.data.toList c).toArray⟩)/\Below w.heap.size w w':=Any.strings_Repeat O4 NG s c w hc hlen
end Go.Proofs.YtgcgacjhkhjhmaaGreatDoor
