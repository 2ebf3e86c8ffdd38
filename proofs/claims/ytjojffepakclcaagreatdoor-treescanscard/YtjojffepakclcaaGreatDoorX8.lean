/- Part of the proof: contracts over the turned program. -/
import Derived.Shelf.Strings.Repeat
import Derived.Test.YtjojffepakclcaaGreatDoorChecked
set_option linter.unusedVariables false
set_option maxHeartbeats 4000000
open Go.Proofs.Tryz
namespace Go.Proofs.YtjojffepakclcaaGreatDoor
open Go.Shelf
def EL:Go.Shelf.Ren:=⟨fun|105=>132|212=>173|99=>174|165=>175|166=>176|170=>177|169=>178|263=>207|264=>208|206=>209|240=>210|241=>211|276=>230|277=>231|n=>n,fun|9=>9|3=>3|4=>4|20=>20|0=>0|46=>62|109=>232|5=>5|72=>236|76=>239|51=>267|146=>270|53=>179|148=>272|70=>234|37=>161|75=>238|127=>274|164=>289|80=>241|n=>n,fun|n=>n⟩
theorem Ox:Go.Proofs.Lays.n105 prog EL:={
 mixed:=by kernel_rfl
 f99:=func174.trans (congrArg some (by kernel_rfl))
 f105:=func132.trans (congrArg some (by kernel_rfl))
 f165:=func175.trans (congrArg some (by kernel_rfl))
 f166:=func176.trans (congrArg some (by kernel_rfl))
 f169:=func178.trans (congrArg some (by kernel_rfl))
 f170:=func177.trans (congrArg some (by kernel_rfl))
 f206:=func209.trans (congrArg some (by kernel_rfl))
 f212:=func173.trans (congrArg some (by kernel_rfl))
 f240:=func210.trans (congrArg some (by kernel_rfl))
 f241:=func211.trans (congrArg some (by kernel_rfl))
 f263:=func207.trans (congrArg some (by kernel_rfl))
 f264:=func208.trans (congrArg some (by kernel_rfl))
 f276:=func230.trans (congrArg some (by kernel_rfl))
 f277:=func231.trans (congrArg some (by kernel_rfl))
 t0:=underlying0
 a0:=Tryz.isAgg0
 z0:=Tryz.sizeOf0
 v0:=Tryz.zeroValue0
 t3:=underlying3
 a3:=Tryz.isAgg3
 z3:=Tryz.sizeOf3
 v3:=Tryz.zeroValue3
 t4:=underlying4
 a4:=Tryz.isAgg4
 z4:=Tryz.sizeOf4
 v4:=Tryz.zeroValue4
 t5:=underlying5
 a5:=Tryz.isAgg5
 z5:=Tryz.sizeOf5
 v5:=Tryz.zeroValue5
 t9:=underlying9
 a9:=Tryz.isAgg9
 z9:=Tryz.sizeOf9
 v9:=Tryz.zeroValue9
 t20:=underlying20
 a20:=Tryz.isAgg20
 z20:=Tryz.sizeOf20
 v20:=Tryz.zeroValue20
 t37:=underlying161
 a37:=Tryz.isAgg161
 z37:=Tryz.sizeOf161
 v37:=Tryz.zeroValue161
 t46:=underlying62
 a46:=Tryz.isAgg62
 z46:=Tryz.sizeOf62
 v46:=Tryz.zeroValue62
 t51:=underlying267
 a51:=Tryz.isAgg267
 z51:=Tryz.sizeOf267
 v51:=Tryz.zeroValue267
 t53:=underlying179
 a53:=Tryz.isAgg179
 z53:=Tryz.sizeOf179
 v53:=Tryz.zeroValue179
 t70:=underlying234
 a70:=Tryz.isAgg234
 z70:=Tryz.sizeOf234
 v70:=Tryz.zeroValue234
 t72:=underlying236
 a72:=Tryz.isAgg236
 z72:=Tryz.sizeOf236
 v72:=Tryz.zeroValue236
 t75:=underlying238
 a75:=Tryz.isAgg238
 z75:=Tryz.sizeOf238
 v75:=Tryz.zeroValue238
 t76:=underlying239
 a76:=Tryz.isAgg239
 z76:=Tryz.sizeOf239
 v76:=Tryz.zeroValue239
 t109:=underlying232
 a109:=Tryz.isAgg232
 z109:=Tryz.sizeOf232
 v109:=Tryz.zeroValue232
 t127:=underlying274
 a127:=Tryz.isAgg274
 z127:=Tryz.sizeOf274
 v127:=Tryz.zeroValue274
 t146:=underlying270
 a146:=Tryz.isAgg270
 z146:=Tryz.sizeOf270
 v146:=Tryz.zeroValue270
 t148:=underlying272
 a148:=Tryz.isAgg272
 z148:=Tryz.sizeOf272
 v148:=Tryz.zeroValue272
 t164:=underlying289
 a164:=Tryz.isAgg289
 z164:=Tryz.sizeOf289
 v164:=Tryz.zeroValue289 }
theorem N7:Builder.Extra prog EL:={
 sizeBuilder:=by kernel_rfl
 liesBuilder:=by kernel_rfl
 t5:=underlying5
 a5:=Tryz.isAgg5
 z5:=Tryz.sizeOf5
 v5:=Tryz.zeroValue5
 infoByte:=by kernel_rfl
 cellsByte:=by kernel_rfl
 sizeByte:=by kernel_rfl
 neB5:=by decide }
open Go.RowKit Go.Lib in
theorem strings_Repeat(s:ByteArray)(c:Nat)(w:World)(hc:c<=9223372036854775807)(hlen:s.size*c<=140737488355328) :
  Calls prog 132 #[.string s,.int .i64 c] w fun e w'=>e=.returned (.string ⟨(Lib.repeatL s.data.toList c).toArray⟩)/\Below w.heap.size w w':=Any.strings_Repeat Ox N7 s c w hc hlen
end Go.Proofs.YtjojffepakclcaaGreatDoor
