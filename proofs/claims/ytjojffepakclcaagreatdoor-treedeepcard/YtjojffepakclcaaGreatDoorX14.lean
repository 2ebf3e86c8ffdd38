/- Part of the proof: contracts over the turned program. -/
import Derived.Shelf.Strings.Trim
import Derived.Test.YtjojffepakclcaaGreatDoorChecked
set_option linter.unusedVariables false
set_option maxHeartbeats 4000000
open Go.Proofs.Tryz
namespace Go.Proofs.YtjojffepakclcaaGreatDoor
open Go.Shelf
def GS:Go.Shelf.Ren:=⟨fun|160=>100|232=>143|231=>142|227=>144|234=>146|233=>145|236=>148|235=>147|228=>182|271=>185|151=>184|197=>183|120=>214|152=>213|260=>212|137=>232|119=>233|224=>234|225=>235|217=>241|266=>242|n=>n,fun|9=>9|4=>4|3=>3|5=>5|117=>203|116=>202|0=>0|124=>206|21=>21|105=>244|46=>62|119=>292|139=>295|138=>294|n=>n,fun|3=>0|4=>1|n=>n⟩
theorem Mu:Go.Proofs.Lays.n160 prog GS:={
 mixed:=by kernel_rfl
 f119:=func233.trans (congrArg some (by kernel_rfl))
 f120:=func214.trans (congrArg some (by kernel_rfl))
 f137:=func232.trans (congrArg some (by kernel_rfl))
 f151:=func184.trans (congrArg some (by kernel_rfl))
 f152:=func213.trans (congrArg some (by kernel_rfl))
 f160:=func100.trans (congrArg some (by kernel_rfl))
 f197:=func183.trans (congrArg some (by kernel_rfl))
 f217:=func241.trans (congrArg some (by kernel_rfl))
 f224:=func234.trans (congrArg some (by kernel_rfl))
 f225:=func235.trans (congrArg some (by kernel_rfl))
 f227:=func144.trans (congrArg some (by kernel_rfl))
 f228:=func182.trans (congrArg some (by kernel_rfl))
 f231:=func142.trans (congrArg some (by kernel_rfl))
 f232:=func143.trans (congrArg some (by kernel_rfl))
 f233:=func145.trans (congrArg some (by kernel_rfl))
 f234:=func146.trans (congrArg some (by kernel_rfl))
 f235:=func147.trans (congrArg some (by kernel_rfl))
 f236:=func148.trans (congrArg some (by kernel_rfl))
 f260:=func212.trans (congrArg some (by kernel_rfl))
 f266:=func242.trans (congrArg some (by kernel_rfl))
 f271:=func185.trans (congrArg some (by kernel_rfl))
 t0:=underlying0
 a0:=Tryz.isAgg0
 z0:=Tryz.sizeOf0
 v0:=Tryz.zeroValue0
 t3:=underlying3
 a3:=Tryz.isAgg3
 z3:=Tryz.sizeOf3
 v3:=Tryz.zeroValue3
 t4:=underlying4
 a4:=Tryz.isAgg4
 z4:=Tryz.sizeOf4
 v4:=Tryz.zeroValue4
 t5:=underlying5
 a5:=Tryz.isAgg5
 z5:=Tryz.sizeOf5
 v5:=Tryz.zeroValue5
 t9:=underlying9
 a9:=Tryz.isAgg9
 z9:=Tryz.sizeOf9
 v9:=Tryz.zeroValue9
 t21:=underlying21
 a21:=Tryz.isAgg21
 z21:=Tryz.sizeOf21
 v21:=Tryz.zeroValue21
 t46:=underlying62
 a46:=Tryz.isAgg62
 z46:=Tryz.sizeOf62
 v46:=Tryz.zeroValue62
 t105:=underlying244
 a105:=Tryz.isAgg244
 z105:=Tryz.sizeOf244
 v105:=Tryz.zeroValue244
 t116:=underlying202
 a116:=Tryz.isAgg202
 z116:=Tryz.sizeOf202
 t117:=underlying203
 a117:=Tryz.isAgg203
 z117:=Tryz.sizeOf203
 v117:=Tryz.zeroValue203
 t119:=underlying292
 a119:=Tryz.isAgg292
 z119:=Tryz.sizeOf292
 t124:=underlying206
 a124:=Tryz.isAgg206
 z124:=Tryz.sizeOf206
 v124:=Tryz.zeroValue206
 t138:=underlying294
 a138:=Tryz.isAgg294
 z138:=Tryz.sizeOf294
 v138:=Tryz.zeroValue294
 t139:=underlying295
 a139:=Tryz.isAgg295
 z139:=Tryz.sizeOf295
 v139:=Tryz.zeroValue295
 g3:=by kernel_rfl
 g4:=by kernel_rfl }
open Go.RowKit in
theorem strings_Trim_one(s:ByteArray)(c:UInt8)(hc:c.toNat<128)(w:World)(hs:s.size<=9223372036854775807) :
  Calls prog 100 #[.string s,.string ⟨#[c]⟩] w fun e w'=>e=.returned (.string ⟨(Lib.trimB s.data.toList c).toArray⟩)/\(w'=w\/w'=w.drew):=Any.strings_Trim_one Mu s c hc w hs
end Go.Proofs.YtjojffepakclcaaGreatDoor
