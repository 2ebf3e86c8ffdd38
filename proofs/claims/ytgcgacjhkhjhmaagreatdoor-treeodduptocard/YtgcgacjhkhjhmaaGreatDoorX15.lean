/- Part of the proof: contracts over the turned program. -/
import Derived.Shelf.Strings.Trim
import Derived.Test.YtgcgacjhkhjhmaaGreatDoorChecked
set_option linter.unusedVariables false
set_option maxHeartbeats 4000000
open Go.Proofs.Tryz
namespace Go.Proofs.YtgcgacjhkhjhmaaGreatDoor
open Go.Shelf
def G1:Go.Shelf.Ren:=⟨fun|160=>140|232=>167|231=>166|227=>168|234=>170|233=>169|236=>172|235=>171|228=>194|271=>197|151=>196|197=>195|120=>215|152=>214|260=>213|137=>221|119=>222|224=>223|225=>224|217=>225|266=>226|n=>n,fun|9=>9|4=>4|3=>3|5=>5|117=>227|116=>226|0=>0|124=>230|21=>21|105=>253|46=>123|119=>278|139=>281|138=>280|n=>n,fun|3=>1|4=>2|n=>n⟩
theorem NH:Go.Proofs.Lays.n160 prog G1:={
 mixed:=by kernel_rfl
 f119:=func222.trans (congrArg some (by kernel_rfl))
 f120:=func215.trans (congrArg some (by kernel_rfl))
 f137:=func221.trans (congrArg some (by kernel_rfl))
 f151:=func196.trans (congrArg some (by kernel_rfl))
 f152:=func214.trans (congrArg some (by kernel_rfl))
 f160:=func140.trans (congrArg some (by kernel_rfl))
 f197:=func195.trans (congrArg some (by kernel_rfl))
 f217:=func225.trans (congrArg some (by kernel_rfl))
 f224:=func223.trans (congrArg some (by kernel_rfl))
 f225:=func224.trans (congrArg some (by kernel_rfl))
 f227:=func168.trans (congrArg some (by kernel_rfl))
 f228:=func194.trans (congrArg some (by kernel_rfl))
 f231:=func166.trans (congrArg some (by kernel_rfl))
 f232:=func167.trans (congrArg some (by kernel_rfl))
 f233:=func169.trans (congrArg some (by kernel_rfl))
 f234:=func170.trans (congrArg some (by kernel_rfl))
 f235:=func171.trans (congrArg some (by kernel_rfl))
 f236:=func172.trans (congrArg some (by kernel_rfl))
 f260:=func213.trans (congrArg some (by kernel_rfl))
 f266:=func226.trans (congrArg some (by kernel_rfl))
 f271:=func197.trans (congrArg some (by kernel_rfl))
 t0:=underlying0
 a0:=Tryz.isAgg0
 z0:=Tryz.sizeOf0
 v0:=Tryz.zeroValue0
 t3:=underlying3
 a3:=Tryz.isAgg3
 z3:=Tryz.sizeOf3
 v3:=Tryz.zeroValue3
 t4:=underlying4
 a4:=Tryz.isAgg4
 z4:=Tryz.sizeOf4
 v4:=Tryz.zeroValue4
 t5:=underlying5
 a5:=Tryz.isAgg5
 z5:=Tryz.sizeOf5
 v5:=Tryz.zeroValue5
 t9:=underlying9
 a9:=Tryz.isAgg9
 z9:=Tryz.sizeOf9
 v9:=Tryz.zeroValue9
 t21:=underlying21
 a21:=Tryz.isAgg21
 z21:=Tryz.sizeOf21
 v21:=Tryz.zeroValue21
 t46:=underlying123
 a46:=Tryz.isAgg123
 z46:=Tryz.sizeOf123
 v46:=Tryz.zeroValue123
 t105:=underlying253
 a105:=Tryz.isAgg253
 z105:=Tryz.sizeOf253
 v105:=Tryz.zeroValue253
 t116:=underlying226
 a116:=Tryz.isAgg226
 z116:=Tryz.sizeOf226
 t117:=underlying227
 a117:=Tryz.isAgg227
 z117:=Tryz.sizeOf227
 v117:=Tryz.zeroValue227
 t119:=underlying278
 a119:=Tryz.isAgg278
 z119:=Tryz.sizeOf278
 t124:=underlying230
 a124:=Tryz.isAgg230
 z124:=Tryz.sizeOf230
 v124:=Tryz.zeroValue230
 t138:=underlying280
 a138:=Tryz.isAgg280
 z138:=Tryz.sizeOf280
 v138:=Tryz.zeroValue280
 t139:=underlying281
 a139:=Tryz.isAgg281
 z139:=Tryz.sizeOf281
 v139:=Tryz.zeroValue281
 g3:=by kernel_rfl
 g4:=by kernel_rfl }
open Go.RowKit in
theorem strings_Trim_one(s:ByteArray)(c:UInt8)(hc:c.toNat<128)(w:World)(hs:s.size<=9223372036854775807) :
  Calls prog 140 #[.string s,.string ⟨#[c]⟩] w fun e w'=>e=.returned (.string ⟨(Lib.trimB s.data.toList c).toArray⟩)/\(w'=w\/w'=w.drew):=Any.strings_Trim_one NH s c hc w hs
end Go.Proofs.YtgcgacjhkhjhmaaGreatDoor
