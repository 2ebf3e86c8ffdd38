/- Part of the proof: contracts over the turned program. -/
import Derived.Shelf.Slices.In.SortNone
import Derived.Shelf.Sort.Plain
import Derived.Test.YtgcgacjhkhjhmaaGreatDoorChecked
set_option linter.unusedVariables false
set_option maxHeartbeats 4000000
open Go.Proofs.Tryz
namespace Go.Proofs.YtgcgacjhkhjhmaaGreatDoor
open Go.Shelf
def G0:Go.Shelf.Ren:=⟨fun|189=>134|125=>160|257=>159|128=>191|129=>192|294=>182|295=>183|296=>184|297=>185|298=>186|299=>187|216=>188|300=>189|301=>190|328=>207|329=>208|330=>209|331=>210|332=>211|215=>212|343=>220|n=>n,fun|28=>33|3=>3|46=>123|0=>0|51=>162|53=>159|4=>4|183=>244|182=>243|131=>88|5=>5|9=>9|218=>263|222=>267|228=>275|229=>276|n=>n,fun|n=>n⟩
theorem IG:Go.Proofs.Lays.n189 prog G0:={
 mixed:=by kernel_rfl
 f125:=func160.trans (congrArg some (by kernel_rfl))
 f128:=func191.trans (congrArg some (by kernel_rfl))
 f129:=func192.trans (congrArg some (by kernel_rfl))
 f189:=func134.trans (congrArg some (by kernel_rfl))
 f215:=func212.trans (congrArg some (by kernel_rfl))
 f216:=func188.trans (congrArg some (by kernel_rfl))
 f257:=func159.trans (congrArg some (by kernel_rfl))
 f294:=func182.trans (congrArg some (by kernel_rfl))
 f295:=func183.trans (congrArg some (by kernel_rfl))
 f296:=func184.trans (congrArg some (by kernel_rfl))
 f297:=func185.trans (congrArg some (by kernel_rfl))
 f298:=func186.trans (congrArg some (by kernel_rfl))
 f299:=func187.trans (congrArg some (by kernel_rfl))
 f300:=func189.trans (congrArg some (by kernel_rfl))
 f301:=func190.trans (congrArg some (by kernel_rfl))
 f328:=func207.trans (congrArg some (by kernel_rfl))
 f329:=func208.trans (congrArg some (by kernel_rfl))
 f330:=func209.trans (congrArg some (by kernel_rfl))
 f331:=func210.trans (congrArg some (by kernel_rfl))
 f332:=func211.trans (congrArg some (by kernel_rfl))
 f343:=func220.trans (congrArg some (by kernel_rfl))
 t0:=underlying0
 a0:=Tryz.isAgg0
 z0:=Tryz.sizeOf0
 v0:=Tryz.zeroValue0
 t3:=underlying3
 a3:=Tryz.isAgg3
 z3:=Tryz.sizeOf3
 v3:=Tryz.zeroValue3
 t4:=underlying4
 a4:=Tryz.isAgg4
 z4:=Tryz.sizeOf4
 v4:=Tryz.zeroValue4
 t5:=underlying5
 a5:=Tryz.isAgg5
 z5:=Tryz.sizeOf5
 v5:=Tryz.zeroValue5
 t9:=underlying9
 a9:=Tryz.isAgg9
 z9:=Tryz.sizeOf9
 v9:=Tryz.zeroValue9
 t28:=underlying33
 a28:=Tryz.isAgg33
 z28:=Tryz.sizeOf33
 v28:=Tryz.zeroValue33
 t46:=underlying123
 a46:=Tryz.isAgg123
 z46:=Tryz.sizeOf123
 v46:=Tryz.zeroValue123
 t51:=underlying162
 a51:=Tryz.isAgg162
 z51:=Tryz.sizeOf162
 v51:=Tryz.zeroValue162
 t53:=underlying159
 a53:=Tryz.isAgg159
 z53:=Tryz.sizeOf159
 v53:=Tryz.zeroValue159
 t131:=underlying88
 a131:=Tryz.isAgg88
 z131:=Tryz.sizeOf88
 v131:=Tryz.zeroValue88
 t182:=underlying243
 a182:=Tryz.isAgg243
 z182:=Tryz.sizeOf243
 v182:=Tryz.zeroValue243
 t183:=underlying244
 a183:=Tryz.isAgg244
 z183:=Tryz.sizeOf244
 v183:=Tryz.zeroValue244
 t218:=underlying263
 a218:=Tryz.isAgg263
 z218:=Tryz.sizeOf263
 v218:=Tryz.zeroValue263
 t222:=underlying267
 a222:=Tryz.isAgg267
 z222:=Tryz.sizeOf267
 v222:=Tryz.zeroValue267
 t228:=underlying275
 a228:=Tryz.isAgg275
 z228:=Tryz.sizeOf275
 v228:=Tryz.zeroValue275
 t229:=underlying276
 a229:=Tryz.isAgg276
 z229:=Tryz.sizeOf276
 v229:=Tryz.zeroValue276 }
open Go.Sort Go.RowKit in
theorem Mw(blk off cap:Nat)(zs:List Int)(w:World)(hH:Holds (Value.int .i64) w blk off zs.toArray)(hblk:blk<w.heap.size)(hsz:zs.length<4611686018427387904) :
  Calls prog 134 #[.slice (some ⟨blk,off,none⟩) zs.length cap] w fun e w' =>
   e=.returned (.tuple #[])/\∃n os,w'=grow (putRow (Value.int .i64) (Sort.ahead w n) blk off (zs.mergeSort fun x y=>decide (x<=y)).toArray) os:=Any.slices_Sort_int IG blk off cap zs w hH hblk hsz
open Go.RowKit Go.Sort in
theorem Mx(p:Option Addr)(cap:Nat)(w:World) :
  Calls prog 134 #[.slice p 0 cap] w fun e w'=>e=.returned (.tuple #[])/\w'=w:=Any.slices_Sort_int_none IG p cap w
end Go.Proofs.YtgcgacjhkhjhmaaGreatDoor
