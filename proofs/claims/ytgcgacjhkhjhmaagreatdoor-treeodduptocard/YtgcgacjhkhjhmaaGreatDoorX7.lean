/- Part of the proof: contracts over the turned program. -/
import Derived.Shelf.Slices.Clone
import Derived.Shelf.Slices.CompactI
import Derived.Shelf.SlicesE.Delete
import Derived.Test.YtgcgacjhkhjhmaaGreatDoorChecked
set_option linter.unusedVariables false
set_option maxHeartbeats 4000000
open Go.Proofs.Tryz
namespace Go.Proofs.YtgcgacjhkhjhmaaGreatDoor
open Go.Shelf
def GY:Go.Shelf.Ren:=⟨fun|45=>150|n=>n,fun|22=>33|23=>3|3=>3|4=>4|0=>0|n=>n,fun|n=>n⟩
theorem ND:Go.Proofs.SlLaysE.n45 prog GY:={
 mixed:=by kernel_rfl
 f45:=⟨Tryz.f150.name,by decide,func150.trans (congrArg some (by kernel_rfl))⟩
 t0:=underlying0
 a0:=Tryz.isAgg0
 z0:=Tryz.sizeOf0
 v0:=Tryz.zeroValue0
 t3:=underlying3
 a3:=Tryz.isAgg3
 z3:=Tryz.sizeOf3
 v3:=Tryz.zeroValue3
 t4:=underlying4
 a4:=Tryz.isAgg4
 z4:=Tryz.sizeOf4
 v4:=Tryz.zeroValue4
 t22:=underlying33
 a22:=Tryz.isAgg33
 z22:=Tryz.sizeOf33
 v22:=Tryz.zeroValue33
 a23:=Tryz.isAgg3
 z23:=Tryz.sizeOf3 }
open Go.RowKit Go.Lib Go.Sort in
theorem M7{α:Type}[Inhabited α](enc:α->Value)(h1:OneCell enc)(zr:α)(v23:∀w,(zeroValue 3).run prog w=.ok (enc zr) w)(i0:TypeInfo)(hi0:prog.info? 3=some i0)(hz1:i0.size=1)(blk off cap i j:Nat)(d:Array α)(w:World)(hH:Holds enc w blk off d)(hcap:d.size<=cap)(hm:cap<=9223372036854775807)(hij:i<=j)(hj:j<=d.size) :
  Calls prog 150 #[.slice (some ⟨blk,off,none⟩) d.size cap,.int .i64 i,.int .i64 j] w fun e w'=>e=.returned (.slice (some ⟨blk,off,none⟩) (d.size - (j - i)) cap)/\∃q,w'=putRow enc (Sort.ahead w q) blk off (d.toList.take i++d.toList.drop j++List.replicate (j - i) zr).toArray:=AnyE.slices_Delete ND enc h1 zr v23 i0 hi0 hz1 blk off cap i j d w hH hcap hm hij hj
def GZ:Go.Shelf.Ren:=⟨fun|45=>151|n=>n,fun|22=>32|23=>9|3=>3|4=>4|0=>0|n=>n,fun|n=>n⟩
theorem NE:Go.Proofs.SlLaysE.n45 prog GZ:={
 mixed:=by kernel_rfl
 f45:=⟨Tryz.f151.name,by decide,func151.trans (congrArg some (by kernel_rfl))⟩
 t0:=underlying0
 a0:=Tryz.isAgg0
 z0:=Tryz.sizeOf0
 v0:=Tryz.zeroValue0
 t3:=underlying3
 a3:=Tryz.isAgg3
 z3:=Tryz.sizeOf3
 v3:=Tryz.zeroValue3
 t4:=underlying4
 a4:=Tryz.isAgg4
 z4:=Tryz.sizeOf4
 v4:=Tryz.zeroValue4
 t22:=underlying32
 a22:=Tryz.isAgg32
 z22:=Tryz.sizeOf32
 v22:=Tryz.zeroValue32
 a23:=Tryz.isAgg9
 z23:=Tryz.sizeOf9 }
open Go.RowKit Go.Lib Go.Sort in
theorem M9{α:Type}[Inhabited α](enc:α->Value)(h1:OneCell enc)(zr:α)(v23:∀w,(zeroValue 9).run prog w=.ok (enc zr) w)(i0:TypeInfo)(hi0:prog.info? 9=some i0)(hz1:i0.size=1)(blk off cap i j:Nat)(d:Array α)(w:World)(hH:Holds enc w blk off d)(hcap:d.size<=cap)(hm:cap<=9223372036854775807)(hij:i<=j)(hj:j<=d.size) :
  Calls prog 151 #[.slice (some ⟨blk,off,none⟩) d.size cap,.int .i64 i,.int .i64 j] w fun e w'=>e=.returned (.slice (some ⟨blk,off,none⟩) (d.size - (j - i)) cap)/\∃q,w'=putRow enc (Sort.ahead w q) blk off (d.toList.take i++d.toList.drop j++List.replicate (j - i) zr).toArray:=AnyE.slices_Delete NE enc h1 zr v23 i0 hi0 hz1 blk off cap i j d w hH hcap hm hij hj
def EG:Go.Shelf.Ren:=⟨fun|20=>135|n=>n,fun|22=>33|3=>3|4=>4|0=>0|n=>n,fun|n=>n⟩
theorem Ew:Go.Proofs.Lays2.n20 prog EG:={
 mixed:=by kernel_rfl
 f20:=func135.trans (congrArg some (by kernel_rfl))
 t0:=underlying0
 a0:=Tryz.isAgg0
 z0:=Tryz.sizeOf0
 v0:=Tryz.zeroValue0
 t3:=underlying3
 a3:=Tryz.isAgg3
 z3:=Tryz.sizeOf3
 v3:=Tryz.zeroValue3
 t4:=underlying4
 a4:=Tryz.isAgg4
 z4:=Tryz.sizeOf4
 v4:=Tryz.zeroValue4
 t22:=underlying33
 a22:=Tryz.isAgg33
 z22:=Tryz.sizeOf33
 v22:=Tryz.zeroValue33
 i3:=by kernel_rfl }
open Go.RowKit Go.Lib Go.Sort in
theorem CW(blk off cap:Nat)(zs:List Int)(w:World)(hH:Holds (Value.int .i64) w blk off zs.toArray)(hsz:zs.length<=9223372036854775807)(hcap:zs.length<=cap) :
  Calls prog 135 #[.slice (some ⟨blk,off,none⟩) zs.length cap] w fun e w'=>e=.returned (.slice (some ⟨blk,off,none⟩) (Lib.compact zs).length cap)/\∃q,w'=putRow (Value.int .i64) (Sort.ahead w q) blk off (Lib.compact zs++List.replicate (zs.length - (Lib.compact zs).length) 0).toArray:=Any.slices_Compact_int Ew blk off cap zs w hH hsz hcap
open Go.RowKit Go.Lib Go.Sort in
theorem BS(a:Option Addr)(cap:Nat)(w:World) :
  Calls prog 135 #[.slice a 0 cap] w fun e w'=>e=.returned (.slice a 0 cap)/\w'=w:=Any.slices_Compact_int_empty Ew a cap w
end Go.Proofs.YtgcgacjhkhjhmaaGreatDoor
