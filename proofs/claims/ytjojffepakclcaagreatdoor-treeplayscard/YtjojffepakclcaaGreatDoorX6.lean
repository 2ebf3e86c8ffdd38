/- Part of the proof: contracts over the turned program. -/
import Derived.Shelf.Slices.Clone
import Derived.Shelf.Slices.CompactI
import Derived.Shelf.SlicesE.Delete
import Derived.Test.YtjojffepakclcaaGreatDoorChecked
set_option linter.unusedVariables false
set_option maxHeartbeats 4000000
open Go.Proofs.Tryz
namespace Go.Proofs.YtjojffepakclcaaGreatDoor
open Go.Shelf
def GU:Go.Shelf.Ren:=⟨fun|45=>161|n=>n,fun|22=>71|23=>3|3=>3|4=>4|0=>0|n=>n,fun|n=>n⟩
theorem Oe:Go.Proofs.SlLaysE.n45 prog GU:={
 mixed:=by kernel_rfl
 f45:=⟨Tryz.f161.name,by decide,func161.trans (congrArg some (by kernel_rfl))⟩
 t0:=underlying0
 a0:=Tryz.isAgg0
 z0:=Tryz.sizeOf0
 v0:=Tryz.zeroValue0
 t3:=underlying3
 a3:=Tryz.isAgg3
 z3:=Tryz.sizeOf3
 v3:=Tryz.zeroValue3
 t4:=underlying4
 a4:=Tryz.isAgg4
 z4:=Tryz.sizeOf4
 v4:=Tryz.zeroValue4
 t22:=underlying71
 a22:=Tryz.isAgg71
 z22:=Tryz.sizeOf71
 v22:=Tryz.zeroValue71
 a23:=Tryz.isAgg3
 z23:=Tryz.sizeOf3 }
open Go.RowKit Go.Lib Go.Sort in
theorem N0{α:Type}[Inhabited α](enc:α->Value)(h1:OneCell enc)(zr:α)(v23:∀w,(zeroValue 3).run prog w=.ok (enc zr) w)(i0:TypeInfo)(hi0:prog.info? 3=some i0)(hz1:i0.size=1)(blk off cap i j:Nat)(d:Array α)(w:World)(hH:Holds enc w blk off d)(hcap:d.size<=cap)(hm:cap<=9223372036854775807)(hij:i<=j)(hj:j<=d.size) :
  Calls prog 161 #[.slice (some ⟨blk,off,none⟩) d.size cap,.int .i64 i,.int .i64 j] w fun e w'=>e=.returned (.slice (some ⟨blk,off,none⟩) (d.size - (j - i)) cap)/\∃q,w'=putRow enc (Sort.ahead w q) blk off (d.toList.take i++d.toList.drop j++List.replicate (j - i) zr).toArray:=AnyE.slices_Delete Oe enc h1 zr v23 i0 hi0 hz1 blk off cap i j d w hH hcap hm hij hj
def GR:Go.Shelf.Ren:=⟨fun|45=>162|n=>n,fun|22=>70|23=>9|3=>3|4=>4|0=>0|n=>n,fun|n=>n⟩
theorem MM:Go.Proofs.SlLaysE.n45 prog GR:={
 mixed:=by kernel_rfl
 f45:=⟨Tryz.f162.name,by decide,func162.trans (congrArg some (by kernel_rfl))⟩
 t0:=underlying0
 a0:=Tryz.isAgg0
 z0:=Tryz.sizeOf0
 v0:=Tryz.zeroValue0
 t3:=underlying3
 a3:=Tryz.isAgg3
 z3:=Tryz.sizeOf3
 v3:=Tryz.zeroValue3
 t4:=underlying4
 a4:=Tryz.isAgg4
 z4:=Tryz.sizeOf4
 v4:=Tryz.zeroValue4
 t22:=underlying70
 a22:=Tryz.isAgg70
 z22:=Tryz.sizeOf70
 v22:=Tryz.zeroValue70
 a23:=Tryz.isAgg9
 z23:=Tryz.sizeOf9 }
open Go.RowKit Go.Lib Go.Sort in
theorem NN{α:Type}[Inhabited α](enc:α->Value)(h1:OneCell enc)(zr:α)(v23:∀w,(zeroValue 9).run prog w=.ok (enc zr) w)(i0:TypeInfo)(hi0:prog.info? 9=some i0)(hz1:i0.size=1)(blk off cap i j:Nat)(d:Array α)(w:World)(hH:Holds enc w blk off d)(hcap:d.size<=cap)(hm:cap<=9223372036854775807)(hij:i<=j)(hj:j<=d.size) :
  Calls prog 162 #[.slice (some ⟨blk,off,none⟩) d.size cap,.int .i64 i,.int .i64 j] w fun e w'=>e=.returned (.slice (some ⟨blk,off,none⟩) (d.size - (j - i)) cap)/\∃q,w'=putRow enc (Sort.ahead w q) blk off (d.toList.take i++d.toList.drop j++List.replicate (j - i) zr).toArray:=AnyE.slices_Delete MM enc h1 zr v23 i0 hi0 hz1 blk off cap i j d w hH hcap hm hij hj
def ES:Go.Shelf.Ren:=⟨fun|20=>130|n=>n,fun|22=>71|3=>3|4=>4|0=>0|n=>n,fun|n=>n⟩
theorem EQ:Go.Proofs.Lays2.n20 prog ES:={
 mixed:=by kernel_rfl
 f20:=func130.trans (congrArg some (by kernel_rfl))
 t0:=underlying0
 a0:=Tryz.isAgg0
 z0:=Tryz.sizeOf0
 v0:=Tryz.zeroValue0
 t3:=underlying3
 a3:=Tryz.isAgg3
 z3:=Tryz.sizeOf3
 v3:=Tryz.zeroValue3
 t4:=underlying4
 a4:=Tryz.isAgg4
 z4:=Tryz.sizeOf4
 v4:=Tryz.zeroValue4
 t22:=underlying71
 a22:=Tryz.isAgg71
 z22:=Tryz.sizeOf71
 v22:=Tryz.zeroValue71
 i3:=by kernel_rfl }
open Go.RowKit Go.Lib Go.Sort in
theorem CT(blk off cap:Nat)(zs:List Int)(w:World)(hH:Holds (Value.int .i64) w blk off zs.toArray)(hsz:zs.length<=9223372036854775807)(hcap:zs.length<=cap) :
  Calls prog 130 #[.slice (some ⟨blk,off,none⟩) zs.length cap] w fun e w'=>e=.returned (.slice (some ⟨blk,off,none⟩) (Lib.compact zs).length cap)/\∃q,w'=putRow (Value.int .i64) (Sort.ahead w q) blk off (Lib.compact zs++List.replicate (zs.length - (Lib.compact zs).length) 0).toArray:=Any.slices_Compact_int EQ blk off cap zs w hH hsz hcap
open Go.RowKit Go.Lib Go.Sort in
theorem BV(a:Option Addr)(cap:Nat)(w:World) :
  Calls prog 130 #[.slice a 0 cap] w fun e w'=>e=.returned (.slice a 0 cap)/\w'=w:=Any.slices_Compact_int_empty EQ a cap w
end Go.Proofs.YtjojffepakclcaaGreatDoor
