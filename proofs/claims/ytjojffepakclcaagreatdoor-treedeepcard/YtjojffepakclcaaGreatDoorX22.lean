/- Part of the proof: contracts over the turned program. -/
import Derived.Test.YtjojffepakclcaaGreatDoorX21
set_option linter.unusedVariables false
set_option maxHeartbeats 4000000
open Go.Proofs.Tryz
namespace Go.Proofs.YtjojffepakclcaaGreatDoor
open Go.RowKit
open Go.ChangeMaps (setBlock)
structure St where
 K:List Int
 h:Nat
 m:Nat
def inR(n:Nat)(z:Int):Bool:=decide (0<=z/\z<(n:Int))
theorem GH{n:Nat}{z:Int}:inR n z=true↔0<=z/\z<(n:Int):=by simp[inR]
def St.use(sz n:Nat)(s:St)(z:Int):St:=if inR n z then (if z∈s.K then ⟨Go.Proofs.YtjojffepakclcaaGreatDoor.use sz s.K z,s.h+1,s.m⟩ else ⟨Go.Proofs.YtjojffepakclcaaGreatDoor.use sz s.K z,s.h,s.m+1⟩) else s
theorem St.sum{sz n:Nat}(s:St)(z:Int):(s.use sz n z).h+(s.use sz n z).m=s.h+s.m+(if inR n z then 1 else 0):=by
 unfold St.use;by_cases h:inR n z=true
 ·rw[if_pos h,if_pos h];split<;>(dsimp only;omega)
 ·rw[if_neg h,if_neg h];omega
def rdCS(n:Nat)(Q:Nat->ByteArray)(z:Int):ByteArray:=if inR n z then Q z.toNat else ⟨#[]⟩
def rdCE(n:Nat)(z:Int):Int:=if inR n z then 0 else 7
def Cst(w:World)(q:Cq)(F:Nat->Prop)(D:Dv)(Q:Nat->ByteArray)(M cm:Int)(s:St):Prop:=Cas w q F D Q M cm s.K (s.h:Int) (s.m:Int)
theorem LU{w:World}{q:Cq}{F:Nat->Prop}{D:Dv}{Q:Nat->ByteArray}{M cm:Int}{s:St}(H:Cst w q F D Q M cm s)(hb:s.h+s.m<=1000000000)(z:Int) :
  Calls prog 53 #[.pointer (some ⟨q.c,0,none⟩),.int .i64 z] w fun e w'=>e=.returned (.tuple #[.string (rdCS q.n Q z),.int .i64 (rdCE q.n z)])/\Cst w' q (fun j=>F j\/w.heap.size<=j) D Q M cm (s.use q.sz q.n z)/\Kp F w w':=by
 by_cases hz:inR q.n z=true
 ·have hz':=GH.1 hz;unfold rdCS rdCE St.use;rw[if_pos hz,if_pos hz,if_pos hz];by_cases hk:z∈s.K
  ·rw[if_pos hk];refine(LT H (by omega) (by omega) z hk).mono ?_;rintro e w' ⟨_,rfl,h1,h2⟩;refine⟨rfl,?_,h2⟩;exact Cas.mono h1 (fun k _ h=>.inl h)
  ·rw[if_neg hk];obtain⟨k,rfl⟩:∃k:Nat,z=(k:Int):=⟨z.toNat,by omega⟩;refine(J8 H (by omega) (by omega) k (by omega) hk).mono ?_;rintro e w' ⟨rfl,h1,h2⟩;exact⟨rfl,h1,h2⟩
 ·unfold rdCS rdCE St.use;rw[if_neg hz,if_neg hz,if_neg hz];refine(Lx H z (fun h=>hz (GH.2 h))).mono ?_;rintro e w' ⟨rfl,rfl⟩;exact⟨rfl,Cas.mono H (fun k _ h=>.inl h),Kp.refl _ _⟩
end Go.Proofs.YtjojffepakclcaaGreatDoor
