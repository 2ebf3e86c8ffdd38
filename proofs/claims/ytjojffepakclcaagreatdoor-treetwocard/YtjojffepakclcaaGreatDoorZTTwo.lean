/- Contracts, over the turned program: two plays on the same work. Conditions: those that each theorem states. -/
import Derived.Test.YtjojffepakclcaaGreatDoorX39
set_option linter.unusedVariables false
set_option maxHeartbeats 4000000
open Go.Proofs.Tryz
namespace Go.Proofs.YtjojffepakclcaaGreatDoor
open Go Go.RowKit
structure Duo (w0 w:World) (b1 b2 r c N:Nat) (V:Nat->Prop) (S:Sw) (z1 z2:Int) (v1 v2:Value) (l1 l2:List Pr) (p1 p2:List Int):Prop where
 s1:Sta w b1 r V c S z1 v1 l1
 s2:Sta w b2 r V c S z2 v2 l2
 t1:Tre S N p2 z1 l1 p1
 t2:Tre S N p1 z2 l2 p2
 vv:∀k,V k->w0.heap.size<=k
 ne:b1≠b2
 g1:w0.heap.size<=b1
 g2:w0.heap.size<=b2
 o1:∀g,v1.ownBlock=some g->g≠b2
 o2:∀g,v2.ownBlock=some g->g≠b1
 kp:Kp none' w0 w
theorem Duo.swap{w0 w:World}{b1 b2 r c N:Nat}{V:Nat->Prop}{S:Sw}{z1 z2:Int}{v1 v2:Value}{l1 l2:List Pr}{p1 p2:List Int}(h:Duo w0 w b1 b2 r c N V S z1 z2 v1 v2 l1 l2 p1 p2):Duo w0 w b2 b1 r c N V S z2 z1 v2 v1 l2 l1 p2 p1 :=
 ⟨h.s2,h.s1,h.t2,h.t1,h.vv,h.ne.symm,h.g2,h.g1,h.o2,h.o1,h.kp⟩
def DuoE(w0 w:World)(b1 b2 r c N i j:Nat):Prop:=∃V S z1 z2 v1 v2 l1 l2 p1 p2,Duo w0 w b1 b2 r c N V S z1 z2 v1 v2 l1 l2 p1 p2/\l1.length<=i/\l2.length<=j
theorem DuoE.swap{w0 w:World}{b1 b2 r c N i j:Nat}(h:DuoE w0 w b1 b2 r c N i j):DuoE w0 w b2 b1 r c N j i:=by
 obtain⟨V,S,z1,z2,v1,v2,l1,l2,p1,p2,h,a,b⟩:=h;exact⟨V,S,z2,z1,v2,v1,l2,l1,p2,p1,h.swap,b,a⟩
theorem DuoE.more{w0 w:World}{b1 b2 r c N i j i' j':Nat}(h:DuoE w0 w b1 b2 r c N i j)(hi:i<=i')(hj:j<=j'):DuoE w0 w b1 b2 r c N i' j':=by
 obtain⟨V,S,z1,z2,v1,v2,l1,l2,p1,p2,h,a,b⟩:=h;exact⟨V,S,z1,z2,v1,v2,l1,l2,p1,p2,h,by omega,by omega⟩
theorem DuoE.kp{w0 w:World}{b1 b2 r c N i j:Nat}(h:DuoE w0 w b1 b2 r c N i j):Kp none' w0 w:=by
 obtain⟨V,S,z1,z2,v1,v2,l1,l2,p1,p2,h,a,b⟩:=h;exact h.kp
theorem DuoE.step{w0 w:World}{b1 b2 r c N i j:Nat}(h:DuoE w0 w b1 b2 r c N i j)(k u:ByteArray)(g:Bool)(hk:k.size<=maxLen)(hu:u.size<=maxLen)(hi:i<=1000) :
  Calls prog 18 #[.pointer (some ⟨b1,0,none⟩),.agg #[.string k,.string u,.bool g]] w fun e w'=>e=.returned (.bool true)/\DuoE w0 w' b1 b2 r c N (i+1) j:=by
 obtain⟨V,S,z1,z2,v1,v2,l1,l2,p1,p2,h,hl1,hl2⟩:=h;refine(Ds b1 r c N V S p2 p1 z1 l1 v1 k u g w h.s1 h.t1 hk hu (by omega)).mono ?_;rintro e w' ⟨he,V',S',z',v',l',p',m1,m2,m3,m4,m5⟩;refine⟨he,V',S',z',z2,v',v2,l',l2,p',p2,⟨m1,h.s2.other (z:=z1) (l:=l1) m5 m1.wk m1.vl h.ne.symm h.o2,m2,LJ (z:=z1) (prs:=l1) h.t2 m2 m3,fun q hq=>?_,h.ne,h.g1,h.g2,fun q hq=>?_,h.o2,?_⟩,by omega,hl2⟩
 ·rcases m5.v1 q hq with e|e
  ·exact h.vv q e
  ·exact Nat.le_trans h.kp.size e
 ·rcases m5.o1 q hq with e|e
  ·exact h.o1 q e
  ·have:=h.s2.pk.lt;omega
 ·exact h.kp.trans m5.k1 (fun _ _ h=>h) (fun q hq e=>by
   rcases e with e|e
   ·exact absurd (h.vv q e) (by omega)
   ·have:=h.g1;omega)
theorem two_new{w0 w1:World}{b r c N:Nat}{V:Nat->Prop}(hM:Sta w1 b r V c (sw0 N) 0 (.slice none 0 0) [])(hT:Tre (sw0 N) N [] 0 [] [])(hV:∀k,V k->w0.heap.size<=k)(hB:w0.heap.size<=b)(hK:Kp none' w0 w1) :
  DuoE w0 (w1.alloc (.cells #[.pointer (some ⟨r,0,none⟩),.int .i64 0,.slice none 0 0] 37)) b w1.heap.size r c N 0 0:=by
 have hk:Kp none' w1 (w1.alloc (.cells #[.pointer (some ⟨r,0,none⟩),.int .i64 0,.slice none 0 0] 37)):=Kp.alloc _ _ _;refine⟨V,_,0,0,_,_,[],[],[],[],⟨hM.keptN hk,⟨heap_alloc_new w1 _,⟨OwP.nil _ _,List.Pairwise.nil,fun p hp=>by cases hp⟩,hM.wk.keptN hk,fun k h=>PW (hM.vl k h) hk.size,fun h=>by have:=hM.vl _ h;omega,fun g hg=>by cases hg⟩,hT,hT,hV,?_,hB,hK.size,fun g hg=>(by cases hg),fun g hg=>(by cases hg),hK.thenN hk⟩,Nat.le_refl _,Nat.le_refl _⟩;have:=hM.pk.lt;omega
end Go.Proofs.YtjojffepakclcaaGreatDoor
