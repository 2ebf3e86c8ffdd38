/- The walk of the law TreeSound. Conditions: those that the theorem states. -/
import Derived.Test.YtjojffepakclcaaGreatDoorX39
set_option linter.unusedVariables false
set_option maxHeartbeats 4000000
open Go.Proofs.Tryz
namespace Go.Proofs.YtjojffepakclcaaGreatDoor.treeSound
open Go Go.RowKit
set_option maxRecDepth 100000 in
theorem walk(n:Int)(a:Option Addr)(len cap:Nat)(L:List Top)(w:World)(hO:Tops w.heap.size w (.slice a len cap) L):Calls prog 4 #[.int .i64 n,.slice a len cap] w fun e w'=>e=.returned (.bool true)/\w.grownBy w' none:=by
 obtain⟨L2,hO2,hl2,hlc,hcm⟩:=hO.early;have HLV:=hide (Bo w);obtain⟨N,HN⟩:∃q,Hid (pgT n=q):=⟨_,rfl⟩;have HNL:Hid (1<=N/\N<=160):=by rw[<-HN.out];exact DA n
 have HO2:=hide hO2;have HL2:Hid (L2.length<=250):=by show _<=_;omega
 clear hO hO2 hl2;obtain⟨a1,c0,e0,hlc2,hcm2,ha⟩:=HO2.out;obtain⟨ea0,eb0,ec0⟩:=Value.slice.inj e0;subst ea0 ec0;have HE0:Hid (Value.slice a (min len 250) cap=.slice a L2.length cap):=by rw[eb0];exact hide rfl
 have HA:Hid (∀i (h:i<L2.length),∃b off,a=some ⟨b,off,none⟩/\b<w.heap.size/\w.cell? ⟨b,off+i*3,none⟩=some (.string L2[i].k)/\w.cell? ⟨b,off+i*3+1,none⟩=some (.string L2[i].v)/\w.cell? ⟨b,off+i*3+2,none⟩=some (.bool L2[i].g)/\L2[i].k.size<=maxLen/\L2[i].v.size<=maxLen):=ha;have hlc3:L2.length<=cap:=hlc2;have HT0:=hide (Dj N HNL.out.1 HNL.out.2);clear e0 eb0 ha hlc2 HO2;go_enter func4,ntmps4;go_upto_region 5 with (first
  | (go_at_call 9;refine HLV.out.mono ?_;rintro e w0 ⟨rfl,hk0⟩)
  | (go_at_call 11;refine(Bq n _).mono ?_;rintro e w' ⟨rfl,hw'⟩;obtain rfl:=hw'.symm;rw[HN.out])
  | (go_at_call 12;refine(Bc a len cap _ hlc hcm).mono ?_;rintro e w' ⟨rfl,hw'⟩;obtain rfl:=hw'.symm;rw[HE0.out])
  | (go_at_call 17;refine(CG N w0 HNL.out.1 HNL.out.2).mono ?_;rintro e w1 ⟨r,V,c,rfl,hW1,hV1,hk1⟩)
  | fail)
 have hM:=G4 hW1 hV1;have hKA:Kp none' w (w1.alloc (.cells #[.pointer (some ⟨r,0,none⟩),.int .i64 0,.slice none 0 0] 37)):=(hk0.thenN hk1).thenN (Kp.alloc _ _ _);have p0:=hM.pk.c0;have HM:=hide hM;have HV1:Hid (∀k,V k->w.heap.size<=k):=fun k h=>Nat.le_trans hk0.size (hV1 k h).1;have HB:=hide (Nat.le_trans hk0.size hk1.size);clear hM hW1 hV1;have hcm4:=hcm;unfold maxLen at hcm4;go_wp2
 obtain⟨wB,HwB⟩:∃q,Hid (w1.alloc (.cells #[.pointer (some ⟨r,0,none⟩),.int .i64 0,.slice none 0 0] 37)=q):=⟨_,rfl⟩;obtain⟨b,Hb⟩:∃q,Hid (w1.heap.size=q):=⟨_,rfl⟩;rw[HwB.out]at HM hKA p0 |-;rw[Hb.out]at HM HB p0 |-;clear HwB;go_loopw [6] (fun u wr=>∃j:Nat,j<=L2.length/\u=.int .i64 j/\Hid (∃V S z v l pgs,Sta wr b r V c S z v l/\Tre S N [] z l pgs/\l.length<=j/\∀k,V k->w.heap.size<=k)/\Kp none' w wr) (fun u _=>L2.length - (intOf u).toNat)
 case atStart=>exact⟨0,Nat.zero_le _,rfl,hide ⟨V,_,_,_,_,_,HM.out,HT0.out,Nat.le_refl _,HV1.out⟩,hKA⟩
 case round =>
  obtain⟨j,hj,rfl,HI,hK⟩:=hrel;obtain⟨V2,S,z,v,l,pgs,hM,hT,hl,hV⟩:=HI.out;by_cases hlt:j<L2.length
  ·obtain⟨b',o,ea,_,q0,q1,q2,s0,s1⟩:=HA.out j hlt;subst ea;have q0:=hK.cell q0 (fun h=>h);have q1:=hK.cell q1 (fun h=>h);have q2:=hK.cell q2 (fun h=>h);have hlt':(j:Int)<(L2.length:Int):=by omega
   have HLJ:Hid (l.length<=100000):=by show _<=_;have:=HL2.out;omega
   generalize L2[j]=y at *;have HS:=hide (Ds b r c N V2 S [] pgs z l v y.k y.v y.g wr hM hT s0 s1 HLJ.out);have HL:=hide hl;have HV:=hide hV;clear hM hT hl hV HI;go_upto_region 10 with (first
    | (go_at_call 18;refine HS.out.mono ?_;rintro e w2 ⟨rfl,hpost⟩)
    | fail)
   obtain⟨V',S',z',v',l',pgs',g1,g2,_,g4,g5⟩:=hpost;have hv':∀k,V' k->w.heap.size<=k:=fun k h=>by
    rcases g5.v1 k h with h|h
    ·exact HV.out k h
    ·exact Nat.le_trans hK.size h
   have hK2:Kp none' w w2:=hK.trans g5.k1 (fun _ _ h=>h) (fun k hk h=>by
    rcases h with h|h
    ·exact absurd (HV.out k h) (by omega)
    ·have:=HB.out;omega)
   obtain⟨D,hD,_⟩:=Cj g2;have hpl:=G0 g2;have HSn:=hide (g1.snd g2 D hD);have HU:=hide (g1.used g2);have m0:w2.cell? ⟨b,0,none⟩=some (.pointer (some ⟨r,0,none⟩)):=g1.pk.c0;have m1:w2.cell? ⟨b,1,none⟩=some (.int .i64 z'):=g1.pk.c1;have T2:w2.drew.cell? ⟨b,0,none⟩=some (.pointer (some ⟨r,0,none⟩))/\w2.drew.cell? ⟨b,1,none⟩=some (.int .i64 z'):=⟨m0,m1⟩;have hd2:Kp none' w2 w2.drew:=Kp.drew _ _
   have HE:Hid (∀W,Kp none' w2 W->∃V S z v l pgs,Sta W b r V c S z v l/\Tre S N [] z l pgs/\l.length<=j+1/\∀k,V k->w.heap.size<=k):=fun W hkW=>⟨V',S',z',v',l',pgs',g1.keptN hkW,g2,by have:=HL.out;omega,hv'⟩;obtain⟨q,HQ⟩:∃q,Hid (pgs'.length=q):=⟨_,rfl⟩;rw[HQ.out]at HSn HU hpl;have HU2:Hid (∀W,Kp none' w2 W->Calls prog 20 #[.pointer (some ⟨r,0,none⟩)] W fun e w'=>e=.returned (.int .i64 (1+(q:Int)))/\w'=W):=fun W hkW=>by
    have:=HU.out W hkW;rw[show (1+((q:Int)+(([]:List Int).length:Int)))=1+(q:Int) by simp]at this;exact this
   clear g1 g2 g4 g5 hv' HU hD;go_region_held_law (fun W=>W.cell? ⟨b,0,none⟩=some (.pointer (some ⟨r,0,none⟩))/\W.cell? ⟨b,1,none⟩=some (.int .i64 z')) (first|assumption) (first
    | (go_at_call 19;refine(HSn.out _ hd2).mono ?_;rintro e w3 ⟨rfl,hk3⟩;have T3:w3.cell? ⟨b,0,none⟩=some (.pointer (some ⟨r,0,none⟩))/\w3.cell? ⟨b,1,none⟩=some (.int .i64 z'):=⟨hk3.cell T2.1 (fun h=>h),hk3.cell T2.2 (fun h=>h)⟩)
    | fail)
   have hk23:=hd2.thenN hk3;have p3:=T3.1;clear T2 T3 m0 m1;go_wp2_with (first
    | (go_at_call 20;refine(HU2.out _ hk23).mono ?_;rintro e w' ⟨rfl,hw'⟩;obtain rfl:=hw'.symm)
    | fail)
   go_roundw
   case rel=>exact⟨j+1,by omega,by go_num,hide (HE.out _ hk23),hK2.thenN hk23⟩
   case measure=>simp[intOf];omega
  ·have hlt':¬(j:Int)<(L2.length:Int):=by omega
   clear hM hT hl hV HI;go_wp2;go_ret;exact⟨rfl,hK.grown⟩
end Go.Proofs.YtjojffepakclcaaGreatDoor.treeSound
