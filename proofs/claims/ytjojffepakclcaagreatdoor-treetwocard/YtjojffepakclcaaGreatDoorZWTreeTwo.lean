/- The walk of the law TreeTwo. Conditions: those that the theorem states. -/
import Derived.Test.YtjojffepakclcaaGreatDoorZTTwo
set_option linter.unusedVariables false
set_option maxHeartbeats 4000000
open Go.Proofs.Tryz
namespace Go.Proofs.YtjojffepakclcaaGreatDoor.treeTwo
open Go Go.RowKit
set_option maxRecDepth 100000 in
theorem walk(n:Int)(a1:Option Addr)(len1 cap1:Nat)(M1:List Top)(a2:Option Addr)(len2 cap2:Nat)(M2:List Top)(w:World)(hOp:Tops w.heap.size w (.slice a1 len1 cap1) M1)(hOq:Tops w.heap.size w (.slice a2 len2 cap2) M2):Calls prog 7 #[.int .i64 n,.slice a1 len1 cap1,.slice a2 len2 cap2] w fun e w'=>e=.returned (.bool true)/\w.grownBy w' none:=by
 obtain⟨L1,hO1,hl1,hlc1,hcm1⟩:=hOp.early;obtain⟨x1,y1,e1,hlq1,_,ha1⟩:=hO1;obtain⟨ea1,eb1,ec1⟩:=Value.slice.inj e1;subst ea1 ec1;have HE1:Hid (Value.slice a1 (min len1 250) cap1=.slice a1 L1.length cap1):=by rw[eb1];exact hide rfl
 have HA1:Hid (∀i (h:i<L1.length),∃b off,a1=some ⟨b,off,none⟩/\b<w.heap.size/\w.cell? ⟨b,off+i*3,none⟩=some (.string L1[i].k)/\w.cell? ⟨b,off+i*3+1,none⟩=some (.string L1[i].v)/\w.cell? ⟨b,off+i*3+2,none⟩=some (.bool L1[i].g)/\L1[i].k.size<=maxLen/\L1[i].v.size<=maxLen):=ha1;have hlr1:L1.length<=cap1:=hlq1;have HL1:Hid (L1.length<=250):=by show _<=_;omega
 clear e1 eb1 ha1 hlq1 hl1 hOp;obtain⟨L2,hO2,hl2,hlc2,hcm2⟩:=hOq.early;obtain⟨x2,y2,e2,hlq2,_,ha2⟩:=hO2;obtain⟨ea2,eb2,ec2⟩:=Value.slice.inj e2;subst ea2 ec2;have HE2:Hid (Value.slice a2 (min len2 250) cap2=.slice a2 L2.length cap2):=by rw[eb2];exact hide rfl
 have HA2:Hid (∀i (h:i<L2.length),∃b off,a2=some ⟨b,off,none⟩/\b<w.heap.size/\w.cell? ⟨b,off+i*3,none⟩=some (.string L2[i].k)/\w.cell? ⟨b,off+i*3+1,none⟩=some (.string L2[i].v)/\w.cell? ⟨b,off+i*3+2,none⟩=some (.bool L2[i].g)/\L2[i].k.size<=maxLen/\L2[i].v.size<=maxLen):=ha2;have hlr2:L2.length<=cap2:=hlq2;have HL2:Hid (L2.length<=250):=by show _<=_;omega
 clear e2 eb2 ha2 hlq2 hl2 hOq;have HLV:=hide (Bo w);obtain⟨N,HN⟩:∃q,Hid (pgT n=q):=⟨_,rfl⟩;have HNL:Hid (1<=N/\N<=160):=by rw[<-HN.out];exact DA n
 have HT0:=hide (Dj N HNL.out.1 HNL.out.2);have HCM1:=hide hcm1;have HCM2:=hide hcm2;have hcm3:=hcm1;have hcm4:=hcm2;unfold maxLen at hcm3 hcm4;go_enter func7,ntmps7;go_upto_region 5 with (first
  | (go_at_call 9;refine HLV.out.mono ?_;rintro e w0 ⟨rfl,hk0⟩)
  | (go_at_call 11;refine(Bq n _).mono ?_;rintro e w' ⟨rfl,hw'⟩;obtain rfl:=hw'.symm;rw[HN.out])
  | (go_at_call 12;first|(refine(Bc a1 len1 cap1 _ hlc1 HCM1.out).mono ?_;rintro e w' ⟨rfl,hw'⟩;obtain rfl:=hw'.symm;rw[HE1.out])|(refine(Bc a2 len2 cap2 _ hlc2 HCM2.out).mono ?_;rintro e w' ⟨rfl,hw'⟩;obtain rfl:=hw'.symm;rw[HE2.out]))
  | (go_at_call 17;refine(CG N w0 HNL.out.1 HNL.out.2).mono ?_;rintro e w1 ⟨r,V,c,rfl,hW1,hV1,hk1⟩)
  | fail)
 have hM:=G4 hW1 hV1;have hKA:Kp none' w (w1.alloc (.cells #[.pointer (some ⟨r,0,none⟩),.int .i64 0,.slice none 0 0] 37)):=(hk0.thenN hk1).thenN (Kp.alloc _ _ _);have p0:=hM.pk.c0;have HM:=hide hM;have HV1:Hid (∀k,V k->w.heap.size<=k):=fun k h=>Nat.le_trans hk0.size (hV1 k h).1;have HB:=hide (Nat.le_trans hk0.size hk1.size);clear hM hW1 hV1;obtain⟨wB,HwB⟩:∃q,Hid (w1.alloc (.cells #[.pointer (some ⟨r,0,none⟩),.int .i64 0,.slice none 0 0] 37)=q):=⟨_,rfl⟩
 obtain⟨b,Hb⟩:∃q,Hid (w1.heap.size=q):=⟨_,rfl⟩;rw[HwB.out]at HM hKA p0 |-;rw[Hb.out]at HM HB p0 |-;clear HwB;have HTW:=hide (two_new HM.out HT0.out HV1.out HB.out hKA);go_wp2;obtain⟨wC,HwC⟩:∃q,Hid (wB.alloc (.cells #[.pointer (some ⟨r,0,none⟩),.int .i64 0,.slice none 0 0] 37)=q):=⟨_,rfl⟩;obtain⟨d,Hd⟩:∃q,Hid (wB.heap.size=q):=⟨_,rfl⟩;rw[HwC.out]at HTW |-;rw[Hd.out]at HTW |-;clear HwC Hd HM HV1 HB hKA p0
 go_loopw [9] (fun u wr=>∃j:Nat,j<=250/\u=.int .i64 j/\Hid (DuoE w wr b d r c N j j)) (fun u _=>250 - (intOf u).toNat)
 case atStart=>exact⟨0,Nat.zero_le _,rfl,HTW⟩
 case round =>
  obtain⟨j,hj,rfl,HI⟩:=hrel;have hK:=HI.out.kp;have hm1:=HL1.out;have hm2:=HL2.out;by_cases hlt1:j<L1.length
  ·by_cases hlt2:j<L2.length
   ·obtain⟨b1',o1,ea1,_,u01,u11,u21,s01,s11⟩:=HA1.out j hlt1;subst ea1;have q01:=hK.cell u01 (fun h=>h);have q11:=hK.cell u11 (fun h=>h);have q21:=hK.cell u21 (fun h=>h);have hlt1':(j:Int)<(L1.length:Int):=by omega
    generalize L1[j]=y1 at *;obtain⟨b2',o2,ea2,_,u02,u12,u22,s02,s12⟩:=HA2.out j hlt2;subst ea2;have q02:=hK.cell u02 (fun h=>h);have q12:=hK.cell u12 (fun h=>h);have q22:=hK.cell u22 (fun h=>h);have hlt2':(j:Int)<(L2.length:Int):=by omega
    generalize L2[j]=y2 at *;go_wp2_with (first
     | (go_at_call 18;refine(hx2.swap.step y2.k y2.v y2.g s02 s12 (by omega)).mono ?_;rintro e w3 ⟨rfl,hx3⟩)
     | (go_at_call 18;refine(HI.out.step y1.k y1.v y1.g s01 s11 (by omega)).mono ?_;rintro e w2 ⟨rfl,hx2⟩;have q02:=hx2.kp.cell u02 (fun h=>h);have q12:=hx2.kp.cell u12 (fun h=>h);have q22:=hx2.kp.cell u22 (fun h=>h))
     | fail)
    go_roundw
    case rel=>exact⟨j+1,by omega,by go_num,hide hx3.swap⟩
    case measure=>simp[intOf];omega
   ·have hlt2':¬(j:Int)<(L2.length:Int):=by omega
    obtain⟨b1',o1,ea1,_,u01,u11,u21,s01,s11⟩:=HA1.out j hlt1;subst ea1;have q01:=hK.cell u01 (fun h=>h);have q11:=hK.cell u11 (fun h=>h);have q21:=hK.cell u21 (fun h=>h);have hlt1':(j:Int)<(L1.length:Int):=by omega
    generalize L1[j]=y1 at *;go_wp2_with (first
     | (go_at_call 18;refine(HI.out.step y1.k y1.v y1.g s01 s11 (by omega)).mono ?_;rintro e w2 ⟨rfl,hx2⟩)
     | fail)
    go_roundw
    case rel=>exact⟨j+1,by omega,by go_num,hide (hx2.more (Nat.le_refl _) (by omega))⟩
    case measure=>simp[intOf];omega
  ·have hlt1':¬(j:Int)<(L1.length:Int):=by omega
   by_cases hlt2:j<L2.length
   ·obtain⟨b2',o2,ea2,_,u02,u12,u22,s02,s12⟩:=HA2.out j hlt2;subst ea2;have q02:=hK.cell u02 (fun h=>h);have q12:=hK.cell u12 (fun h=>h);have q22:=hK.cell u22 (fun h=>h);have hlt2':(j:Int)<(L2.length:Int):=by omega
    generalize L2[j]=y2 at *;go_wp2_with (first
     | (go_at_call 18;refine(HI.out.swap.step y2.k y2.v y2.g s02 s12 (by omega)).mono ?_;rintro e w3 ⟨rfl,hx3⟩)
     | fail)
    go_roundw
    case rel=>exact⟨j+1,by omega,by go_num,hide (hx3.swap.more (by omega) (Nat.le_refl _))⟩
    case measure=>simp[intOf];omega
   ·have hlt2':¬(j:Int)<(L2.length:Int):=by omega
    obtain⟨V,S,z1,z2,v1,v2,l1,l2,p1,p2,hI,hn1,hn2⟩:=HI.out;have HII:=hide hI;have HS1:=hide (hI.s1.scan hI.t1 ⟨#[]⟩ ⟨#[]⟩);have HS2:=hide (hI.s2.scan hI.t2 ⟨#[]⟩ ⟨#[]⟩);rw[all_in]at HS1 HS2;obtain⟨D1,hD1,_⟩:=Cj hI.t1;obtain⟨D2,hD2,_⟩:=Cj hI.t2;have hpl:=G0 hI.t1;have HN1:=hide (hI.s1.snd hI.t1 D1 hD1);have HN2:=hide (hI.s2.snd hI.t2 D2 hD2);have HU:=hide (hI.s1.used hI.t1);have m0b:=hI.s1.pk.c0;have m1b:=hI.s1.pk.c1;have m2b:=hI.s1.pk.c2;have m0d:=hI.s2.pk.c0;have m1d:=hI.s2.pk.c1
    have m2d:=hI.s2.pk.c2;obtain⟨k1,Hk1⟩:∃q,Hid (p1.length=q):=⟨_,rfl⟩;obtain⟨k2,Hk2⟩:∃q,Hid (p2.length=q):=⟨_,rfl⟩;rw[Hk1.out]at HN1 HU hpl;rw[Hk2.out]at HN2 HU hpl;have hkr:Kp none' wr wr:=Kp.refl _ _;clear hI hD1 hD2 HI;have hdwr:Kp none' wr wr.drew:=Kp.drew _ _;have hkrd:=hkr.thenN hdwr;have TDwr:wr.drew.cell? ⟨b,0,none⟩=some (.pointer (some ⟨r,0,none⟩))/\wr.drew.cell? ⟨b,1,none⟩=some (.int .i64 z1):=⟨hkrd.cell m0b (fun h=>h),hkrd.cell m1b (fun h=>h)⟩;go_upto_region 11 with fail
    go_region_held_law (fun W=>W.cell? ⟨b,0,none⟩=some (.pointer (some ⟨r,0,none⟩))/\W.cell? ⟨b,1,none⟩=some (.int .i64 z1)) (first|assumption) (first
     | (go_at_call 15;refine(HS1.out _ hkrd).mono ?_;rintro e w4 ⟨a4,n4,c4,rfl,ho4,hw4⟩;have TEw4:w4.cell? ⟨b,0,none⟩=some (.pointer (some ⟨r,0,none⟩))/\w4.cell? ⟨b,1,none⟩=some (.int .i64 z1):=⟨hw4.cell TDwr.1 (fun h=>h),hw4.cell TDwr.2 (fun h=>h)⟩)
     | fail)
    have hk4:=hkrd.thenN hw4;clear TDwr TEw4;have hdw4:Kp none' w4 w4.drew:=Kp.drew _ _;have hk4d:=hk4.thenN hdw4;have TDw4:w4.drew.cell? ⟨d,0,none⟩=some (.pointer (some ⟨r,0,none⟩))/\w4.drew.cell? ⟨d,1,none⟩=some (.int .i64 z2):=⟨hk4d.cell m0d (fun h=>h),hk4d.cell m1d (fun h=>h)⟩;go_upto_region 12 with fail;go_region_held_law (fun W=>W.cell? ⟨d,0,none⟩=some (.pointer (some ⟨r,0,none⟩))/\W.cell? ⟨d,1,none⟩=some (.int .i64 z2)) (first|assumption) (first
     | (go_at_call 15;refine(HS2.out _ hk4d).mono ?_;rintro e w5 ⟨a5,n5,c5,rfl,ho5,hw5⟩;have TEw5:w5.cell? ⟨d,0,none⟩=some (.pointer (some ⟨r,0,none⟩))/\w5.cell? ⟨d,1,none⟩=some (.int .i64 z2):=⟨hw5.cell TDw4.1 (fun h=>h),hw5.cell TDw4.2 (fun h=>h)⟩)
     | fail)
    have hk5:=hk4d.thenN hw5;clear TDw4 TEw5;have hdw5:Kp none' w5 w5.drew:=Kp.drew _ _;have hk5d:=hk5.thenN hdw5;have TDw5:w5.drew.cell? ⟨b,0,none⟩=some (.pointer (some ⟨r,0,none⟩))/\w5.drew.cell? ⟨b,1,none⟩=some (.int .i64 z1):=⟨hk5d.cell m0b (fun h=>h),hk5d.cell m1b (fun h=>h)⟩;go_upto_region 13 with fail;go_region_held_law (fun W=>W.cell? ⟨b,0,none⟩=some (.pointer (some ⟨r,0,none⟩))/\W.cell? ⟨b,1,none⟩=some (.int .i64 z1)) (first|assumption) (first
     | (go_at_call 19;refine(HN1.out _ hk5d).mono ?_;rintro e w6 ⟨rfl,hw6⟩;have TEw6:w6.cell? ⟨b,0,none⟩=some (.pointer (some ⟨r,0,none⟩))/\w6.cell? ⟨b,1,none⟩=some (.int .i64 z1):=⟨hw6.cell TDw5.1 (fun h=>h),hw6.cell TDw5.2 (fun h=>h)⟩)
     | fail)
    have hk6:=hk5d.thenN hw6;clear TDw5 TEw6;have hdw6:Kp none' w6 w6.drew:=Kp.drew _ _;have hk6d:=hk6.thenN hdw6;have TDw6:w6.drew.cell? ⟨d,0,none⟩=some (.pointer (some ⟨r,0,none⟩))/\w6.drew.cell? ⟨d,1,none⟩=some (.int .i64 z2):=⟨hk6d.cell m0d (fun h=>h),hk6d.cell m1d (fun h=>h)⟩;go_upto_region 14 with fail;go_region_held_law (fun W=>W.cell? ⟨d,0,none⟩=some (.pointer (some ⟨r,0,none⟩))/\W.cell? ⟨d,1,none⟩=some (.int .i64 z2)) (first|assumption) (first
     | (go_at_call 19;refine(HN2.out _ hk6d).mono ?_;rintro e w7 ⟨rfl,hw7⟩;have TEw7:w7.cell? ⟨d,0,none⟩=some (.pointer (some ⟨r,0,none⟩))/\w7.cell? ⟨d,1,none⟩=some (.int .i64 z2):=⟨hw7.cell TDw6.1 (fun h=>h),hw7.cell TDw6.2 (fun h=>h)⟩)
     | fail)
    have hk7:=hk6d.thenN hw7;clear TDw6 TEw7;have r0b:=hk7.cell m0b (fun h=>h);have r2b:=hk7.cell m2b (fun h=>h);have r2d:=hk7.cell m2d (fun h=>h);have hc4:Kp none' w4 w7:=(((hdw4.thenN hw5).thenN (hdw5.thenN hw6)).thenN (hdw6.thenN hw7));have hc5:Kp none' w5 w7:=(hdw5.thenN hw6).thenN (hdw6.thenN hw7);have hP4:=(ho4.keptN hc4).prs;have hP5:=(ho5.keptN hc5).prs;have hQ1:=(HII.out.s1.keptN hk7).pq.o.prs;have hQ2:=(HII.out.s2.keptN hk7).pq.o.prs;have hkz:Kp none' wr w7:=hk7;go_wp2_with (first
     | (go_at_call 16;first|(refine(Ck _ _ l2 _ _ w8 (hP5.keptN hk8) (hQ2.keptN hk8)).mono ?_;rintro e w9 ⟨rfl,hk9⟩;have r0b9:=hk9.cell r0b8 (fun h=>h))|(refine(Ck _ _ l1 _ _ w7 hP4 hQ1).mono ?_;rintro e w8 ⟨rfl,hk8⟩;have r2d8:=hk8.cell r2d (fun h=>h);have r0b8:=hk8.cell r0b (fun h=>h)))
     | (go_at_call 20;refine(HU.out _ ((hkz.thenN hk8).thenN hk9)).mono ?_;rintro e w' ⟨rfl,hw'⟩;obtain rfl:=hw'.symm)
     | fail)
    go_ret;exact⟨by simp;omega,(hK.thenN ((hkz.thenN hk8).thenN hk9)).grown⟩
end Go.Proofs.YtjojffepakclcaaGreatDoor.treeTwo
