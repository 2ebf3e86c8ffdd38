/- The walk of the law TreeDrops. Conditions: those that the theorem states. -/
import Derived.Test.YtjojffepakclcaaGreatDoorX39
set_option linter.unusedVariables false
set_option maxHeartbeats 4000000
open Go.Proofs.Tryz
namespace Go.Proofs.YtjojffepakclcaaGreatDoor.treeDrops
open Go Go.RowKit
set_option maxRecDepth 100000 in
theorem walk0(n:Int)(a:Option Addr)(len cap:Nat)(L:List Top)(w:World)(hO:Tops w.heap.size w (.slice a len cap) L):Calls prog 6 #[.int .i64 n,.slice a len cap,.bool false] w fun e w'=>e=.returned (.bool true)/\w.grownBy w' none:=by
 obtain⟨L2,hO2,hl2,hlc,hcm⟩:=hO.early;have HLV:=hide (Bo w);obtain⟨N,HN⟩:∃q,Hid (pgT n=q):=⟨_,rfl⟩;have HNL:Hid (1<=N/\N<=160):=by rw[<-HN.out];exact DA n
 have HO2:=hide hO2;have HL2:Hid (L2.length<=250):=by show _<=_;omega
 clear hO hO2 hl2;go_enter func6,ntmps6;go_upto_region 7 with (first
  | (go_at_call 9;refine HLV.out.mono ?_;rintro e w1 ⟨rfl,hk1⟩)
  | (go_at_call 11;refine(Bq n _).mono ?_;rintro e w' ⟨rfl,hw'⟩;obtain rfl:=hw'.symm;rw[HN.out])
  | (go_at_call 12;refine(Bc a len cap _ hlc hcm).mono ?_;rintro e w' ⟨rfl,hw'⟩;obtain rfl:=hw'.symm)
  | (go_at_call 10;refine(BT N _ L2 w1 HNL.out.1 HNL.out.2 ((HO2.out.keptN hk1).mono hk1.size) HL2.out).mono ?_;rintro e w2 ⟨b,rfl,hpost⟩)
  | fail)
 obtain⟨r,V,c,S,z,v,l,pgs,hM,hT,hl,hb,hV,hk2⟩:=hpost;have HK2:=hide (hk1.thenN hk2);have HM:=hide hM;have HT:=hide hT;have HL:=hide hl;have m0:w2.cell? ⟨b,0,none⟩=some (.pointer (some ⟨r,0,none⟩)):=hM.pk.c0;have m1:w2.cell? ⟨b,1,none⟩=some (.int .i64 z):=hM.pk.c1;have m2:w2.cell? ⟨b,2,none⟩=some v:=hM.pk.c2;have T2:w2.drew.cell? ⟨b,0,none⟩=some (.pointer (some ⟨r,0,none⟩))/\w2.drew.cell? ⟨b,1,none⟩=some (.int .i64 z):=⟨m0,m1⟩;have hd2:Kp none' w2 w2.drew:=Kp.drew _ _;clear hM hT hl
 have HDr:Hid (∀W,Kp none' w2 W->Calls prog 22 #[.pointer (some ⟨r,0,none⟩),.int .i64 z] W fun e w'=>e=.returned (.int .i64 0)/\Kp V W w'/\Calls prog 20 #[.pointer (some ⟨r,0,none⟩)] w' fun e w''=>e=.returned (.int .i64 1)/\w''=w'):=fun W hkW=>by
  have hM:=HM.out.keptN hkW;have:=LI r c 0 V S z W hM.wk hM.vl (by omega);have hd:=Nj HT.out;rw[hd.1]at this;refine this.mono ?_;rintro e w' ⟨rfl,h1,h2⟩;refine⟨rfl,h2,?_⟩;have:=Dt r _ c _ _ w' h1;rw[hd.2]at this;exact this
 have hvb:=HM.out.vb;go_region_held_law (fun W=>W.cell? ⟨b,0,none⟩=some (.pointer (some ⟨r,0,none⟩))/\W.cell? ⟨b,1,none⟩=some (.int .i64 z)) (first|assumption) (first
  | (go_at_call 22;refine(HDr.out _ hd2).mono ?_;rintro e w3 ⟨rfl,hk3,hu3⟩;have T3:w3.cell? ⟨b,0,none⟩=some (.pointer (some ⟨r,0,none⟩))/\w3.cell? ⟨b,1,none⟩=some (.int .i64 z):=⟨hk3.cell T2.1 hvb,hk3.cell T2.2 hvb⟩)
  | (go_at_call 20;refine hu3.mono ?_;rintro e w' ⟨rfl,hw'⟩;obtain rfl:=hw'.symm)
  | fail)
 go_wp2;go_ret;exact⟨by simp,((HK2.out.thenN hd2).trans hk3 (fun _ _ h=>h) (fun k hk h=>absurd (hV k h) (by have:=hk1.size;omega))).grown⟩
set_option maxRecDepth 100000 in
theorem walk1(n:Int)(a:Option Addr)(len cap:Nat)(L:List Top)(w:World)(hO:Tops w.heap.size w (.slice a len cap) L):Calls prog 6 #[.int .i64 n,.slice a len cap,.bool true] w fun e w'=>e=.returned (.bool true)/\w.grownBy w' none:=by
 obtain⟨L2,hO2,hl2,hlc,hcm⟩:=hO.early;have HLV:=hide (Bo w);obtain⟨N,HN⟩:∃q,Hid (pgT n=q):=⟨_,rfl⟩;have HNL:Hid (1<=N/\N<=160):=by rw[<-HN.out];exact DA n
 have HO2:=hide hO2;have HL2:Hid (L2.length<=250):=by show _<=_;omega
 clear hO hO2 hl2;go_enter func6,ntmps6;go_upto_region 8 with (first
  | (go_at_call 9;refine HLV.out.mono ?_;rintro e w1 ⟨rfl,hk1⟩)
  | (go_at_call 11;refine(Bq n _).mono ?_;rintro e w' ⟨rfl,hw'⟩;obtain rfl:=hw'.symm;rw[HN.out])
  | (go_at_call 12;refine(Bc a len cap _ hlc hcm).mono ?_;rintro e w' ⟨rfl,hw'⟩;obtain rfl:=hw'.symm)
  | (go_at_call 10;refine(BT N _ L2 w1 HNL.out.1 HNL.out.2 ((HO2.out.keptN hk1).mono hk1.size) HL2.out).mono ?_;rintro e w2 ⟨b,rfl,hpost⟩)
  | fail)
 obtain⟨r,V,c,S,z,v,l,pgs,hM,hT,hl,hb,hV,hk2⟩:=hpost;have HK2:=hide (hk1.thenN hk2);have HM:=hide hM;have HT:=hide hT;have HL:=hide hl;have m0:w2.cell? ⟨b,0,none⟩=some (.pointer (some ⟨r,0,none⟩)):=hM.pk.c0;have m1:w2.cell? ⟨b,1,none⟩=some (.int .i64 z):=hM.pk.c1;have m2:w2.cell? ⟨b,2,none⟩=some v:=hM.pk.c2;have T2:w2.drew.cell? ⟨b,0,none⟩=some (.pointer (some ⟨r,0,none⟩))/\w2.drew.cell? ⟨b,1,none⟩=some (.int .i64 z):=⟨m0,m1⟩;have hd2:Kp none' w2 w2.drew:=Kp.drew _ _;clear hM hT hl
 have HV:Hid (∀k,V k->w.heap.size<=k):=fun k h=>Nat.le_trans hk1.size (hV k h);have HB:Hid (w.heap.size<=b):=Nat.le_trans hk1.size hb;have HBL:Hid (b<w2.drew.heap.size):=HM.out.pk.lt;have HASC:=hide HM.out.pq.asc;have HSZ:=hide HM.out.pq.sz;have HS:=hide (HM.out.scan HT.out ⟨#[]⟩ ⟨#[]⟩);rw[all_in]at HS;clear hV hb;go_region_held_law (fun W=>W.cell? ⟨b,0,none⟩=some (.pointer (some ⟨r,0,none⟩))/\W.cell? ⟨b,1,none⟩=some (.int .i64 z)) (first|assumption) (first
  | (go_at_call 15;refine(HS.out _ hd2).mono ?_;rintro e w5 ⟨a5,n5,c5,rfl,ho5,hk5⟩;have T5:w5.cell? ⟨b,0,none⟩=some (.pointer (some ⟨r,0,none⟩))/\w5.cell? ⟨b,1,none⟩=some (.int .i64 z):=⟨hk5.cell T2.1 (fun h=>h),hk5.cell T2.2 (fun h=>h)⟩)
  | fail)
 have hk25:=hd2.thenN hk5;obtain⟨aa,cc,e5,hlc5,hcm5,_⟩:=ho5.prs;cases e5
 have HOW:Hid (∀k,(Value.slice a5 l.length c5).ownBlock=some k->¬V k):=fun k hk hv=>by have:=(ho5.lt k hk).1;have:=HM.out.vl k hv;have:=hd2.size;omega
 have HO5:=hide ho5;have HM5:=hide (HM.out.keptN hk25);have HK5:=hide (HK2.out.thenN hk25);unfold maxLen at hcm5;have hl250:=HL.out;clear T2 T5 m0 m1 m2 ho5 HM HS;go_wp2;go_loopw [11] (fun u wr=>∃j:Nat,j<=l.length/\u=.int .i64 j/\Hid (∃V S z pgs,Sta wr b r V c S z v l/\Tre S N [] z (l.drop j) pgs/\(∀k,V k->w.heap.size<=k)/\OwP wr w2.drew.heap.size (.slice a5 l.length c5) l/\∀k,(Value.slice a5 l.length c5).ownBlock=some k->¬V k)/\Kp none' w wr) (fun u _=>l.length - (intOf u).toNat)
 case atStart=>exact⟨0,Nat.zero_le _,rfl,hide ⟨V,_,_,_,HM5.out,HT.out,HV.out,HO5.out,HOW.out⟩,HK5.out⟩
 case round =>
  obtain⟨j,hj,rfl,HI,hK⟩:=hrel;obtain⟨V2,S2,z2,pgs2,hM,hT,hV2,hO2,hW2⟩:=HI.out;by_cases hlt:j<l.length
  ·obtain⟨a6,c6,e6,_,_,ha6⟩:=hO2.prs;cases e6
   obtain⟨b',o,ea,hb',q0,q1⟩:=ha6 j hlt;subst ea;have hlt':(j:Int)<(l.length:Int):=by omega
   have hdd:=Nl HASC.out hlt;have hks:=(HSZ.out _ (List.getElem_mem hlt)).1;obtain⟨key,HK⟩:∃q,Hid (l[j].k=q):=⟨_,hide rfl⟩;rw[HK.out]at q0 hdd hks;have hnV:¬V2 b':=hW2 b' rfl;have hbb:b'≠b:=by have h1:=(hO2.lt b' rfl).1;have h2:=HBL.out;omega
   have hdr:Kp none' wr wr.drew:=Kp.drew _ _;have hMd:=hM.keptN hdr;have TW:wr.drew.cell? ⟨b,0,none⟩=some (.pointer (some ⟨r,0,none⟩))/\wr.drew.cell? ⟨b,1,none⟩=some (.int .i64 z2)/\wr.drew.cell? ⟨b',o+j*2,none⟩=some (.string key):=⟨hMd.pk.c0,hMd.pk.c1,hdr.cell q0 (fun h=>h)⟩;have HD:=tdelS r c N V2 S2 [] pgs2 z2 (l.drop j) key wr.drew hT hMd.wk hMd.vl hks;obtain⟨_,hdel⟩:=H9 hT key;rcases hdel with ⟨e1,e2,pgs3,hT3⟩|⟨e1,e2,e3,_⟩
   ·rw[hdd.1]at e2 hT3;rw[if_pos rfl,hdd.2]at hT3;rw[e1,e2]at HD;obtain⟨z3,Hz3⟩:∃q,Hid (delTZ S2 z2 key=q):=⟨_,rfl⟩;obtain⟨S3,HS3⟩:∃q,Hid (delTS S2 z2 key=q):=⟨_,rfl⟩;rw[Hz3.out]at HD hT3;rw[HS3.out]at HD hT3;have HHD:=hide HD;have HHM:=hide hMd;have HHT:=hide hT3;have HHV:=hide hV2;have HHO:=hide (hO2.keptN hdr);have HHW:=hide hW2;have HHS:=hide (show b'<wr.heap.size from hb');clear HD hM hMd hT hT3 hV2 hO2 hW2 ha6 HI hdd e1 e2 q0 q1 hb';go_upto_region 12 with fail
    go_region_held_law (fun W=>W.cell? ⟨b,0,none⟩=some (.pointer (some ⟨r,0,none⟩))/\W.cell? ⟨b,1,none⟩=some (.int .i64 z2)/\W.cell? ⟨b',o+j*2,none⟩=some (.string key)) (first|assumption) (first
     | (go_at_call 23;refine HHD.out.mono ?_;rintro e w6 ⟨rfl,hn6⟩;obtain⟨V6,hW6,hV6,hV7,hK6⟩:=hn6;have T6:w6.cell? ⟨b,0,none⟩=some (.pointer (some ⟨r,0,none⟩))/\w6.cell? ⟨b,1,none⟩=some (.int .i64 z2)/\w6.cell? ⟨b',o+j*2,none⟩=some (.string key):=⟨hK6.cell TW.1 HHM.out.vb,hK6.cell TW.2.1 HHM.out.vb,hK6.cell TW.2.2 hnV⟩)
     | fail)
    have hb2:Pk w6 b r z2 v:=HHM.out.pk.kept hK6 HHM.out.vb;have f21:=hb2.fz 1;have c21:=hb2.c1;have HP3:=hide (hb2.set1 z3);have hst:Kp (only b) w6 (w6.setCell ⟨b,1,none⟩ (.int .i64 z3)):=Kp.setCell _ _ _ _ rfl;have HST:=hide hst;have HN:=hide (And.intro hW6 (And.intro hV6 (And.intro hV7 hK6)));clear hW6 hV6 hV7 hK6 hb2 T6 TW hst;go_wp2;go_roundw
    case rel =>
     obtain⟨hW6,hV6,hV7,hK6⟩:=HN.out;have hs2:=hK6.size;have hsr:wr.heap.size<=wr.drew.heap.size:=hdr.size;have hvb6:¬V6 b:=fun e=>by
      rcases hV7 b e with e|e
      ·exact HHM.out.vb e
      ·have:=HHM.out.pk.lt;omega
     have hK7:Kp (fun k=>V2 k\/k=b) wr.drew (w6.setCell ⟨b,1,none⟩ (.int .i64 z3)):=hK6.trans HST.out (fun _ _ h=>.inl h) (fun k _ h=>.inr (by unfold only at h;exact h));have hKw:Kp none' w (w6.setCell ⟨b,1,none⟩ (.int .i64 z3)):=(hK.thenN hdr).trans hK7 (fun _ _ h=>h) (fun k hk h=>by
      rcases h with h|h
      ·exact absurd (HHV.out k h) (by omega)
      ·have:=HB.out;omega)
     have hQ:Pq (w6.setCell ⟨b,1,none⟩ (.int .i64 z3)) b v l:=HHM.out.pq.kept hK7 (fun g hg e=>by
      rcases e with e|e
      ·exact HHM.out.vo g hg e
      ·have:=(HHM.out.pq.o.lt g hg).1;omega)
     have hO7:OwP (w6.setCell ⟨b,1,none⟩ (.int .i64 z3)) w2.drew.heap.size (.slice (some ⟨b',o,none⟩) l.length c5) l:=HHO.out.kept hK7 (fun g hg e=>by
      rcases e with e|e
      ·exact HHW.out g hg e
      ·have h1:=(HHO.out.lt g hg).1;have h2:=HBL.out;omega)
     refine⟨j+1,by omega,by go_num,hide ⟨V6,S3,z3,pgs3,⟨HP3.out,hQ,hW6.kept HST.out (fun k _ hk e=>hvb6 (by unfold only at e;rw[<-e];exact hk)),fun k hk=>PW (hV6 k hk) HST.out.size,hvb6,fun g hg e=>?_⟩,HHT.out,fun k hk=>?_,hO7,fun g hg e=>?_⟩,hKw⟩
     ·rcases hV7 g e with e|e
      ·exact HHM.out.vo g hg e
      ·have:=(HHM.out.pq.o.lt g hg).2;omega
     ·rcases hV7 k hk with e|e
      ·exact HHV.out k e
      ·exact Nat.le_trans (hK.thenN hdr).size e
     ·rcases hV7 g e with e|e
      ·exact HHW.out g hg e
      ·have:=(HHO.out.lt g hg).2;omega
    case measure=>simp[intOf];omega
   ·rw[e1,e2,e3]at HD;have HHD:=hide HD;have HHV:=hide hV2;have hvb2:=hMd.vb;clear HD hM hMd hT hV2 hO2 hW2 ha6 HI hdd e1 e2 e3 q0 q1 hb';go_upto_region 12 with fail;go_region_held_law (fun W=>W.cell? ⟨b,0,none⟩=some (.pointer (some ⟨r,0,none⟩))/\W.cell? ⟨b,1,none⟩=some (.int .i64 z2)/\W.cell? ⟨b',o+j*2,none⟩=some (.string key)) (first|assumption) (first
     | (go_at_call 23;refine HHD.out.mono ?_;rintro e w6 ⟨rfl,hn6⟩;obtain⟨V6,_,_,_,hK6⟩:=hn6;have T6:w6.cell? ⟨b,0,none⟩=some (.pointer (some ⟨r,0,none⟩))/\w6.cell? ⟨b,1,none⟩=some (.int .i64 z2)/\w6.cell? ⟨b',o+j*2,none⟩=some (.string key):=⟨hK6.cell TW.1 hvb2,hK6.cell TW.2.1 hvb2,hK6.cell TW.2.2 hnV⟩)
     | fail)
    clear T6 TW;go_wp2;go_ret;exact⟨rfl,((hK.thenN hdr).trans hK6 (fun _ _ h=>h) (fun k hk h=>absurd (HHV.out k h) (by omega))).grown⟩
  ·have hlt':¬(j:Int)<(l.length:Int):=by omega
   have hje:j=l.length:=by omega
   subst hje;rw[List.drop_length]at hT;obtain⟨hz,hpe⟩:=KU hT;subst hz;have HU:Hid (Calls prog 20 #[.pointer (some ⟨r,0,none⟩)] wr fun e w'=>e=.returned (.int .i64 1)/\w'=wr):=by
    have:=Dt r V2 c 0 S2 wr hM.wk;rw[CQ hT,hpe]at this;exact this
   have n0:=hM.pk.c0;have n1:=hM.pk.c1;clear hM hT hV2 hO2 hW2 HI;go_wp2_with (first
    | (go_at_call 20;refine HU.out.mono ?_;rintro e w' ⟨rfl,hw'⟩;obtain rfl:=hw'.symm)
    | fail)
   go_ret;exact⟨by simp,hK.grown⟩
theorem walk(n:Int)(a:Option Addr)(len cap:Nat)(L:List Top)(each:Bool)(w:World)(hO:Tops w.heap.size w (.slice a len cap) L):Calls prog 6 #[.int .i64 n,.slice a len cap,.bool each] w fun e w'=>e=.returned (.bool true)/\w.grownBy w' none:=by
 cases each with
 | false=>exact walk0 n a len cap L w hO
 | true=>exact walk1 n a len cap L w hO
end Go.Proofs.YtjojffepakclcaaGreatDoor.treeDrops
