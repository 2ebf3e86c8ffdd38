/- The walk of the law TreeDeep. Conditions: those that the theorem states. -/
import Derived.Test.YtjojffepakclcaaGreatDoorX39
set_option linter.unusedVariables false
set_option maxHeartbeats 4000000
open Go.Proofs.Tryz
namespace Go.Proofs.YtjojffepakclcaaGreatDoor.treeDeep
open Go Go.RowKit
set_option maxRecDepth 100000 in
theorem walk(n:Int)(a:Option Addr)(len cap:Nat)(L:List Top)(w:World)(hO:Tops w.heap.size w (.slice a len cap) L):Calls prog 8 #[.int .i64 n,.slice a len cap] w fun e w'=>e=.returned (.bool true)/\w.grownBy w' none:=by
 obtain⟨L2,hO2,hl2,hlc,hcm⟩:=hO.early;have HLV:=hide (Bo w);obtain⟨N,HN⟩:∃q,Hid (pgT n=q):=⟨_,rfl⟩;have HNL:Hid (1<=N/\N<=160):=by rw[<-HN.out];exact DA n
 have HO2:=hide hO2;have HL2:Hid (L2.length<=250):=by show _<=_;omega
 clear hO hO2 hl2;go_enter func8,ntmps8;go_upto_region 6 with (first
  | (go_at_call 9;refine HLV.out.mono ?_;rintro e w1 ⟨rfl,hk1⟩)
  | (go_at_call 11;refine(Bq n _).mono ?_;rintro e w' ⟨rfl,hw'⟩;obtain rfl:=hw'.symm;rw[HN.out])
  | (go_at_call 12;refine(Bc a len cap _ hlc hcm).mono ?_;rintro e w' ⟨rfl,hw'⟩;obtain rfl:=hw'.symm)
  | (go_at_call 10;refine(BT N _ L2 w1 HNL.out.1 HNL.out.2 ((HO2.out.keptN hk1).mono hk1.size) HL2.out).mono ?_;rintro e w2 ⟨b,rfl,hpost⟩)
  | fail)
 obtain⟨r,V,c,S,z,v,l,pgs,hM,hT,hl,hb,hV,hk2⟩:=hpost;have HK2:=hide (hk1.thenN hk2);have HM:=hide hM;have HT:=hide hT;have HL:=hide hl;have m0:w2.cell? ⟨b,0,none⟩=some (.pointer (some ⟨r,0,none⟩)):=hM.pk.c0;have m1:w2.cell? ⟨b,1,none⟩=some (.int .i64 z):=hM.pk.c1;have m2:w2.cell? ⟨b,2,none⟩=some v:=hM.pk.c2;have T2:w2.drew.cell? ⟨b,0,none⟩=some (.pointer (some ⟨r,0,none⟩))/\w2.drew.cell? ⟨b,1,none⟩=some (.int .i64 z):=⟨m0,m1⟩;have hd2:Kp none' w2 w2.drew:=Kp.drew _ _;clear hM hT hl
 obtain⟨D,hD,hDD⟩:=Cj HT.out;have hpl:=G0 HT.out;have HS:=hide (HM.out.snd HT.out D hD);obtain⟨a0,c0,e0,hlc0,_,_⟩:=HM.out.pq.o.prs;subst e0;obtain⟨q,HQ⟩:∃q,Hid (pgs.length=q):=⟨_,rfl⟩;rw[HQ.out]at HS hpl hDD;clear hD;go_region_held_law (fun W=>W.cell? ⟨b,0,none⟩=some (.pointer (some ⟨r,0,none⟩))/\W.cell? ⟨b,1,none⟩=some (.int .i64 z)) (first|assumption) (first
  | (go_at_call 19;refine(HS.out _ hd2).mono ?_;rintro e w3 ⟨rfl,hk3⟩;have T3:w3.cell? ⟨b,0,none⟩=some (.pointer (some ⟨r,0,none⟩))/\w3.cell? ⟨b,1,none⟩=some (.int .i64 z):=⟨hk3.cell T2.1 (fun h=>h),hk3.cell T2.2 (fun h=>h)⟩)
  | fail)
 have p3:=(hd2.thenN hk3).cell m2 (fun h=>h);have HK3:=hide (HK2.out.thenN (hd2.thenN hk3));clear T3 T2 m0 m1 m2;rcases hDD with ⟨hD0,hl0⟩|⟨h1,h7,hne,h2,h3⟩
 ·obtain rfl:=hD0;obtain⟨_,hpe⟩:=KU (hl0▸HT.out);have hq:q=0:=by rw[<-HQ.out,hpe];rfl
  subst hq;rw[hl0]at p3;clear hl0 hpe;go_wp2;go_ret;exact⟨by simp,HK3.out.grown⟩
 ·obtain⟨m,HM2⟩:∃m,Hid (l.length=m):=⟨_,rfl⟩;have hm:=HL.out;rw[HM2.out]at p3 h2 h3 hm;have hm0:0<m:=by rw[<-HM2.out];exact List.length_pos_iff.2 hne
  have hmI:((m:Int)==0)=false:=beq_eq_false_iff_ne.2 (by omega);have hmx:max (m:Int) 1=(m:Int):=by omega
  have hq2:¬2*(m:Int)<(q:Int):=by omega
  clear hne hlc0;rcases (show D=1\/D=2\/D=3\/D=4\/D=5\/D=6\/D=7 by omega)with rfl|rfl|rfl|rfl|rfl|rfl|rfl;all_goals
   go_wp2;go_ret;refine⟨?_,HK3.out.grown⟩;simp;omega
end Go.Proofs.YtjojffepakclcaaGreatDoor.treeDeep
