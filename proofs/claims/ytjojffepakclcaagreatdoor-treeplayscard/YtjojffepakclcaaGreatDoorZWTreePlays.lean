/- The walk of the law TreePlays. Conditions: those that the theorem states. -/
import Derived.Test.YtjojffepakclcaaGreatDoorX39
set_option linter.unusedVariables false
set_option maxHeartbeats 4000000
open Go.Proofs.Tryz
namespace Go.Proofs.YtjojffepakclcaaGreatDoor.treePlays
open Go Go.RowKit
set_option maxRecDepth 100000 in
theorem walk(n:Int)(a:Option Addr)(len cap:Nat)(L:List Top)(key:ByteArray)(w:World)(hO:Tops w.heap.size w (.slice a len cap) L)(hkm:key.size<=maxLen):Calls prog 3 #[.int .i64 n,.slice a len cap,.string key] w fun e w'=>e=.returned (.bool true)/\w.grownBy w' none:=by
 obtain⟨L2,hO2,hl2,hlc,hcm⟩:=hO.early;have HLV:=hide (Bo w);obtain⟨N,HN⟩:∃q,Hid (pgT n=q):=⟨_,rfl⟩;have HNL:Hid (1<=N/\N<=160):=by rw[<-HN.out];exact DA n
 have HO2:=hide hO2;have HL2:Hid (L2.length<=250):=by show _<=_;omega
 clear hO hO2 hl2;go_enter func3,ntmps3;go_upto_region 6 with (first
  | (go_at_call 9;refine HLV.out.mono ?_;rintro e w1 ⟨rfl,hk1⟩)
  | (go_at_call 11;refine(Bq n _).mono ?_;rintro e w' ⟨rfl,hw'⟩;obtain rfl:=hw'.symm;rw[HN.out])
  | (go_at_call 12;refine(Bc a len cap _ hlc hcm).mono ?_;rintro e w' ⟨rfl,hw'⟩;obtain rfl:=hw'.symm)
  | (go_at_call 10;refine(BT N _ L2 w1 HNL.out.1 HNL.out.2 ((HO2.out.keptN hk1).mono hk1.size) HL2.out).mono ?_;rintro e w2 ⟨b,rfl,hpost⟩)
  | fail)
 obtain⟨r,V,c,S,z,v,l,pgs,hM,hT,hl,hb,hV,hk2⟩:=hpost;have HK2:=hide (hk1.thenN hk2);have HM:=hide hM;have HT:=hide hT;have HL:=hide hl;have m0:w2.cell? ⟨b,0,none⟩=some (.pointer (some ⟨r,0,none⟩)):=hM.pk.c0;have m1:w2.cell? ⟨b,1,none⟩=some (.int .i64 z):=hM.pk.c1;have m2:w2.cell? ⟨b,2,none⟩=some v:=hM.pk.c2;have T2:w2.drew.cell? ⟨b,0,none⟩=some (.pointer (some ⟨r,0,none⟩))/\w2.drew.cell? ⟨b,1,none⟩=some (.int .i64 z):=⟨m0,m1⟩;have hd2:Kp none' w2 w2.drew:=Kp.drew _ _;clear hM hT hl
 obtain⟨A,HA⟩:∃q,Hid ((if hasN l key then getL l key else ⟨#[]⟩)=q):=⟨_,rfl⟩;obtain⟨B,HB⟩:∃q,Hid (hasN l key=q):=⟨_,rfl⟩;have HG:=hide (HM.out.get HT.out key);have HP:=hide (HM.out.pget key hkm);rw[HA.out,HB.out]at HG HP;have HS:=hide (HM.out.scan HT.out ⟨#[]⟩ ⟨#[]⟩);rw[all_in]at HS;go_region_held_law (fun W=>W.cell? ⟨b,0,none⟩=some (.pointer (some ⟨r,0,none⟩))/\W.cell? ⟨b,1,none⟩=some (.int .i64 z)) (first|assumption) (first
  | (go_at_call 13;refine(HG.out _ hd2).mono ?_;rintro e w3 ⟨rfl,hk3⟩;have T3:w3.cell? ⟨b,0,none⟩=some (.pointer (some ⟨r,0,none⟩))/\w3.cell? ⟨b,1,none⟩=some (.int .i64 z):=⟨hk3.cell T2.1 (fun h=>h),hk3.cell T2.2 (fun h=>h)⟩)
  | fail)
 have hk23:=hd2.thenN hk3;have p3:=hk23.cell m2 (fun h=>h);go_upto_region 8 with (first
  | (go_at_call 14;refine(HP.out _ hk23).mono ?_;rintro e w4 ⟨rfl,hk4⟩)
  | fail)
 have hk24:=(hk23.thenN hk4).thenN (Kp.drew none' w4);have T4:w4.drew.cell? ⟨b,0,none⟩=some (.pointer (some ⟨r,0,none⟩))/\w4.drew.cell? ⟨b,1,none⟩=some (.int .i64 z):=⟨hk24.cell m0 (fun h=>h),hk24.cell m1 (fun h=>h)⟩;go_region_held_law (fun W=>W.cell? ⟨b,0,none⟩=some (.pointer (some ⟨r,0,none⟩))/\W.cell? ⟨b,1,none⟩=some (.int .i64 z)) (first|assumption) (first
  | (go_at_call 15;refine(HS.out _ hk24).mono ?_;rintro e w5 ⟨a5,n5,c5,rfl,ho5,hk5⟩;have T5:w5.cell? ⟨b,0,none⟩=some (.pointer (some ⟨r,0,none⟩))/\w5.cell? ⟨b,1,none⟩=some (.int .i64 z):=⟨hk5.cell T4.1 (fun h=>h),hk5.cell T4.2 (fun h=>h)⟩)
  | fail)
 have hk25:=hk24.thenN hk5;have p5:=hk25.cell m2 (fun h=>h);have hP5:=ho5.prs;have hM5:=(HM.out.keptN hk25).pq.o.prs;clear T3 T4 T5 T2;go_wp2_with (first
  | (go_at_call 16;refine(Ck _ _ l _ _ _ hP5 hM5).mono ?_;rintro e w6 ⟨rfl,hk6⟩)
  | fail)
 go_ret;exact⟨by simp,((HK2.out.thenN hk25).thenN hk6).grown⟩
end Go.Proofs.YtjojffepakclcaaGreatDoor.treePlays
