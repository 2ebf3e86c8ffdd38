/- The walk of the law TreeScans. Conditions: those that the theorem states. -/
import Derived.Test.YtjojffepakclcaaGreatDoorX39
set_option linter.unusedVariables false
set_option maxHeartbeats 4000000
open Go.Proofs.Tryz
namespace Go.Proofs.YtjojffepakclcaaGreatDoor.treeScans
open Go Go.RowKit
theorem nstep_app_g{P:Program}{w:World}{ops:Array Oper}{o:Oper}{a:Act}{K:Act->World->Prop}{Q:Exit->Act->World->Prop}{E:Prop}(hw:Region.wanted o (yielded ops a.tmps)=true)(s x:Operand)(t tx:TypeId)
  (ho:o.op=.call { callee:=.builtin .append,args:=#[s,x],argTypes:=#[t,tx] }) (v xv:Value) (hs:a.eval s=v) (hx:a.eval x=xv) {v':Value} {w':World}
  (hr:(Builtin.append_ #[t,tx] o.type #[v,xv]).run P w=.ok v' w') (h:K (a.put o.dst v') w'):if Region.wanted o (yielded ops a.tmps)=true then Oper.wp P o a w K Q else E:=by
 rw[if_pos hw];exact Du s x t tx ho v xv hs hx hr h
set_option maxRecDepth 100000 in
theorem walk(n:Int)(a:Option Addr)(len cap:Nat)(L:List Top)(x y t:ByteArray)(w:World)(hO:Tops w.heap.size w (.slice a len cap) L)(hx:x.size<=maxLen)(hy:y.size<=maxLen)(htm:t.size<=maxLen):Calls prog 5 #[.int .i64 n,.slice a len cap,.agg #[.string x,.string y,.string t]] w fun e w'=>e=.returned (.bool true)/\w.grownBy w' none:=by
 obtain⟨L2,hO2,hl2,hlc,hcm⟩:=hO.early;have HLV:Hid (∀W,Calls prog 9 #[] W fun e w'=>e=.returned (.bool true)/\Kp none' W w'):=Bo;obtain⟨N,HN⟩:∃q,Hid (pgT n=q):=⟨_,rfl⟩;have HNL:Hid (1<=N/\N<=160):=by rw[<-HN.out];exact DA n
 have hkA:Kp none' w (w.alloc (.cells #[.string x,.string y,.string t] 52)):=Kp.alloc _ _ _;have hnew:=heap_alloc_new w (.cells #[.string x,.string y,.string t] 52);have i0:(w.alloc (.cells #[.string x,.string y,.string t] 52)).cell? ⟨w.heap.size,0,none⟩=some (.string x):=by rw[cell_of_row _ w.heap.size 0 _ 52 (0,0) hnew];rfl
 have i1:(w.alloc (.cells #[.string x,.string y,.string t] 52)).cell? ⟨w.heap.size,1,none⟩=some (.string y):=by rw[cell_of_row _ w.heap.size 1 _ 52 (0,0) hnew];rfl
 have i2:(w.alloc (.cells #[.string x,.string y,.string t] 52)).cell? ⟨w.heap.size,2,none⟩=some (.string t):=by rw[cell_of_row _ w.heap.size 2 _ 52 (0,0) hnew];rfl
 have HO2:=hide ((hO2.keptN hkA).mono hkA.size);have HL2:Hid (L2.length<=250):=by show _<=_;omega
 clear hO hO2 hl2 hnew;go_enter func5,ntmps5;go_upto_region 1 with fail;obtain⟨wA,HwA⟩:∃q,Hid (w.alloc (.cells #[.string x,.string y,.string t] 52)=q):=⟨_,rfl⟩;obtain⟨ab,Hab⟩:∃q,Hid (w.heap.size=q):=⟨_,rfl⟩;rw[HwA.out]at hkA i0 i1 i2 HO2 |-;rw[Hab.out]at i0 i1 i2 |-;go_upto_region 6 with (first
  | (go_at_call 9;refine(HLV.out _).mono ?_;rintro e w1 ⟨rfl,hk1⟩)
  | (go_at_call 11;refine(Bq n _).mono ?_;rintro e w' ⟨rfl,hw'⟩;obtain rfl:=hw'.symm;rw[HN.out])
  | (go_at_call 12;refine(Bc a len cap _ hlc hcm).mono ?_;rintro e w' ⟨rfl,hw'⟩;obtain rfl:=hw'.symm)
  | (go_at_call 10;refine(BT N _ L2 w1 HNL.out.1 HNL.out.2 ((HO2.out.keptN hk1).mono hk1.size) HL2.out).mono ?_;rintro e w2 ⟨b,rfl,hpost⟩)
  | fail)
 obtain⟨r,V,c,S,z,v,l,pgs,hM,hT,hl,hb,hV,hk2⟩:=hpost;have HK2:=hide (hkA.thenN (hk1.thenN hk2));have HM:=hide hM;have HT:=hide hT;have HL:Hid (l.length<=100000):=by show _<=_;omega
 have m0:w2.cell? ⟨b,0,none⟩=some (.pointer (some ⟨r,0,none⟩)):=hM.pk.c0;have m1:w2.cell? ⟨b,1,none⟩=some (.int .i64 z):=hM.pk.c1;have m2:w2.cell? ⟨b,2,none⟩=some v:=hM.pk.c2;have n0:w2.cell? ⟨ab,0,none⟩=some (.string x):=(hk1.thenN hk2).cell i0 (fun h=>h);have n1:w2.cell? ⟨ab,1,none⟩=some (.string y):=(hk1.thenN hk2).cell i1 (fun h=>h);have n2:w2.cell? ⟨ab,2,none⟩=some (.string t):=(hk1.thenN hk2).cell i2 (fun h=>h)
 have HS:Hid (∀(fr up:ByteArray) (W:World),Kp none' w2 W->Calls prog 15 #[.pointer (some ⟨r,0,none⟩),.int .i64 z,.string fr,.string up] W fun e w'=>∃a m k,e=.returned (.tuple #[.slice a m k,.int .i64 0])/\OwP w' W.heap.size (.slice a m k) (l.filter (fun p=>inB p.k fr up))/\Kp none' W w'):=fun fr up W hW=>hM.scan hT fr up W hW
 have HP:Hid (∀W,Kp none' w2 W->Calls prog 21 #[.pointer (some ⟨b,2,none⟩),.string x,.string y] W fun e w'=>∃a n c,e=.returned (.slice a n c)/\OwP w' W.heap.size (.slice a n c) (l.filter (fun p=>inB p.k x y))/\Kp none' W w'):=fun W hW=>L5 b v l x y W ((hM.keptN hW).pk.pz (hM.keptN hW).pq) hx hy HL.out;have HASC:=hide hM.pq.asc;have hd2:Kp none' w2 w2.drew:=Kp.drew _ _
 have T2:w2.drew.cell? ⟨b,0,none⟩=some (.pointer (some ⟨r,0,none⟩))/\w2.drew.cell? ⟨b,1,none⟩=some (.int .i64 z)/\w2.drew.cell? ⟨ab,0,none⟩=some (.string x)/\w2.drew.cell? ⟨ab,1,none⟩=some (.string y):=⟨hd2.cell m0 (fun h=>h),hd2.cell m1 (fun h=>h),hd2.cell n0 (fun h=>h),hd2.cell n1 (fun h=>h)⟩;obtain⟨F0,HF0⟩:∃q,Hid (l.filter (fun p=>inB p.k x y)=q):=⟨_,rfl⟩;have HS0:=hide (HS.out x y);rw[HF0.out]at HS0 HP;clear hM hT hl i0 i1 i2
 go_region_held_law (fun W=>W.cell? ⟨b,0,none⟩=some (.pointer (some ⟨r,0,none⟩))/\W.cell? ⟨b,1,none⟩=some (.int .i64 z)/\W.cell? ⟨ab,0,none⟩=some (.string x)/\W.cell? ⟨ab,1,none⟩=some (.string y)) (first|assumption) (first
  | (go_at_call 15;refine(HS0.out _ hd2).mono ?_;rintro e w3 ⟨a3,q3,c3,rfl,ho3,hk3⟩;have hk23:=hd2.thenN hk3;have T3:w3.cell? ⟨b,0,none⟩=some (.pointer (some ⟨r,0,none⟩))/\w3.cell? ⟨b,1,none⟩=some (.int .i64 z)/\w3.cell? ⟨ab,0,none⟩=some (.string x)/\w3.cell? ⟨ab,1,none⟩=some (.string y):=⟨hk23.cell m0 (fun h=>h),hk23.cell m1 (fun h=>h),hk23.cell n0 (fun h=>h),hk23.cell n1 (fun h=>h)⟩)
  | fail)
 clear T2 T3;have hd3:=hk23.thenN (Kp.drew none' w3);have T4:w3.drew.cell? ⟨ab,0,none⟩=some (.string x)/\w3.drew.cell? ⟨ab,1,none⟩=some (.string y):=⟨hd3.cell n0 (fun h=>h),hd3.cell n1 (fun h=>h)⟩;go_upto_region 7 with fail;go_region_held_law (fun W=>W.cell? ⟨ab,0,none⟩=some (.string x)/\W.cell? ⟨ab,1,none⟩=some (.string y)) (first|assumption) (first
  | (go_at_call 21;refine(HP.out _ hd3).mono ?_;rintro e w4 ⟨a4,q4,c4,rfl,ho4,hk4⟩;have hk24:=hd3.thenN hk4;have T5:w4.cell? ⟨ab,0,none⟩=some (.string x)/\w4.cell? ⟨ab,1,none⟩=some (.string y):=⟨hk24.cell n0 (fun h=>h),hk24.cell n1 (fun h=>h)⟩)
  | (go_at_call 16;refine(Ck _ _ F0 _ _ w4 ((ho3.keptN (Kp.drew none' w3)).keptN hk4).prs ho4.prs).mono ?_;rintro e w5 ⟨rfl,hk5⟩;have hk25:=hk24.thenN hk5;have T6:w5.cell? ⟨ab,0,none⟩=some (.string x)/\w5.cell? ⟨ab,1,none⟩=some (.string y):=⟨hk25.cell n0 (fun h=>h),hk25.cell n1 (fun h=>h)⟩)
  | fail)
 clear T4 T5 T6;have r2:=hk25.cell n2 (fun h=>h);by_cases ht:t.size=0
 ·have hte:t.toList.isEmpty=true:=(BJ t).trans (by simp[ht]);go_wp2;go_ret;exact⟨by simp,(HK2.out.thenN hk25).grown⟩
 ·have hte:t.toList.isEmpty=false:=(BJ t).trans (by simp[ht]);obtain⟨E,HE⟩:∃q:ByteArray,Hid (⟨#[]⟩=q):=⟨_,rfl⟩;have HCUT:Hid (l.filter (fun p=>inB p.k ⟨#[]⟩ t)++l.filter (fun p=>inB p.k t ⟨#[]⟩)=l):=OM HASC.out (by omega);obtain⟨F1,HF1⟩:∃q,Hid (l.filter (fun p=>inB p.k ⟨#[]⟩ t)=q):=⟨_,rfl⟩;obtain⟨F2,HF2⟩:∃q,Hid (l.filter (fun p=>inB p.k t ⟨#[]⟩)=q):=⟨_,rfl⟩;have HS1:=hide (HS.out ⟨#[]⟩ t);have HS2:=hide (HS.out t ⟨#[]⟩);rw[HF1.out]at HS1 HCUT;rw[HF2.out]at HS2 HCUT
  go_upto_region 11 with fail;have hd5:=hk25.thenN (Kp.drew none' w5);have T7:w5.drew.cell? ⟨b,0,none⟩=some (.pointer (some ⟨r,0,none⟩))/\w5.drew.cell? ⟨b,1,none⟩=some (.int .i64 z)/\w5.drew.cell? ⟨ab,2,none⟩=some (.string t):=⟨hd5.cell m0 (fun h=>h),hd5.cell m1 (fun h=>h),hd5.cell n2 (fun h=>h)⟩;go_region_held_law (fun W=>W.cell? ⟨b,0,none⟩=some (.pointer (some ⟨r,0,none⟩))/\W.cell? ⟨b,1,none⟩=some (.int .i64 z)/\W.cell? ⟨ab,2,none⟩=some (.string t)) (first|assumption) (first
   | (go_at_call 15;refine(HS1.out _ hd5).mono ?_;rintro e w6 ⟨a6,q6,c6,rfl,ho6,hk6⟩;have hk26:=hd5.thenN hk6;have T8:w6.cell? ⟨b,0,none⟩=some (.pointer (some ⟨r,0,none⟩))/\w6.cell? ⟨b,1,none⟩=some (.int .i64 z)/\w6.cell? ⟨ab,2,none⟩=some (.string t):=⟨hk26.cell m0 (fun h=>h),hk26.cell m1 (fun h=>h),hk26.cell n2 (fun h=>h)⟩)
   | fail)
  clear T7 T8;have hd6:=hk26.thenN (Kp.drew none' w6);have T9:w6.drew.cell? ⟨b,0,none⟩=some (.pointer (some ⟨r,0,none⟩))/\w6.drew.cell? ⟨b,1,none⟩=some (.int .i64 z)/\w6.drew.cell? ⟨ab,2,none⟩=some (.string t):=⟨hd6.cell m0 (fun h=>h),hd6.cell m1 (fun h=>h),hd6.cell n2 (fun h=>h)⟩;go_upto_region 12 with fail;go_region_held_law (fun W=>W.cell? ⟨b,0,none⟩=some (.pointer (some ⟨r,0,none⟩))/\W.cell? ⟨b,1,none⟩=some (.int .i64 z)/\W.cell? ⟨ab,2,none⟩=some (.string t)) (first|assumption) (first
   | (go_at_call 15;refine(HS2.out _ hd6).mono ?_;rintro e w7 ⟨a7,q7,c7,rfl,ho7,hk7⟩;have hk27:=hd6.thenN hk7;have T10:w7.cell? ⟨b,0,none⟩=some (.pointer (some ⟨r,0,none⟩))/\w7.cell? ⟨b,1,none⟩=some (.int .i64 z)/\w7.cell? ⟨ab,2,none⟩=some (.string t):=⟨hk27.cell m0 (fun h=>h),hk27.cell m1 (fun h=>h),hk27.cell n2 (fun h=>h)⟩)
   | fail)
  clear T9 T10;have hdr7:Kp none' w7 w7.drew:=Kp.drew _ _;have ho6':=((ho6.keptN (Kp.drew none' w6)).keptN hk7).keptN hdr7;have ho7':=ho7.keptN hdr7;have hle:F1.length+F2.length<=100000:=by rw[<-List.length_append,HCUT.out];exact HL.out
  obtain⟨v8,w8,hq8,hO8,hg8,hv8⟩:=appP w7.drew w7.drew.heap.size (.slice none 0 0) (.slice a6 q6 c6) [] F1 (OwP.nil _ _) ho6'.prs.src (Nat.le_refl _) (by simp only[List.length_nil];omega);have hk8:Kp none' w7.drew w8:=Kp.ofGrown hg8 (fun k hk _=>by cases hk);obtain⟨v9,w9,hq9,hO9,hg9,hv9⟩:=appP w8 w7.drew.heap.size v8 (.slice a7 q7 c7) _ F2 hO8 (ho7'.keptN hk8).prs.src hk8.size (by rw[List.nil_append];omega)
  have hk9:Kp none' w7.drew w9:=hk8.trans (Kp.ofGrown hg9 (S:=fun k=>v8.ownBlock=some k) (fun k hk _=>hk)) (fun _ _ h=>h) (fun k hk he=>absurd hk (by have:=(hO8.lt k he).1;omega));rw[List.nil_append,HCUT.out]at hO9;have hk79:=(hk27.thenN hdr7).thenN hk9;have k7:=(hk27.thenN hdr7).cell m2 (fun h=>h);have k8:=((hk27.thenN hdr7).thenN hk8).cell m2 (fun h=>h);have k9:=hk79.cell m2 (fun h=>h);have hP9:=hO9.prs;have hQ9:=(HM.out.keptN hk79).pq.o.prs;have HKZ:=hide (HK2.out.thenN hk79)
  have HPS:=hide (Ck _ _ l _ _ w9 hP9 hQ9);clear hP9 hQ9 hO8 hO9 hg8 hg9 hv8 hv9 ho6 ho7 ho6' ho7' hk79 hk9 hk8 HCUT hle;go_upto_region 13 with fail;have c7:w7.drew.cell? ⟨b,2,none⟩=some v:=k7;go_region_held_law (fun W=>W.cell? ⟨b,2,none⟩=some v) (first|assumption) (first
   | (refine nstep_app_g (by rfl) (.const (.slice none 0 0)) (.tmp 96) 33 33 (by rfl) _ _ (by rfl) (by rfl) hq8 ?_)
   | (refine nstep_app_g (by rfl) (.tmp 97) (.tmp 98) 33 33 (by rfl) _ _ (by rfl) (by rfl) hq9 ?_)
   | (go_at_call 16;refine HPS.out.mono ?_;rintro e w10 ⟨rfl,hk10⟩;have k10:=hk10.cell k9 (fun h=>h))
   | fail)
  go_wp2;go_ret;exact⟨by simp,(HKZ.out.thenN hk10).grown⟩
end Go.Proofs.YtjojffepakclcaaGreatDoor.treeScans
