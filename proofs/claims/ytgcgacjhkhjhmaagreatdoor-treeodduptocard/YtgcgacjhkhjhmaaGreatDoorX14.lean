/- Part of the proof: contracts over the turned program. -/
import Derived.Test.YtgcgacjhkhjhmaaGreatDoorX3
import Derived.Test.YtgcgacjhkhjhmaaGreatDoorX13
set_option linter.unusedVariables false
set_option maxHeartbeats 4000000
open Go.Proofs.Tryz
namespace Go.Proofs.YtgcgacjhkhjhmaaGreatDoor
open Go Go.RowKit
theorem Kp.ofBelow'{w w':World}(h:Below w.heap.size w w'):Kp none' w w':=⟨h.os,h.tape,h.output,h.size,fun k hk _=>h.block k hk⟩
theorem Oh(n:Nat):Lib.repeatL [0] n=List.replicate n (0:UInt8):=by
 induction n with
 | zero=>rfl
 | succ n ih=>rw[List.replicate_succ,<-ih];rfl
theorem Po(m:Nat)(z:Int)(hz:z=(m:Int))(w:World)(hm:m<=256):Calls prog 29 #[.string ⟨#[0]⟩,.int .i64 z] w fun e w'=>e=.returned (.string (mkB (List.replicate m 0)))/\Kp none' w w':=by
 subst hz;have hr:=strings_Repeat ⟨#[0]⟩ m w (by omega) (by show 1*m<=_;omega);have e:(⟨(Lib.repeatL (⟨#[0]⟩:ByteArray).data.toList m).toArray⟩:ByteArray)=mkB (List.replicate m 0):=by
  show (⟨(Lib.repeatL [0] m).toArray⟩:ByteArray)=_;rw[Oh];rfl
 rw[e]at hr;refine hr.mono ?_;rintro e w' ⟨rfl,hb⟩;exact⟨rfl,Kp.ofBelow' hb⟩
theorem JL{n:Nd}(h:n.writeE=0)(hl:n.leaf=true):n.ps.length<=255:=by
 obtain⟨hr,hs⟩:=Ay h;have:=FP n.ps (fun p hp=>(BR hr hl p hp).1.1);unfold Nd.size at hs;rw[hl,if_pos rfl]at hs;omega
theorem Is{n:Nd}(h:n.writeE=0)(hl:n.leaf=false):n.ks.length<=255:=by
 obtain⟨hr,hs⟩:=Ay h;have:=D7 n.ks (fun k hk=>(Bj (At hr hl).2.2.2 k hk).1);unfold Nd.size at hs;rw[hl]at hs;simp only[Bool.false_eq_true,if_false]at hs;omega
set_option maxRecDepth 100000 in
theorem OC(x:Value)(n:Nd)(B:Nat)(w:World)(hN:Nv B w x n)(hB:B<=w.heap.size)(h:n.writeE=0) :
  Calls prog 28 #[x] w fun e w'=>e=.returned (.string (mkB n.body))/\Kp none' w w':=by
 obtain⟨⟨pv,kv,dv,rfl,hP,hS,hD⟩,hwf⟩:=hN;have hb:=Nb.new w n.leaf pv kv dv;have hwp:=hwf.p;have hwk:=hwf.k;have hcl:=fun e=>JL h e;have hci:=fun e=>Is h e;have hri:=fun e=>At (Ay h).1 e;obtain⟨lf,ps,ks,kd⟩:=n;dsimp only at *;have hK0:Kp none' w (w.alloc (.cells #[.bool lf,pv,kv,dv] 35)):=Kp.alloc _ _ _;have hP1:=hP.keptN hK0;have hS1:=hS.keptN hK0;have hD1:=hD.keptN hK0;have hsz:B<=(w.alloc (.cells #[.bool lf,pv,kv,dv] 35)).heap.size:=Nat.le_trans hB hK0.size
 cases lf with
 | true =>
  have hc:=hcl rfl;have hb0:=hb.c0;have hb1:=hb.c1;have HE:Hid ((⟨true,ps,ks,kd⟩:Nd).body=[1,UInt8.ofNat ps.length]++encPs ps):=by show _=_;simp[Nd.body]
  rw[HE.out];obtain⟨G,HG⟩:∃G,Hid ([1,UInt8.ofNat ps.length]++encPs ps=G):=⟨[1,UInt8.ofNat ps.length]++encPs ps,hide rfl⟩;rw[HG.out];have HL:Hid (∀W:World,W=(w.alloc (.cells #[.bool true,pv,kv,dv] 35))->Calls prog 54 #[pv] W fun e w'=>∃v',e=.returned v'/\Own 5 w' W.heap.size v' G/\Kp none' W w'):=by
   rintro W rfl;have:=FV pv ps B _ hP1 hwp hsz hc;rw[HG.out]at this;exact this
  clear hcl hci hri;go_enter func28,ntmps28;go_wp2_with (first
   | (go_at_call 54;refine(HL.out _ rfl).mono ?_;rintro e w1 ⟨v1,rfl,hO1,hK1⟩;have hcv:=CH w1 112 9 5 underlying112 underlying5 underlying9 hO1)
   | fail)
  go_ret;exact⟨rfl,hK0.thenN hK1⟩
 | false =>
  have hc:=hci rfl;have hr:=hri rfl;have hb0:=hb.c0;have hb2:=hb.c2;have hb3:=hb.c3;have HE:Hid ((⟨false,ps,ks,kd⟩:Nd).body=[2,UInt8.ofNat ks.length]++be (kd.headD 0).toNat 2++encKs ks kd.tail):=by show _=_;simp[Nd.body]
  rw[HE.out];obtain⟨G,HG⟩:∃G,Hid ([2,UInt8.ofNat ks.length]++be (kd.headD 0).toNat 2++encKs ks kd.tail=G):=⟨[2,UInt8.ofNat ks.length]++be (kd.headD 0).toNat 2++encKs ks kd.tail,hide rfl⟩;rw[HG.out];have HL:Hid (∀W:World,W=(w.alloc (.cells #[.bool false,pv,kv,dv] 35))->Calls prog 55 #[kv,dv] W fun e w'=>∃v',e=.returned v'/\Own 5 w' W.heap.size v' G/\Kp none' W w'):=by
   rintro W rfl;exact Fe kv dv ks kd B _ hS1 hD1 hwk hr.1 hsz hc hr.2.2.1 G HG.out
  clear hcl hci hri hr;go_enter func28,ntmps28;go_wp2_with (first
   | (go_at_call 55;refine(HL.out _ rfl).mono ?_;rintro e w1 ⟨v1,rfl,hO1,hK1⟩;have hcv:=CH w1 112 9 5 underlying112 underlying5 underlying9 hO1)
   | fail)
  go_ret;exact⟨rfl,hK0.thenN hK1⟩
set_option maxRecDepth 100000 in
theorem Dm(x:Value)(n:Nd)(B:Nat)(w:World)(hN:Nv B w x n)(hB:B<=w.heap.size)(hp:n.ps.length<=1099511627776)(hk:n.ks.length<=1099511627776) :
  Calls prog 7 #[x] w fun e w'=>e=.returned (.tuple #[.string n.write,.int .i64 n.writeE])/\Kp none' w w':=by
 have hN':=hN;obtain⟨⟨pv,kv,dv,rfl,hP,hS,hD⟩,hwf⟩:=hN';have hb:=Nb.new w n.leaf pv kv dv;have hK0:Kp none' w (w.alloc (.cells #[.bool n.leaf,pv,kv,dv] 35)):=Kp.alloc _ _ _;have hN0:=hN.keptN hK0;have hs0:B<=(w.alloc (.cells #[.bool n.leaf,pv,kv,dv] 35)).heap.size:=Nat.le_trans hB hK0.size;obtain⟨a1,c1,rfl,_⟩:=hP;obtain⟨a2,c2,rfl,_⟩:=hS;obtain⟨a3,c3,rfl,_⟩:=hD;have d0:=hb.c0;have d1:=hb.c1;have d2:=hb.c2;have d3:=hb.c3;cases hr:n.right with
 | false =>
  have HE:Hid (n.writeE=4):=by show _=_;unfold Nd.writeE;rw[hr];rfl
  have HS:Hid (n.write=⟨#[]⟩):=by show _=_;unfold Nd.write;rw[HE.out];rfl
  rw[HE.out,HS.out];go_enter func7,ntmps7;go_wp2_with (first
   | (go_at_call 26;refine(Cw _ n B _ hN0).mono ?_;rintro e w1 ⟨rfl,hK1⟩;rw[hr])
   | fail)
  go_ret2;exact⟨rfl,hK0.thenN hK1⟩
 | true =>
  have hsz:wrap64 (n.size:Int)=(n.size:Int):=Kj hr hp hk;have HSZ:=hide hsz;by_cases h256:256<n.size
  ·have HE:Hid (n.writeE=3):=by show _=_;unfold Nd.writeE;rw[hr,if_pos rfl,if_pos h256]
   have HS:Hid (n.write=⟨#[]⟩):=by show _=_;unfold Nd.write;rw[HE.out];rfl
   rw[HE.out,HS.out];have hgt:(256:Int)<(n.size:Int):=by omega
   clear hsz;go_enter func7,ntmps7;go_upto_region 3 with (first
    | (go_at_call 26;refine(Cw _ n B _ hN0).mono ?_;rintro e w1 ⟨rfl,hK1⟩;rw[hr])
    | fail)
   have hb1:=hb.kept hK1 (fun h=>h);have e0:=hb1.c0;have e1:=hb1.c1;have e2:=hb1.c2;have e3:=hb1.c3;clear d0 d1 d2 d3;go_wp2_with (first
    | (go_at_call 27;refine(Cj _ n B _ (hN0.keptN hK1)).mono ?_;rintro e w2 ⟨rfl,hK2⟩;rw[HSZ.out])
    | fail)
   go_ret2;exact⟨rfl,hK0.thenN (hK1.thenN hK2)⟩
  ·have hE:n.writeE=0:=by unfold Nd.writeE;rw[hr,if_pos rfl,if_neg h256]
   have HE:=hide hE;have HS:Hid (n.write=mkB n.body++mkB (List.replicate (256 - n.size) 0)):=by
    show _=_;unfold Nd.write;rw[HE.out,if_pos rfl];unfold Nd.page;rw[Dz hr];exact(catN _ _).symm
   have hbl:(mkB n.body).size=n.size:=by rw[AB,Dz hr]
   obtain⟨m,Hm⟩:∃m:Nat,Hid (256 - n.size=m):=⟨_,rfl⟩;have hrl:(mkB (List.replicate m (0:UInt8))).size=m:=by rw[AB,List.length_replicate]
   obtain⟨q,Hq⟩:∃q:Nat,Hid (n.size=q):=⟨_,rfl⟩;obtain⟨T1,HT1⟩:∃T1,Hid (mkB n.body=T1):=⟨mkB n.body,hide rfl⟩;obtain⟨T2,HT2⟩:∃T2,Hid (mkB (List.replicate m (0:UInt8))=T2):=⟨mkB (List.replicate m (0:UInt8)),hide rfl⟩;have hadd:¬9223372036854775807<T1.size+T2.size:=by
    rw[<-HT1.out,<-HT2.out,hbl,hrl];have:=Hm.out;omega
   rw[Hm.out,HT1.out,HT2.out]at HS;rw[HE.out,HS.out];rw[Hq.out]at HSZ;have hgt:¬(256:Int)<(q:Int):=by have:=Hq.out;omega
   have HR:Hid (∀(W:World) (z:Int),z=(m:Int)->Calls prog 29 #[.string ⟨#[0]⟩,.int .i64 z] W fun e w'=>e=.returned (.string T2)/\Kp none' W w'):=by
    intro W z hz;rw[<-HT2.out];exact Po m z hz W (by have:=Hm.out;omega)
   have Hmq:Hid ((256:Int) - q=(m:Int)/\q<=256):=by
    have:=Hm.out;have:=Hq.out;show _/\_;omega
   have HTL:Hid (∀W:World,Kp none' (w.alloc (.cells #[.bool n.leaf,.slice a1 n.ps.length c1,.slice a2 n.ks.length c2,.slice a3 n.kd.length c3] 35)) W->Calls prog 28 #[.agg #[.bool n.leaf,.slice a1 n.ps.length c1,.slice a2 n.ks.length c2,.slice a3 n.kd.length c3]] W fun e w'=>e=.returned (.string T1)/\Kp none' W w'):=by
    intro W hk;rw[<-HT1.out];exact OC _ n B W (hN0.keptN hk) (Nat.le_trans hs0 hk.size) hE
   clear hsz h256 hbl hrl hE;go_enter func7,ntmps7;go_upto_region 3 with (first
    | (go_at_call 26;refine(Cw _ n B _ hN0).mono ?_;rintro e w1 ⟨rfl,hK1⟩;rw[hr])
    | fail)
   have hb1:=hb.kept hK1 (fun h=>h);have e0:=hb1.c0;have e1:=hb1.c1;have e2:=hb1.c2;have e3:=hb1.c3;clear d0 d1 d2 d3;go_upto_region 6 with (first
    | (go_at_call 27;refine(Cj _ n B _ (hN0.keptN hK1)).mono ?_;rintro e w2 ⟨rfl,hK2⟩;rw[Hq.out,HSZ.out])
    | fail)
   have hb2:=hb1.kept hK2 (fun h=>h);have f0:=hb2.c0;have f1:=hb2.c1;have f2:=hb2.c2;have f3:=hb2.c3;clear e0 e1 e2 e3;go_wp2_with (first
    | (go_at_call 28;refine(HTL.out _ (hK1.thenN hK2)).mono ?_;rintro e w3 ⟨rfl,hK3⟩)
    | (go_at_call 29;refine(HR.out _ _ (by have:=Hmq.out;first|(unfold wrap64;omega)|(rw[IntKind.wrap_i64];omega)|omega)).mono ?_;rintro e w4 ⟨rfl,hK4⟩)
    | fail)
   go_ret2;exact⟨rfl,hK0.thenN (hK1.thenN (hK2.thenN (hK3.thenN hK4)))⟩
end Go.Proofs.YtgcgacjhkhjhmaaGreatDoor
