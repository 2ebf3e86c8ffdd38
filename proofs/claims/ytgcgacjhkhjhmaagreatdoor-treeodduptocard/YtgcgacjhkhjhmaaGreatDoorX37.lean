/- Part of the proof: contracts over the turned program. -/
import Derived.Test.YtgcgacjhkhjhmaaGreatDoorX36
import Derived.Test.YtgcgacjhkhjhmaaGreatDoorX28
set_option linter.unusedVariables false
set_option maxHeartbeats 4000000
open Go.Proofs.Tryz
namespace Go.Proofs.YtgcgacjhkhjhmaaGreatDoor
open Go Go.RowKit
set_option maxRecDepth 100000 in
theorem ED(r c m:Nat)(V:Nat->Prop)(S:Sw)(root:Int)(key:ByteArray)(w:World)(hWk:Wk w r V c m S)(hV:∀k,V k->k<w.heap.size)(hm:m<=400)(hrt:okZ root)(hkm:key.size<=maxLen)(hS:S.now.length<=1000) :
  Calls prog 12 #[.pointer (some ⟨r,0,none⟩),.int .i64 root,.string key] w fun e w'=>e=.returned (.tuple #[.int .i64 (delTZ S root key),.bool (delTB S root key),.int .i64 (delTE S root key)])/\Wk w' r (fun k=>V k\/w.heap.size<=k) c (m+4000) (delTS S root key)/\Kp V w w':=by
 by_cases h0:root=0
 ·have HE:Hid (delTE S root key=0/\delTZ S root key=root/\delTS S root key=S/\delTB S root key=false):=by
   have hq:delQ S root key=false:=by unfold delQ;rw[decide_eq_false (fun h=>h h0)];rfl
   refine⟨?_,?_,?_,?_⟩
   ·unfold delTE;rw[if_pos h0]
   ·unfold delTZ;rw[hq];rfl
   ·unfold delTS;rw[hq];rfl
   ·unfold delTB;rw[hq];rfl
  have hg:(root==0)=true:=by rw[h0];rfl
  have HEND:Hid (Wk w r (fun k=>V k\/w.heap.size<=k) c (m+4000) S/\Kp V w w):=⟨hWk.mono (fun _ _ h=>.inl h) (by omega),Kp.refl _ _⟩;clear hWk hkm h0 hrt hS hV;go_enter func12,ntmps12;go_wp2;go_ret3;rw[HE.out.1,HE.out.2.1,HE.out.2.2.1,HE.out.2.2.2];exact⟨rfl,HEND.out⟩
 ·have hg:(root==0)=false:=by rw[beq_eq_false_iff_ne];exact h0
  have HPQ:Hid (delQ S root key=(decide ((wayG S key 41 [] root 0).2.1=0)&&hasN (lastN (wayG S key 41 [] root 0).1).ps key)):=by show _=_;unfold delQ;rw[decide_eq_true h0];rfl
  have HPE:Hid (delTE S root key=if (wayG S key 41 [] root 0).2.1=0 then (if hasN (lastN (wayG S key 41 [] root 0).1).ps key then (delC S root key).putE (delW S root key) else 0) else (wayG S key 41 [] root 0).2.1):=by show _=_;unfold delTE;rw[if_neg h0]
  have HPB:Hid (delTB S root key=(delQ S root key&&decide (delTE S root key=0))):=hide rfl;have HPZ:Hid (delTZ S root key=if delQ S root key then (delC S root key).putZ root (delW S root key) else root):=hide rfl;have HPS:Hid (delTS S root key=if delQ S root key then (delC S root key).putS (delW S root key) else S):=hide rfl;have HDW:Hid (delW S root key=setLast (fun n=>n.cut key) (wayG S key 41 [] root 0).1):=hide rfl;have HC1S:Hid ((delC S root key).S=S):=hide rfl
  have HLF:Hid ((wayG S key 41 [] root 0).2.1=0->CI (wayG S key 41 [] root 0).1/\(wayG S key 41 [] root 0).1.length<=41/\Bd (delC S root key) 10 10 10 50000):=by
   have h:=Fl S hS root hrt key;unfold Cg.leafE Cg.leafW Cg.leaf at h;rw[if_neg h0,if_neg h0,if_neg h0]at h;exact h
  obtain⟨o,ho5,ho9,hob⟩:=D6 V w.heap.size (fun e=>by have:=hV _ e;omega);have hka:Kp none' w (w.alloc (.cells #[.pointer (some ⟨r,0,none⟩),.int .i64 0,.slice none 0 0,.slice none 0 0,.slice none 0 0] 80)):=Kp.alloc _ _ _;have hC1:=Cm.start w r S o hob;have hWk1:=hWk.keptN hka;have hV1:∀k,V k->o k=5/\k<(w.alloc (.cells #[.pointer (some ⟨r,0,none⟩),.int .i64 0,.slice none 0 0,.slice none 0 0,.slice none 0 0] 80)).heap.size:=fun k e=>⟨ho5 k e,Qd (hV k e) hka.size⟩
  have HWL:Hid (Calls prog 35 #[.pointer (some ⟨w.heap.size,0,none⟩),.int .i64 root,.string key] (w.alloc (.cells #[.pointer (some ⟨r,0,none⟩),.int .i64 0,.slice none 0 0,.slice none 0 0,.slice none 0 0] 80)) fun e w'=>∃v,e=.returned (.tuple #[v,.int .i64 (wayG S key 41 [] root 0).2.1])/\Ie w.heap.size r c m o (delC S root key) (.slice none 0 0) [] v (wayG S key 41 [] root 0).1 (w.alloc (.cells #[.pointer (some ⟨r,0,none⟩),.int .i64 0,.slice none 0 0,.slice none 0 0,.slice none 0 0] 80)) w'):=by
   generalize (w.alloc (.cells #[.pointer (some ⟨r,0,none⟩),.int .i64 0,.slice none 0 0,.slice none 0 0,.slice none 0 0] 80))=w1 at hC1 hWk1 hV1 |-;generalize w.heap.size=b at hC1 |-;refine(Ic b r 0 _ 80 root key V c m S w1 hC1.hd hWk1 (fun j e e'=>by have:=(hV1 j e).1;have:=hC1.ob;subst e';omega) (by omega)).mono ?_;rintro e w2 ⟨v,ys,rfl,hM,hWl,hk2⟩;have hol:∀k,k<w1.heap.size->lab o w1.heap.size 6 k=o k:=fun k h=>Ad h
   have hnb:∀k,V k->¬only b k:=fun k e e'=>by unfold only at e';have:=(hV1 k e).1;have:=hC1.ob;subst e';omega
   exact⟨v,rfl,lab o w1.heap.size 6,V,_,_,ys,hM,fun k e=>Ap (World.ownsRow.lt hM.row k e).1,fun i h k e=>Ap ((hM.is i h (by rw[<-hM.len];exact h)).nd.blocks k e).1,hol,hC1.walk hWl hk2 hol,(hWk1.kept hk2 (fun k _ e=>hnb k e)).mono (fun _ _ h=>h) (by omega),fun k e=>⟨by rw[hol k (hV1 k e).2];exact(hV1 k e).1,Qd (hV1 k e).2 hk2.size⟩,hk2.mono (fun k _ e=>.inl (by unfold only at e;rw[e];exact hC1.ob))⟩
  have HKA:=hide hka;have HO5:=hide ho5;have HO9:Hid (∀k,k<w.heap.size->¬V k->o k=9):=fun k h e=>ho9 k e (by omega);have HKM:=hide hkm;have HM:=hide hm;clear hWk hWk1 hV1 hC1 hka ho5 ho9 hob hkm hS hV h0;rw[HDW.out]at HPE HPZ HPS;obtain⟨le,Hle⟩:∃q,Hid ((wayG S key 41 [] root 0).2.1=q):=⟨_,hide rfl⟩;rw[Hle.out]at HWL HPE HPQ HLF;obtain⟨ns,Hns⟩:∃q,Hid ((wayG S key 41 [] root 0).1=q):=⟨_,hide rfl⟩;rw[Hns.out]at HWL HPE HPZ HPS HPQ HLF;obtain⟨C1,HC1⟩:∃q,Hid (delC S root key=q):=⟨_,hide rfl⟩
  rw[HC1.out]at HWL HPE HPZ HPS HLF HC1S;go_enter func12,ntmps12;go_upto_region 4 with fail;obtain⟨b,Hb⟩:∃q,Hid (w.heap.size=q):=⟨_,hide rfl⟩;rw[Hb.out]at HWL |-;generalize w.alloc (.cells #[.pointer (some ⟨r,0,none⟩),.int .i64 0,.slice none 0 0,.slice none 0 0,.slice none 0 0] 80)=w1 at *;go_upto_region 5 with (first
   | (go_at_call 35;refine HWL.out.mono ?_;rintro e w2 ⟨v,rfl,o2,V2,tv2,sv2,ys,hM,hlv,hly,ho2,hC2,hW2,hV2,hk2⟩;obtain⟨va,vc,hv⟩:=hM.slice;subst hv)
   | fail)
  have HSZ:Hid (w.heap.size<=w1.heap.size/\w1.heap.size<=w2.heap.size):=⟨HKA.out.size,hk2.size⟩;have HOO:Hid (∀k,k<w.heap.size->o2 k=o k):=fun k h=>ho2 k (Qd h HKA.out.size);have HOV:Hid (∀k,k<w.heap.size->o k=5\/(1<=o k/\o k<=6)->V k):=fun k h e=>by
   by_cases hv:V k
   ·exact hv
   ·have:=HO9.out k h hv;omega
  have HK2:Hid (Kp V w w2):=HKA.out.trans hk2 (fun _ _ h=>by cases h) (fun k h e=>HOV.out k h (by omega));have HV2:Hid (∀k,V2 k->k<w.heap.size->V k):=fun k e h=>HOV.out k h (.inl (by rw[<-HOO.out k h];exact(hV2 k e).1));by_cases hle:le=0
  ·have hb0:(le != 0)=false:=by rw[hle];rfl
   obtain⟨hp,hpl,hbd⟩:=HLF.out hle;obtain⟨hp1,hp2,hp3,hp4⟩:=DX ns hp;obtain⟨i,Hi⟩:∃i,Hid (ns.length=i+1):=⟨ns.length - 1,hide (by omega)⟩;obtain⟨g,hva⟩:∃g,va=some ⟨g,0,none⟩:=by
    rcases hM.row.2 with ⟨e,h0⟩|⟨g,cap,cur,e,_⟩
    ·have:=hM.len;omega
    ·simp only[Value.slice.injEq]at e;exact⟨g,e.1⟩
   subst hva;have hlen:ys.length=i+1:=by rw[hM.len,Hi.out]
   obtain⟨y,hy⟩:∃y,ys[i]?=some y:=⟨ys[i],List.getElem?_eq_getElem (by omega)⟩;have hiy:i<ys.length:=by omega
   have hyi:ys[i]=y:=(List.getElem?_eq_some_iff.1 hy).2;have hin:i<ns.length:=by rw[Hi.out];omega
   have his:=hM.is i hiy hin;rw[hyi]at his;have hgd:ns.getD (ns.length - 1) sp0=ns[i]:=by rw[show ns.length - 1=i by have:=Hi.out;omega,List.getD_eq_getElem?_getD,List.getElem?_eq_getElem hin];rfl
   have HNV:=hide his.nd.nv;have hps:ns[i].nd.ps.length<=256:=by rw[<-hgd];exact hp4.2.1
   have hla:lastN ns=ns[i].nd:=by
    unfold lastN;rw[List.getLast?_eq_getElem?,show ns.length - 1=i by have:=Hi.out;omega,List.getElem?_eq_getElem hin];rfl
   have HPO:Hid (∀W,Kp none' w2 W->Calls prog 37 #[y.node,.string key] W fun e w'=>∃a m c,e=.returned (.agg #[.bool true,.slice a m c,.slice none 0 0,.slice none 0 0])/\OwP w' w2.heap.size (.slice a m c) (ns[i].nd.cut key).ps/\Kp none' w2 w'):=by
    intro W hk;refine(OQ y.node ns[i].nd _ key W (his.nd.kept hk (fun _ _ _ h=>h)).nv (by omega)).mono ?_;rintro e w' ⟨a,m,c,rfl,h1,h2⟩;exact⟨a,m,c,rfl,h1.mono hk.size,hk.nThen h2⟩
   have HFI:=hide (E8 y.node ns[i].nd _ key w2 HNV.out);unfold SpV.node at HPO HFI;have HFR:Hid (∀W,Kp none' w2 W->Wk W r (fun k=>V k\/w.heap.size<=k) c (m+4000) S/\Kp V w W):=fun W hk=>⟨by rw[<-HC1S.out];exact(hW2.keptN hk).mono (fun k _ e=>by rcases Nat.lt_or_ge k w.heap.size with h|h;exact .inl (HV2.out k e h);exact .inr h) (by omega),HK2.out.thenN hk⟩
   have HRW:Hid (∀W,Kp none' w2 W->W.ownsRow w1.heap.size 85 7 (.slice (some ⟨g,0,none⟩) ns.length vc) ys.length (stcs ys)):=fun W hk=>Ao hM.row hk (fun _ _ h=>h);have q1:w2.cell? ⟨g,i*7+1,none⟩=some (.bool y.l):=(row_step hM.row i hiy 1 _ (by rw[hyi];rfl)).1;have q2:w2.cell? ⟨g,i*7+1+1,none⟩=some (.slice y.a1 y.n1 y.c1):=(row_step hM.row i hiy 2 _ (by rw[hyi];rfl)).1;have q3:w2.cell? ⟨g,i*7+1+2,none⟩=some (.slice y.a2 y.n2 y.c2):=(row_step hM.row i hiy 3 _ (by rw[hyi];rfl)).1
   have q4:w2.cell? ⟨g,i*7+1+3,none⟩=some (.slice y.a3 y.n3 y.c3):=(row_step hM.row i hiy 4 _ (by rw[hyi];rfl)).1
   have HRDY:Hid (∀(w5 W:World) (a5:Option Addr) (n5 c5:Nat),Kp none' w2 w5->Kp (only g) w5 W->OwP w5 w2.heap.size (.slice a5 n5 c5) (ns[i].nd.cut key).ps->W.ownsRow w1.heap.size 85 7 (.slice (some ⟨g,0,none⟩) ns.length vc) (ys.set i ⟨y.pg,true,a5,n5,c5,none,0,0,none,0,0,y.kid,y.was⟩).length (stcs (ys.set i ⟨y.pg,true,a5,n5,c5,none,0,0,none,0,0,y.kid,y.was⟩))->Calls prog 34 #[.pointer (some ⟨b,0,none⟩),.int .i64 root,.slice (some ⟨g,0,none⟩) ns.length vc] W fun e w'=>e=.returned (.tuple #[.int .i64 (C1.putZ root (setLast (fun n=>n.cut key) ns)),.int .i64 (C1.putE (setLast (fun n=>n.cut key) ns))])/\Wk w' r (fun k=>V k\/w.heap.size<=k) c (m+4000) (C1.putS (setLast (fun n=>n.cut key) ns))/\Kp V w w'):=by
    intro w5 W a5 n5 c5 hk5 hk6 hO5 hrow;have hgl:g<w2.heap.size:=(World.ownsRow.lt hM.row g rfl).2;have hOW:OwP W w2.heap.size (.slice a5 n5 c5) (ns[i].nd.cut key).ps:=hO5.kept hk6 (fun k e e'=>by unfold only at e';have:=(hO5.lt k e).1;omega);have hown:∀k,(⟨y.pg,true,a5,n5,c5,none,0,0,none,0,0,y.kid,y.was⟩:SpV).own k->w2.heap.size<=k/\k<w5.heap.size:=fun k e=>by
     rcases e with e|e|e
     ·exact hO5.lt k e
     ·cases e
     ·cases e
    have hidx:ns.length - 1=i:=by have:=Hi.out;omega
    obtain⟨hSt,hmm,hlab⟩:=GG (gN:=fun n=>n.cut key) (y:=y) (y':=⟨y.pg,true,a5,n5,c5,none,0,0,none,0,0,y.kid,y.was⟩) hM hp hlv hly hC2 hW2 hV2 w5 hk5 hk6 (by rw[hidx];exact hy) (by rw[hidx];exact hrow) ⟨rfl,rfl,rfl⟩ (by rw[hgd];exact Nv.own hOW.prs (PJ his.nd.wf key)) hown;have hs5:=hk5.size;have hs6:=hk6.size
    refine(It b r c (m+2) g ns.length vc w1.heap.size w1.heap.size _ C1 (setLast (fun n=>n.cut key) ns) 1000 root W hSt hmm (by have:=HSZ.out.2;omega) (by have:=HM.out;omega) (I2 hp hpl _ (fun n h1 h2 h3=>OP key n h1 h2 h3)) (by omega) (by omega) hbd).mono ?_;rintro e w' ⟨rfl,V',h1,h2,h3⟩;have hsz:=HSZ.out;refine⟨rfl,h1.mono (fun k _ e=>?_) (by omega),?_⟩
    ·rcases Nat.lt_or_ge k w.heap.size with h|h
     ·left;have h4:=h2 k e (by omega);rw[hlab k (by omega),HOO.out k h]at h4;exact HOV.out k h (.inl h4)
     ·exact .inr h
    ·have hk27:Kp (only g) w2 W:=hk5.nThen hk6;refine(HK2.out.trans hk27 (fun _ _ h=>h) (fun k h e=>?_)).trans h3 (fun _ _ h=>h) (fun k h e=>?_)
     ·unfold only at e;subst e;have:=(World.ownsRow.lt hM.row k rfl).1;omega
     ·rw[hlab k (by omega),HOO.out k h]at e;exact HOV.out k h (.inr e)
   have HLL:Hid (i+1<=41):=by show _<=_;rw[<-Hi.out];exact hpl
   have hi40:i<=40:=by have:=HLL.out;omega
   rw[Hi.out]at HRW HRDY |-;have HY:=hide hy;obtain⟨nd,Hnd⟩:∃q,Hid (ns[i].nd=q):=⟨_,hide rfl⟩;rw[hla]at HPE HPQ;obtain⟨fz,Hfz⟩:∃q,Hid (((findN ns[i].nd.ps key:Nat):Int)=q):=⟨_,hide rfl⟩;rw[Hfz.out]at HFI;obtain⟨bq,Hbq⟩:∃q,Hid (hasN ns[i].nd.ps key=q):=⟨_,hide rfl⟩;rw[Hbq.out]at HPE HPQ HFI;rw[Hnd.out]at HPO HRDY;rw[if_pos hle]at HPE;rw[hle,decide_eq_true rfl,Bool.true_and]at HPQ;clear HNV Hnd Hfz Hbq
   clear hM hlv hly ho2 hC2 hW2 hV2 hk2 hp hpl hbd hp1 hp2 hp3 hp4 hlen hy hiy hyi hin his hgd hps hle hla;cases bq with
   | false =>
    rw[if_neg (by simp)]at HPE;rw[HPQ.out]at HPB HPZ HPS;rw[Bool.false_and]at HPB;rw[if_neg (by simp)]at HPZ HPS;go_wp2_with (first
     | (go_at_call 36;refine HFI.out.mono ?_;rintro e w5 ⟨rfl,hk5⟩;have hE5:=hide (HFR.out w5 hk5))
     | fail)
    go_ret3;rw[HPE.out,HPB.out,HPZ.out,HPS.out];exact⟨rfl,hE5.out⟩
   | true =>
    rw[if_pos rfl]at HPE;rw[HPQ.out]at HPB HPZ HPS;rw[Bool.true_and,HPE.out]at HPB;rw[if_pos rfl]at HPZ HPS;obtain⟨pe,Hpe⟩:∃q,Hid (C1.putE (setLast (fun n=>n.cut key) ns)=q):=⟨_,hide rfl⟩;rw[Hpe.out]at HPE HPB HRDY;go_upto_region 11 with (first
     | (go_at_call 36;refine HFI.out.mono ?_;rintro e w5 ⟨rfl,hk5⟩;have q11:w5.cell? ⟨g,i*7+1,none⟩=some (.bool y.l):=(row_step (HRW.out w5 hk5) i (List.getElem?_eq_some_iff.1 HY.out).1 1 _ (by rw[(List.getElem?_eq_some_iff.1 HY.out).2];rfl)).1;have q12:w5.cell? ⟨g,i*7+1+1,none⟩=some (.slice y.a1 y.n1 y.c1):=(row_step (HRW.out w5 hk5) i (List.getElem?_eq_some_iff.1 HY.out).1 2 _ (by rw[(List.getElem?_eq_some_iff.1 HY.out).2];rfl)).1;have q13:w5.cell? ⟨g,i*7+1+2,none⟩=some (.slice y.a2 y.n2 y.c2):=(row_step (HRW.out w5 hk5) i (List.getElem?_eq_some_iff.1 HY.out).1 3 _ (by rw[(List.getElem?_eq_some_iff.1 HY.out).2];rfl)).1;have q14:w5.cell? ⟨g,i*7+1+3,none⟩=some (.slice y.a3 y.n3 y.c3):=(row_step (HRW.out w5 hk5) i (List.getElem?_eq_some_iff.1 HY.out).1 4 _ (by rw[(List.getElem?_eq_some_iff.1 HY.out).2];rfl)).1)
     | fail)
    have HP5:=hide (HPO.out w5 hk5);clear hk5;go_upto_region 12 with (first
     | (go_at_call 37;refine HP5.out.mono ?_;rintro e w6 ⟨a5,n5,c5,rfl,hO5,hk5⟩;obtain⟨⟨f1,f1'⟩,⟨f2,f2'⟩,⟨f3,f3'⟩,⟨f4,f4'⟩,hr6,hk6⟩:=Ja (HRW.out w6 hk5) i y HY.out true a5 none none n5 c5 0 0 0 0)
     | fail)
    have HF:=hide (HRDY.out w6 _ a5 n5 c5 hk5 hk6 hO5 hr6);generalize ((w6.setCell ⟨g,i*7+1,none⟩ (.bool true)).setCell ⟨g,i*7+1+1,none⟩ (.slice a5 n5 c5))=W0 at *;go_wp2_with (first
     | (go_at_call 34;refine HF.out.mono ?_;rintro e w' ⟨rfl,hend⟩)
     | fail)
    go_ret3;rw[HPE.out,HPB.out,HPZ.out,HPS.out];exact⟨rfl,hend⟩
  ·have hb0:(le != 0)=true:=by rw[bne_iff_ne];exact hle
   rw[if_neg hle]at HPE;rw[decide_eq_false hle,Bool.false_and]at HPQ;rw[HPQ.out]at HPB HPZ HPS;rw[Bool.false_and]at HPB;rw[if_neg (by simp)]at HPZ HPS;have HEND:Hid (Wk w2 r (fun k=>V k\/w.heap.size<=k) c (m+4000) S):=by rw[<-HC1S.out];exact hW2.mono (fun k _ e=>by rcases Nat.lt_or_ge k w.heap.size with h|h;exact .inl (HV2.out k e h);exact .inr h) (by omega)
   clear hM hlv hly ho2 hC2 hW2 hV2 hk2 hle;go_wp2;go_ret3;rw[HPE.out,HPB.out,HPZ.out,HPS.out];exact⟨rfl,HEND.out,HK2.out⟩
end Go.Proofs.YtgcgacjhkhjhmaaGreatDoor
namespace Go.Proofs.YtgcgacjhkhjhmaaGreatDoor
open Go.RowKit
structure Od (w0 w:World) (r:Nat) (V F:Nat->Prop) (q:Cq) (D:Dv) (Q:Nat->ByteArray) (s:St) (n u:Nat) (S:Sw):Prop where
 wk:Wk w r V q.c 0 S
 cs:Cst w q F D Q 0 0 s
 vl:∀k,V k->w0.heap.size<=k/\k<w.heap.size
 fl:∀k,F k->w0.heap.size<=k/\k<w.heap.size
 vf:∀k,V k->¬F k
 qn:q.n=n
 hb:∀i,i<n->S.base.getD i ⟨#[]⟩=Q i
 sb:s.h+s.m<=u
 kp:Kp none' w0 w
 nt:S.notes=[]
 ln:S.now.length=n
def Odd(w0 w:World)(r n u:Nat)(S:Sw):Prop:=∃V F q D Q s,Od w0 w r V F q D Q s n u S
theorem Odd.kp{w0 w:World}{r n u:Nat}{S:Sw}(h:Odd w0 w r n u S):Kp none' w0 w:=by
 obtain⟨V,F,q,D,Q,s,h⟩:=h;exact h.kp
theorem Odd.keptN{w0 w w':World}{r n u:Nat}{S:Sw}(h:Odd w0 w r n u S)(hk:Kp none' w w'):Odd w0 w' r n u S:=by
 obtain⟨V,F,q,D,Q,s,h⟩:=h;have hs:=hk.size;exact⟨V,F,q,D,Q,s,⟨h.wk.keptN hk,Cas.keptN h.cs hk,fun k hv=>⟨(h.vl k hv).1,Qd (h.vl k hv).2 hs⟩,fun k hf=>⟨(h.fl k hf).1,Qd (h.fl k hf).2 hs⟩,h.vf,h.qn,h.hb,h.sb,h.kp.then hk,h.nt,h.ln⟩⟩
theorem Od.step{w0 w w':World}{r:Nat}{V F:Nat->Prop}{q:Cq}{D:Dv}{Q:Nat->ByteArray}{s:St}{n m u:Nat}{S T:Sw}(h:Od w0 w r V F q D Q s n u S)(hw:Wk w' r (fun k=>V k\/w.heap.size<=k) q.c m T)(hk:Kp V w w')(hn:Kn S T):Odd w0 w' r n u T:=by
 have hs:=hk.size;have hs0:=h.kp.size;have hnt:T.notes=[]:=by rw[hn.nt,h.nt]
 refine⟨fun k=>(V k\/w.heap.size<=k)/\k<w'.heap.size,F,q,D,Q,s,⟨(hw.m0 hnt).mono (fun k h1 h2=>⟨h2,h1⟩) (Nat.le_refl _),Cas.kept h.cs hk (fun k _ hf hv=>h.vf k hv hf),fun k hv=>⟨?_,hv.2⟩,fun k hf=>⟨(h.fl k hf).1,Qd (h.fl k hf).2 hs⟩,fun k hv hf=>?_,h.qn,fun i hi=>by rw[hn.bs];exact h.hb i hi,h.sb,h.kp.trans hk (fun _ _ h=>h) (fun k hk hv=>?_),hnt,by rw[hn.ln,h.ln]⟩⟩
 ·rcases hv.1 with h1|h1
  ·exact(h.vl k h1).1
  ·omega
 ·rcases hv.1 with h1|h1
  ·exact h.vf k h1 hf
  ·have:=(h.fl k hf).2;omega
 ·have:=(h.vl k hv).1;omega
theorem N0{w0 w:World}{r n u:Nat}{S:Sw}(h:Odd w0 w r n u S) :
  Calls prog 6 #[.pointer (some ⟨r,0,none⟩)] w fun e w'=>e=.returned (.tuple #[.int .i64 S.takeE.1,.int .i64 S.takeE.2])/\Odd w0 w' r n u (S.take (fillB 0)):=by
 obtain⟨V,F,q,D,Q,s,h⟩:=h;refine(GC r V q.c 0 S w h.wk (by omega)).mono ?_;rintro e w' ⟨rfl,h1,h2⟩;exact⟨rfl,h.step h1 h2 (KY _ _)⟩
theorem L9{w0 w:World}{r n u:Nat}{S:Sw}(h:Odd w0 w r n u S)(z:Int)(x:ByteArray)(hx:x.size<=1000) :
  Calls prog 8 #[.pointer (some ⟨r,0,none⟩),.int .i64 z,.string x] w fun e w'=>e=.returned (.int .i64 (S.writeE z x))/\Odd w0 w' r n u (S.write z x):=by
 obtain⟨V,F,q,D,Q,s,h⟩:=h;refine(FR r z x V q.c 0 S w h.wk (by omega) hx).mono ?_;rintro e w' ⟨rfl,h1,h2⟩;exact⟨rfl,h.step h1 h2 (IF _ _ _)⟩
theorem Bc{w0 w:World}{r n u:Nat}{S:Sw}(h:Odd w0 w r n u S) :
  Calls prog 9 #[.pointer (some ⟨r,0,none⟩)] w fun e w'=>e=.returned (.int .i64 (S.usedN:Int))/\w'=w:=by
 obtain⟨V,F,q,D,Q,s,h⟩:=h;exact Ks r V q.c 0 S w h.wk
def IsL(v:Value)(n:Nat):Prop:=∃a c,v=.slice a n c
theorem AA{w0 w:World}{r n u:Nat}{S:Sw}(h:Odd w0 w r n u S)(hu:u<=100000) :
  Calls prog 10 #[.pointer (some ⟨r,0,none⟩)] w fun e w'=>∃v,e=.returned v/\IsL v S.changed.length/\Odd w0 w' r n (u+160) S:=by
 obtain⟨V,F,q,D,Q,s,h⟩:=h;have hsb:=h.sb;refine(Hy h.wk h.cs (fun k _ hv=>h.vf k hv) (fun _=>⟨by rw[h.qn,h.ln],fun i hi=>h.hb i (by rw[<-h.ln];exact hi)⟩) (by omega)).mono ?_;rintro e w' ⟨v,F',s',rfl,hO,hZ,hvF⟩;have hs0:=h.kp.size;have hs1:=hZ.k.size;have hZb:=hZ.b
 refine⟨v,rfl,?_,V,fun k=>F' k/\k<w'.heap.size,q,D,Q,s',⟨h.wk.kept hZ.k (fun k _ hv=>h.vf k hv),Cas.mono hZ.c (fun k h1 h2=>⟨h2,h1⟩),fun k hv=>⟨(h.vl k hv).1,Qd (h.vl k hv).2 hs1⟩,fun k hf=>⟨?_,hf.2⟩,fun k hv hf=>?_,h.qn,h.hb,by omega,h.kp.trans hZ.k (fun _ _ h=>h) (fun k hk hf=>?_),h.nt,h.ln⟩⟩
 ·obtain⟨a,c,e,_⟩:=hO.open;rw[In]at e;exact⟨a,c,e⟩
 ·rcases hZ.f k hf.1 with h1|h1
  ·exact(h.fl k h1).1
  ·omega
 ·rcases hZ.f k hf.1 with h1|h1
  ·exact h.vf k hv h1
  ·have:=(h.vl k hv).2;omega
 ·have:=(h.fl k hf).1;omega
theorem Lc{w0 w:World}{r n u:Nat}{S:Sw}(h:Odd w0 w r n u S)(hn:n<=1000)(root:Int)(key val:ByteArray)(hrt:okZ root)(hkm:key.size<=maxLen)(hvm:val.size<=maxLen) :
  Calls prog 11 #[.pointer (some ⟨r,0,none⟩),.int .i64 root,.string key,.string val] w fun e w'=>e=.returned (.tuple #[.int .i64 (putTZ S root key val),.int .i64 (putTE S root key val)])/\Odd w0 w' r n u (putTS S root key val):=by
 obtain⟨V,F,q,D,Q,s,h⟩:=h;refine(FS r q.c 0 V S root key val w h.wk (fun k hv=>(h.vl k hv).2) (by omega) hrt hkm hvm (by rw[h.ln];exact hn)).mono ?_;rintro e w' ⟨rfl,h1,h2⟩;exact⟨rfl,h.step h1 h2 (J1 _ _ _ _)⟩
theorem CB{w0 w:World}{r n u:Nat}{S:Sw}(h:Odd w0 w r n u S)(hn:n<=1000)(root:Int)(key:ByteArray)(hrt:okZ root)(hkm:key.size<=maxLen) :
  Calls prog 12 #[.pointer (some ⟨r,0,none⟩),.int .i64 root,.string key] w fun e w'=>e=.returned (.tuple #[.int .i64 (delTZ S root key),.bool (delTB S root key),.int .i64 (delTE S root key)])/\Odd w0 w' r n u (delTS S root key):=by
 obtain⟨V,F,q,D,Q,s,h⟩:=h;refine(ED r q.c 0 V S root key w h.wk (fun k hv=>(h.vl k hv).2) (by omega) hrt hkm (by rw[h.ln];exact hn)).mono ?_;rintro e w' ⟨rfl,h1,h2⟩;exact⟨rfl,h.step h1 h2 (J0 _ _ _)⟩
theorem BX{w0 w:World}{r n u:Nat}{S:Sw}(h:Odd w0 w r n u S)(key:ByteArray)(root:Int) :
  Calls prog 13 #[.pointer (some ⟨r,0,none⟩),.int .i64 root,.string key] w fun e w'=>e=.returned (.tuple #[.string (getT S root key).1,.bool (getT S root key).2.1,.int .i64 (getT S root key).2.2])/\Odd w0 w' r n u S:=by
 obtain⟨V,F,q,D,Q,s,h'⟩:=h;refine(Jp r q.c 0 V S key root w h'.wk (fun k hv=>(h'.vl k hv).2)).mono ?_;rintro e w' ⟨rfl,h2⟩;exact⟨rfl,Odd.keptN ⟨V,F,q,D,Q,s,h'⟩ h2⟩
theorem BC{w0 w:World}{r n u:Nat}{S:Sw}(h:Odd w0 w r n u S)(fr up:ByteArray)(root:Int) :
  Calls prog 14 #[.pointer (some ⟨r,0,none⟩),.int .i64 root,.string fr,.string up] w fun e w'=>∃v,e=.returned (.tuple #[v,.int .i64 (scanE S root fr up)])/\IsL v (scanL S root fr up).length/\Odd w0 w' r n u S:=by
 obtain⟨V,F,q,D,Q,s,h'⟩:=h;refine(On r q.c 0 V S fr up root w h'.wk (fun k hv=>(h'.vl k hv).2)).mono ?_;rintro e w' ⟨v,rfl,h1,_,h2⟩;obtain⟨a,c,e,_⟩:=h1.prs;exact⟨v,rfl,⟨a,c,e⟩,Odd.keptN ⟨V,F,q,D,Q,s,h'⟩ h2⟩
theorem Bq{w0 w:World}{r n u:Nat}{S:Sw}(h:Odd w0 w r n u S)(root:Int) :
  Calls prog 15 #[.pointer (some ⟨r,0,none⟩),.int .i64 root] w fun e w'=>e=.returned (.tuple #[.int .i64 (AP S root).1,.int .i64 (AP S root).2.1,.bool (AP S root).2.2])/\Odd w0 w' r n u S:=by
 obtain⟨V,F,q,D,Q,s,h'⟩:=h;refine(FL r q.c 0 V S root w h'.wk (fun k hv=>(h'.vl k hv).2)).mono ?_;rintro e w' ⟨rfl,h2⟩;exact⟨rfl,Odd.keptN ⟨V,F,q,D,Q,s,h'⟩ h2⟩
set_option maxRecDepth 100000 in
theorem OB (n : Nat) (w : World) (h1 : 1 ≤ n) (h2 : n ≤ 160) :
    Calls prog 5 #[.int .i64 (n : Int)] w fun e w' => ∃ r, e = .returned (.pointer (some ⟨r, 0, none⟩)) ∧ Odd w w' r n 160 (sw0 n) := by
  have HW : Hid (wrap64 (126 + 4 * (n : Int)) = 126 + 4 * (n : Int)) := by show _ = _; unfold wrap64; omega
  have HO : Hid (∀ (w1 : World) (p : Dp), Dev w1 p (fresh (newN (126 + 4 * (n : Int)))) → Calls prog 16 #[.pointer (some ⟨p.d, 0, none⟩), .int .i64 (n : Int)] w1 fun e w' => ∃ g, e = .returned (.tuple #[.pointer (some ⟨g, 0, none⟩), .int .i64 0]) ∧ Rest w' p (fresh (126 + 4 * n)) n (fun _ => fillB 0) 0 ∧ Pag w' g p n 0 (.slice none 0 0) [] ∧ w1.heap.size ≤ g ∧ Kp p.mem w1 w') := fun w1 p hD => FE (I9 h2 hD) h1 h2
  have HBG : Hid (∀ (w1 : World) (q : Cq) (D : Dv), q.n = n → Kp none' w w1 → Cas w1 q (fun k => w.heap.size ≤ k) D (fun _ => fillB 0) 0 0 [] 0 0 → Calls prog 19 #[.pointer (some ⟨q.c, 0, none⟩)] w1 fun e w' => ∃ r, e = .returned (.tuple #[.pointer (some ⟨r, 0, none⟩), .int .i64 0]) ∧ Odd w w' r n 160 (sw0 n)) := fun w1 q D hq hk hC => by
    have hC' : Cst w1 q (fun k => w.heap.size ≤ k) D (fun _ => fillB 0) 0 0 ⟨[], 0, 0⟩ := hC
    refine (FJ hC' (zeroP n) (by rw [Ct, hq]) (by omega) (by omega) (fun i hi => by rw [D9 n i (by omega)]) (FT n) (by show 0 + 0 ≤ _; omega)).mono ?_
    rintro e w' ⟨r, rfl, F', V, s', a1, a2, a3⟩
    have hsz := hk.size
    have hkk : Kp none' w w' := hk.trans a2.k (fun _ _ h => h) (fun k hk h => absurd h (by omega))
    refine ⟨r, rfl, fun k => V k ∧ k < w'.heap.size, fun k => F' k ∧ k < w'.heap.size, q, D, (fun _ => fillB 0), s', ⟨a1.mono (fun k h1 h => ⟨h, h1⟩) (Nat.le_refl _), Cas.mono a2.c (fun k h1 h => ⟨h, h1⟩), fun k h => ⟨?_, h.2⟩, fun k h => ⟨?_, h.2⟩, fun k h h2 => (a3 k h.1).2 h2.1, hq, fun i hi => D9 n i hi _, ?_, hkk, rfl, Ct n⟩⟩
    · have := (a3 k h.1).1
      omega
    · rcases a2.f k h.1 with h2 | h2
      · exact h2
      · omega
    · have := a2.b
      show s'.h + s'.m ≤ 160
      have e0 : (⟨[], 0, 0⟩ : St).h + (⟨[], 0, 0⟩ : St).m = 0 := rfl
      omega
  go_enter func5, ntmps5
  go_wp2_with (first
    | (go_at_call 18; refine (Fs _ _).mono ?_; rintro e w' ⟨rfl, rfl⟩; rw [HW.out])
    | (go_at_call 17; refine (Lb _ _).mono ?_; rintro e w1 ⟨p, rfl, hD1, hk1, hm1⟩)
    | (go_at_call 16; refine (HO.out w1 p hD1).mono ?_; rintro e w2 ⟨g, rfl, hR2, hP2, hg2, hk2⟩)
    | (go_at_call 20; refine (Ir 8 hR2 rfl hP2 (by omega) (fun _ => A8 0)).mono ?_; rintro e w3 ⟨q, rfl, hq1, hq2, hq3, hq4, hC3, hk3⟩; have HC3 := hide hC3; have HQ := hide (And.intro hq1 (And.intro hq2 (And.intro hq3 hq4))); clear hC3 hq1 hq2 hq3 hq4)
    | (go_at_call 19
       have hkN := kpN hk1 hk2 hm1
       have hs1 := hk1.size
       have hs2 := hkN.size
       refine (HBG.out w3 q _ HQ.out.1 (hkN.then hk3) (HC3.out.mono (fun k _ hk => by
         rcases hk with h | h | h
         · exact hm1 k h
         · omega
         · omega))).mono ?_
       rintro e w4 ⟨r, rfl, hend⟩)
    | fail)
  go_ret
  exact ⟨r, rfl, hend⟩
end Go.Proofs.YtgcgacjhkhjhmaaGreatDoor
namespace Go.Proofs.YtgcgacjhkhjhmaaGreatDoor
open Go Go.RowKit
def Wn(w w':World)(r:Nat)(V:Nat->Prop)(c:Nat)(S':Sw):Prop:=∃V',Wk w' r V' c 0 S'/\(∀k,V' k->k<w'.heap.size)/\(∀k,V' k->V k\/w.heap.size<=k)/\Kp V w w'
theorem PG{w w':World}{r:Nat}{V:Nat->Prop}{c m:Nat}{S':Sw}(h:Wk w' r (fun k=>V k\/w.heap.size<=k) c m S')(hn:S'.notes=[])(hk:Kp V w w')(hV:∀k,V k->k<w.heap.size):Wn w w' r V c S':=by
 refine⟨fun k=>V k\/(w.heap.size<=k/\k<w'.heap.size),(h.m0 hn).mono (fun k h1 h2=>?_) (Nat.le_refl _),fun k h=>?_,fun k h=>?_,hk⟩
 ·rcases h2 with h2|h2
  ·exact .inl h2
  ·exact .inr ⟨h2,h1⟩
 ·rcases h with h|h
  ·exact Qd (hV k h) hk.size
  ·exact h.2
 ·rcases h with h|h
  ·exact .inl h
  ·exact .inr h.1
set_option maxRecDepth 100000 in
theorem Kx(w:World):Calls prog 4 #[] w fun e w'=>e=.returned (.bool true)/\Kp none' w w':=by
 have hfr:=Kw 4 w (by omega) (by omega);rw[show (((4:Nat):Int))=4 from rfl]at hfr;have HFR:=hide hfr;clear hfr;obtain⟨S1,S2,S3,z1,z2,z3,e1,f1,g1,n1,l1,o1,e2,f2,g2,n2,l2,o2,e3,b3,f3,g3,q1,q2⟩:=II ⟨#[97]⟩ ⟨#[98]⟩ ⟨#[49]⟩ ⟨#[50]⟩ rfl rfl rfl rfl;have hsm:∀x:UInt8,(⟨#[x]⟩:ByteArray).size<=maxLen:=fun x=>by show 1<=maxLen;unfold maxLen;omega
 have HP1:Hid (∀(W:World) (r:Nat) (V:Nat->Prop) (c:Nat),Wk W r V c 0 (sw0 4)->(∀k,V k->w.heap.size<=k/\k<W.heap.size)->Kp none' w W->Calls prog 11 #[.pointer (some ⟨r,0,none⟩),.int .i64 0,.string ⟨#[97]⟩,.string ⟨#[49]⟩] W fun e w'=>e=.returned (.tuple #[.int .i64 z1,.int .i64 0])/\∃V',Wk w' r V' c 0 S1/\(∀k,V' k->w.heap.size<=k/\k<w'.heap.size)/\Kp none' w w'):=fun W r V c hW hV hk=>by
  have:=FS r c 0 V (sw0 4) 0 ⟨#[97]⟩ ⟨#[49]⟩ W hW (fun k h=>(hV k h).2) (by omega) ⟨by omega,by omega⟩ (hsm _) (hsm _) (by show (zeroP 4).length<=1000;rw[Ct];omega);rw[e1,f1,g1]at this;refine this.mono ?_;rintro e w' ⟨rfl,h1,h2⟩;obtain⟨V',a1,a2,a3,a4⟩:=PG h1 n1 h2 (fun k h=>(hV k h).2);refine⟨rfl,V',a1,fun k h=>⟨?_,a2 k h⟩,hk.trans a4 (fun _ _ h=>h) (fun k hk h=>absurd (hV k h).1 (by omega))⟩;rcases a3 k h with h|h
  ·exact(hV k h).1
  ·exact Nat.le_trans hk.size h
 have HP2:Hid (∀(W:World) (r:Nat) (V:Nat->Prop) (c:Nat),Wk W r V c 0 S1->(∀k,V k->w.heap.size<=k/\k<W.heap.size)->Kp none' w W->Calls prog 11 #[.pointer (some ⟨r,0,none⟩),.int .i64 z1,.string ⟨#[98]⟩,.string ⟨#[50]⟩] W fun e w'=>e=.returned (.tuple #[.int .i64 z2,.int .i64 0])/\∃V',Wk w' r V' c 0 S2/\(∀k,V' k->w.heap.size<=k/\k<w'.heap.size)/\Kp none' w w'):=fun W r V c hW hV hk=>by
  have:=FS r c 0 V S1 z1 ⟨#[98]⟩ ⟨#[50]⟩ W hW (fun k h=>(hV k h).2) (by omega) o1 (hsm _) (hsm _) l1;rw[e2,f2,g2]at this;refine this.mono ?_;rintro e w' ⟨rfl,h1,h2⟩;obtain⟨V',a1,a2,a3,a4⟩:=PG h1 n2 h2 (fun k h=>(hV k h).2);refine⟨rfl,V',a1,fun k h=>⟨?_,a2 k h⟩,hk.trans a4 (fun _ _ h=>h) (fun k hk h=>absurd (hV k h).1 (by omega))⟩;rcases a3 k h with h|h
  ·exact(hV k h).1
  ·exact Nat.le_trans hk.size h
 have HP3:Hid (∀(W:World) (r:Nat) (V:Nat->Prop) (c:Nat),Wk W r V c 0 S2->(∀k,V k->w.heap.size<=k/\k<W.heap.size)->Kp none' w W->Calls prog 12 #[.pointer (some ⟨r,0,none⟩),.int .i64 z2,.string ⟨#[97]⟩] W fun e w'=>e=.returned (.tuple #[.int .i64 z3,.bool true,.int .i64 0])/\∃V',Wk w' r V' c 4000 S3/\(∀k,V' k->k<w'.heap.size)/\Kp none' w w'):=fun W r V c hW hV hk=>by
  have:=ED r c 0 V S2 z2 ⟨#[97]⟩ W hW (fun k h=>(hV k h).2) (by omega) o2 (hsm _) l2;rw[e3,b3,f3,g3]at this;refine this.mono ?_;rintro e w' ⟨rfl,h1,h2⟩;refine⟨rfl,fun k=>(V k\/W.heap.size<=k)/\k<w'.heap.size,h1.mono (fun k h3 h4=>⟨h4,h3⟩) (by omega),fun k h=>h.2,hk.trans h2 (fun _ _ h=>h) (fun k hk h=>absurd (hV k h).1 (by omega))⟩
 have HG:Hid (∀(W:World) (r:Nat) (V:Nat->Prop) (c:Nat),Wk W r V c 4000 S3->(∀k,V k->k<W.heap.size)->Calls prog 13 #[.pointer (some ⟨r,0,none⟩),.int .i64 z3,.string ⟨#[98]⟩] W fun e w'=>e=.returned (.tuple #[.string ⟨#[50]⟩,.bool true,.int .i64 0])/\Kp none' W w'):=fun W r V c hW hV=>by
  have:=Jp r c 4000 V S3 ⟨#[98]⟩ z3 W hW hV;rw[q1]at this;exact this
 have HS:Hid (∀(W:World) (r:Nat) (V:Nat->Prop) (c:Nat),Wk W r V c 4000 S3->(∀k,V k->k<W.heap.size)->Calls prog 15 #[.pointer (some ⟨r,0,none⟩),.int .i64 z3] W fun e w'=>e=.returned (.tuple #[.int .i64 1,.int .i64 1,.bool true])/\Kp none' W w'):=fun W r V c hW hV=>by
  have:=FL r c 4000 V S3 z3 W hW hV;rw[q2]at this;exact this
 clear e1 f1 g1 n1 l1 o1 e2 f2 g2 n2 l2 o2 e3 b3 f3 g3 q1 q2 hsm;go_enter func4,ntmps4;go_upto_region 4 with (first
  | (go_at_call 5;refine HFR.out.mono ?_;rintro e w1 ⟨r,V,c,rfl,hW1,hV1,hk1⟩)
  | fail)
 go_upto_region 5 with (first
  | (go_at_call 11;refine(HP1.out w1 r V c hW1 hV1 hk1).mono ?_;rintro e w2 ⟨rfl,V2,hW2,hV2,hk2⟩)
  | fail)
 go_upto_region 6 with (first
  | (go_at_call 11;refine(HP2.out w2 r V2 c hW2 hV2 hk2).mono ?_;rintro e w3 ⟨rfl,V3,hW3,hV3,hk3⟩)
  | fail)
 go_wp2_with (first
  | (go_at_call 12;refine(HP3.out w3 r V3 c hW3 hV3 hk3).mono ?_;rintro e w4 ⟨rfl,V4,hW4,hV4,hk4⟩)
  | (go_at_call 13;refine(HG.out w4 r V4 c hW4 hV4).mono ?_;rintro e w5 ⟨rfl,hk5⟩)
  | (go_at_call 15;refine(HS.out w5 r V4 c (hW4.keptN hk5) (fun k h=>Qd (hV4 k h) hk5.size)).mono ?_;rintro e w6 ⟨rfl,hk6⟩)
  | fail)
 go_ret;exact⟨rfl,(hk4.thenN hk5).thenN hk6⟩
end Go.Proofs.YtgcgacjhkhjhmaaGreatDoor
