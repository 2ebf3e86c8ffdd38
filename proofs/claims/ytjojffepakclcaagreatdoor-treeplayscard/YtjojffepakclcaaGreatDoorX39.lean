/- Part of the proof: contracts over the turned program. -/
import Derived.Test.YtjojffepakclcaaGreatDoorX38
import Derived.Test.YtjojffepakclcaaGreatDoorX31
import Derived.Test.YtjojffepakclcaaGreatDoorX24
import Derived.Test.YtjojffepakclcaaGreatDoorX29
set_option linter.unusedVariables false
set_option maxHeartbeats 4000000
open Go.Proofs.Tryz
namespace Go.Proofs.YtjojffepakclcaaGreatDoor
open Go Go.RowKit
set_option maxRecDepth 100000 in
theorem EM(r c m:Nat)(V:Nat->Prop)(S:Sw)(root:Int)(key:ByteArray)(w:World)(hWk:Wk w r V c m S)(hV:∀k,V k->k<w.heap.size)(hm:m<=400)(hrt:okZ root)(hkm:key.size<=maxLen)(hS:S.now.length<=1000) :
  Calls prog 23 #[.pointer (some ⟨r,0,none⟩),.int .i64 root,.string key] w fun e w'=>e=.returned (.tuple #[.int .i64 (delTZ S root key),.bool (delTB S root key),.int .i64 (delTE S root key)])/\Wk w' r (fun k=>V k\/w.heap.size<=k) c (m+4000) (delTS S root key)/\Kp V w w':=by
 by_cases h0:root=0
 ·have HE:Hid (delTE S root key=0/\delTZ S root key=root/\delTS S root key=S/\delTB S root key=false):=by
   have hq:delQ S root key=false:=by unfold delQ;rw[decide_eq_false (fun h=>h h0)];rfl
   refine⟨?_,?_,?_,?_⟩
   ·unfold delTE;rw[if_pos h0]
   ·unfold delTZ;rw[hq];rfl
   ·unfold delTS;rw[hq];rfl
   ·unfold delTB;rw[hq];rfl
  have hg:(root==0)=true:=by rw[h0];rfl
  have HEND:Hid (Wk w r (fun k=>V k\/w.heap.size<=k) c (m+4000) S/\Kp V w w):=⟨hWk.mono (fun _ _ h=>.inl h) (by omega),Kp.refl _ _⟩;clear hWk hkm h0 hrt hS hV;go_enter func23,ntmps23;go_wp2;go_ret3;rw[HE.out.1,HE.out.2.1,HE.out.2.2.1,HE.out.2.2.2];exact⟨rfl,HEND.out⟩
 ·have hg:(root==0)=false:=by rw[beq_eq_false_iff_ne];exact h0
  have HPQ:Hid (delQ S root key=(decide ((wayG S key 41 [] root 0).2.1=0)&&hasN (lastN (wayG S key 41 [] root 0).1).ps key)):=by show _=_;unfold delQ;rw[decide_eq_true h0];rfl
  have HPE:Hid (delTE S root key=if (wayG S key 41 [] root 0).2.1=0 then (if hasN (lastN (wayG S key 41 [] root 0).1).ps key then (delC S root key).putE (delW S root key) else 0) else (wayG S key 41 [] root 0).2.1):=by show _=_;unfold delTE;rw[if_neg h0]
  have HPB:Hid (delTB S root key=(delQ S root key&&decide (delTE S root key=0))):=hide rfl;have HPZ:Hid (delTZ S root key=if delQ S root key then (delC S root key).putZ root (delW S root key) else root):=hide rfl;have HPS:Hid (delTS S root key=if delQ S root key then (delC S root key).putS (delW S root key) else S):=hide rfl;have HDW:Hid (delW S root key=setLast (fun n=>n.cut key) (wayG S key 41 [] root 0).1):=hide rfl;have HC1S:Hid ((delC S root key).S=S):=hide rfl
  have HLF:Hid ((wayG S key 41 [] root 0).2.1=0->Do (wayG S key 41 [] root 0).1/\(wayG S key 41 [] root 0).1.length<=41/\Bd (delC S root key) 10 10 10 50000):=by
   have h:=Fd S hS root hrt key;unfold Cg.leafE Cg.leafW Cg.leaf at h;rw[if_neg h0,if_neg h0,if_neg h0]at h;exact h
  obtain⟨o,ho5,ho9,hob⟩:=D0 V w.heap.size (fun e=>by have:=hV _ e;omega);have hka:Kp none' w (w.alloc (.cells #[.pointer (some ⟨r,0,none⟩),.int .i64 0,.slice none 0 0,.slice none 0 0,.slice none 0 0] 102)):=Kp.alloc _ _ _;have hC1:=Cm.start w r S o hob;have hWk1:=hWk.keptN hka;have hV1:∀k,V k->o k=5/\k<(w.alloc (.cells #[.pointer (some ⟨r,0,none⟩),.int .i64 0,.slice none 0 0,.slice none 0 0,.slice none 0 0] 102)).heap.size:=fun k e=>⟨ho5 k e,PW (hV k e) hka.size⟩
  have HWL:Hid (Calls prog 25 #[.pointer (some ⟨w.heap.size,0,none⟩),.int .i64 root,.string key] (w.alloc (.cells #[.pointer (some ⟨r,0,none⟩),.int .i64 0,.slice none 0 0,.slice none 0 0,.slice none 0 0] 102)) fun e w'=>∃v,e=.returned (.tuple #[v,.int .i64 (wayG S key 41 [] root 0).2.1])/\Ir w.heap.size r c m o (delC S root key) (.slice none 0 0) [] v (wayG S key 41 [] root 0).1 (w.alloc (.cells #[.pointer (some ⟨r,0,none⟩),.int .i64 0,.slice none 0 0,.slice none 0 0,.slice none 0 0] 102)) w'):=by
   generalize (w.alloc (.cells #[.pointer (some ⟨r,0,none⟩),.int .i64 0,.slice none 0 0,.slice none 0 0,.slice none 0 0] 102))=w1 at hC1 hWk1 hV1 |-;generalize w.heap.size=b at hC1 |-;refine(Hh b r 0 _ 102 root key V c m S w1 hC1.hd hWk1 (fun j e e'=>by have:=(hV1 j e).1;have:=hC1.ob;subst e';omega) (by omega)).mono ?_;rintro e w2 ⟨v,ys,rfl,hM,hWl,hk2⟩;have hol:∀k,k<w1.heap.size->lab o w1.heap.size 6 k=o k:=fun k h=>Ad h
   have hnb:∀k,V k->¬only b k:=fun k e e'=>by unfold only at e';have:=(hV1 k e).1;have:=hC1.ob;subst e';omega
   exact⟨v,rfl,lab o w1.heap.size 6,V,_,_,ys,hM,fun k e=>Aq (World.ownsRow.lt hM.row k e).1,fun i h k e=>Aq ((hM.is i h (by rw[<-hM.len];exact h)).nd.blocks k e).1,hol,hC1.walk hWl hk2 hol,(hWk1.kept hk2 (fun k _ e=>hnb k e)).mono (fun _ _ h=>h) (by omega),fun k e=>⟨by rw[hol k (hV1 k e).2];exact(hV1 k e).1,PW (hV1 k e).2 hk2.size⟩,hk2.mono (fun k _ e=>.inl (by unfold only at e;rw[e];exact hC1.ob))⟩
  have HKA:=hide hka;have HO5:=hide ho5;have HO9:Hid (∀k,k<w.heap.size->¬V k->o k=9):=fun k h e=>ho9 k e (by omega);have HKM:=hide hkm;have HM:=hide hm;clear hWk hWk1 hV1 hC1 hka ho5 ho9 hob hkm hS hV h0;rw[HDW.out]at HPE HPZ HPS;obtain⟨le,Hle⟩:∃q,Hid ((wayG S key 41 [] root 0).2.1=q):=⟨_,hide rfl⟩;rw[Hle.out]at HWL HPE HPQ HLF;obtain⟨ns,Hns⟩:∃q,Hid ((wayG S key 41 [] root 0).1=q):=⟨_,hide rfl⟩;rw[Hns.out]at HWL HPE HPZ HPS HPQ HLF;obtain⟨C1,HC1⟩:∃q,Hid (delC S root key=q):=⟨_,hide rfl⟩
  rw[HC1.out]at HWL HPE HPZ HPS HLF HC1S;go_enter func23,ntmps23;go_upto_region 4 with fail;obtain⟨b,Hb⟩:∃q,Hid (w.heap.size=q):=⟨_,hide rfl⟩;rw[Hb.out]at HWL |-;generalize w.alloc (.cells #[.pointer (some ⟨r,0,none⟩),.int .i64 0,.slice none 0 0,.slice none 0 0,.slice none 0 0] 102)=w1 at *;go_upto_region 5 with (first
   | (go_at_call 25;refine HWL.out.mono ?_;rintro e w2 ⟨v,rfl,o2,V2,tv2,sv2,ys,hM,hlv,hly,ho2,hC2,hW2,hV2,hk2⟩;obtain⟨va,vc,hv⟩:=hM.slice;subst hv)
   | fail)
  have HSZ:Hid (w.heap.size<=w1.heap.size/\w1.heap.size<=w2.heap.size):=⟨HKA.out.size,hk2.size⟩;have HOO:Hid (∀k,k<w.heap.size->o2 k=o k):=fun k h=>ho2 k (PW h HKA.out.size);have HOV:Hid (∀k,k<w.heap.size->o k=5\/(1<=o k/\o k<=6)->V k):=fun k h e=>by
   by_cases hv:V k
   ·exact hv
   ·have:=HO9.out k h hv;omega
  have HK2:Hid (Kp V w w2):=HKA.out.trans hk2 (fun _ _ h=>by cases h) (fun k h e=>HOV.out k h (by omega));have HV2:Hid (∀k,V2 k->k<w.heap.size->V k):=fun k e h=>HOV.out k h (.inl (by rw[<-HOO.out k h];exact(hV2 k e).1));by_cases hle:le=0
  ·have hb0:(le != 0)=false:=by rw[hle];rfl
   obtain⟨hp,hpl,hbd⟩:=HLF.out hle;obtain⟨hp1,hp2,hp3,hp4⟩:=Ef ns hp;obtain⟨i,Hi⟩:∃i,Hid (ns.length=i+1):=⟨ns.length - 1,hide (by omega)⟩;obtain⟨g,hva⟩:∃g,va=some ⟨g,0,none⟩:=by
    rcases hM.row.2 with ⟨e,h0⟩|⟨g,cap,cur,e,_⟩
    ·have:=hM.len;omega
    ·simp only[Value.slice.injEq]at e;exact⟨g,e.1⟩
   subst hva;have hlen:ys.length=i+1:=by rw[hM.len,Hi.out]
   obtain⟨y,hy⟩:∃y,ys[i]?=some y:=⟨ys[i],List.getElem?_eq_getElem (by omega)⟩;have hiy:i<ys.length:=by omega
   have hyi:ys[i]=y:=(List.getElem?_eq_some_iff.1 hy).2;have hin:i<ns.length:=by rw[Hi.out];omega
   have his:=hM.is i hiy hin;rw[hyi]at his;have hgd:ns.getD (ns.length - 1) sp0=ns[i]:=by rw[show ns.length - 1=i by have:=Hi.out;omega,List.getD_eq_getElem?_getD,List.getElem?_eq_getElem hin];rfl
   have HNV:=hide his.nd.nv;have hps:ns[i].nd.ps.length<=256:=by rw[<-hgd];exact hp4.2.1
   have hla:lastN ns=ns[i].nd:=by
    unfold lastN;rw[List.getLast?_eq_getElem?,show ns.length - 1=i by have:=Hi.out;omega,List.getElem?_eq_getElem hin];rfl
   have HPO:Hid (∀W,Kp none' w2 W->Calls prog 42 #[y.node,.string key] W fun e w'=>∃a m c,e=.returned (.agg #[.bool true,.slice a m c,.slice none 0 0,.slice none 0 0])/\OwP w' w2.heap.size (.slice a m c) (ns[i].nd.cut key).ps/\Kp none' w2 w'):=by
    intro W hk;refine(OP y.node ns[i].nd _ key W (his.nd.kept hk (fun _ _ _ h=>h)).nv (by omega)).mono ?_;rintro e w' ⟨a,m,c,rfl,h1,h2⟩;exact⟨a,m,c,rfl,h1.mono hk.size,hk.nThen h2⟩
   have HFI:=hide (Fq y.node ns[i].nd _ key w2 HNV.out);unfold SpV.node at HPO HFI;have HFR:Hid (∀W,Kp none' w2 W->Wk W r (fun k=>V k\/w.heap.size<=k) c (m+4000) S/\Kp V w W):=fun W hk=>⟨by rw[<-HC1S.out];exact(hW2.keptN hk).mono (fun k _ e=>by rcases Nat.lt_or_ge k w.heap.size with h|h;exact .inl (HV2.out k e h);exact .inr h) (by omega),HK2.out.thenN hk⟩
   have HRW:Hid (∀W,Kp none' w2 W->W.ownsRow w1.heap.size 75 7 (.slice (some ⟨g,0,none⟩) ns.length vc) ys.length (stcs ys)):=fun W hk=>Ao hM.row hk (fun _ _ h=>h);have q1:w2.cell? ⟨g,i*7+1,none⟩=some (.bool y.l):=(row_step hM.row i hiy 1 _ (by rw[hyi];rfl)).1;have q2:w2.cell? ⟨g,i*7+1+1,none⟩=some (.slice y.a1 y.n1 y.c1):=(row_step hM.row i hiy 2 _ (by rw[hyi];rfl)).1;have q3:w2.cell? ⟨g,i*7+1+2,none⟩=some (.slice y.a2 y.n2 y.c2):=(row_step hM.row i hiy 3 _ (by rw[hyi];rfl)).1
   have q4:w2.cell? ⟨g,i*7+1+3,none⟩=some (.slice y.a3 y.n3 y.c3):=(row_step hM.row i hiy 4 _ (by rw[hyi];rfl)).1
   have HRDY:Hid (∀(w5 W:World) (a5:Option Addr) (n5 c5:Nat),Kp none' w2 w5->Kp (only g) w5 W->OwP w5 w2.heap.size (.slice a5 n5 c5) (ns[i].nd.cut key).ps->W.ownsRow w1.heap.size 75 7 (.slice (some ⟨g,0,none⟩) ns.length vc) (ys.set i ⟨y.pg,true,a5,n5,c5,none,0,0,none,0,0,y.kid,y.was⟩).length (stcs (ys.set i ⟨y.pg,true,a5,n5,c5,none,0,0,none,0,0,y.kid,y.was⟩))->Calls prog 43 #[.pointer (some ⟨b,0,none⟩),.int .i64 root,.slice (some ⟨g,0,none⟩) ns.length vc] W fun e w'=>e=.returned (.tuple #[.int .i64 (C1.putZ root (setLast (fun n=>n.cut key) ns)),.int .i64 (C1.putE (setLast (fun n=>n.cut key) ns))])/\Wk w' r (fun k=>V k\/w.heap.size<=k) c (m+4000) (C1.putS (setLast (fun n=>n.cut key) ns))/\Kp V w w'):=by
    intro w5 W a5 n5 c5 hk5 hk6 hO5 hrow;have hgl:g<w2.heap.size:=(World.ownsRow.lt hM.row g rfl).2;have hOW:OwP W w2.heap.size (.slice a5 n5 c5) (ns[i].nd.cut key).ps:=hO5.kept hk6 (fun k e e'=>by unfold only at e';have:=(hO5.lt k e).1;omega);have hown:∀k,(⟨y.pg,true,a5,n5,c5,none,0,0,none,0,0,y.kid,y.was⟩:SpV).own k->w2.heap.size<=k/\k<w5.heap.size:=fun k e=>by
     rcases e with e|e|e
     ·exact hO5.lt k e
     ·cases e
     ·cases e
    have hidx:ns.length - 1=i:=by have:=Hi.out;omega
    obtain⟨hSt,hmm,hlab⟩:=Gd (gN:=fun n=>n.cut key) (y:=y) (y':=⟨y.pg,true,a5,n5,c5,none,0,0,none,0,0,y.kid,y.was⟩) hM hp hlv hly hC2 hW2 hV2 w5 hk5 hk6 (by rw[hidx];exact hy) (by rw[hidx];exact hrow) ⟨rfl,rfl,rfl⟩ (by rw[hgd];exact Nv.own hOW.prs (PD his.nd.wf key)) hown;have hs5:=hk5.size;have hs6:=hk6.size
    refine(I3 b r c (m+2) g ns.length vc w1.heap.size w1.heap.size _ C1 (setLast (fun n=>n.cut key) ns) 1000 root W hSt hmm (by have:=HSZ.out.2;omega) (by have:=HM.out;omega) (IV hp hpl _ (fun n h1 h2 h3=>OQ key n h1 h2 h3)) (by omega) (by omega) hbd).mono ?_;rintro e w' ⟨rfl,V',h1,h2,h3⟩;have hsz:=HSZ.out;refine⟨rfl,h1.mono (fun k _ e=>?_) (by omega),?_⟩
    ·rcases Nat.lt_or_ge k w.heap.size with h|h
     ·left;have h4:=h2 k e (by omega);rw[hlab k (by omega),HOO.out k h]at h4;exact HOV.out k h (.inl h4)
     ·exact .inr h
    ·have hk27:Kp (only g) w2 W:=hk5.nThen hk6;refine(HK2.out.trans hk27 (fun _ _ h=>h) (fun k h e=>?_)).trans h3 (fun _ _ h=>h) (fun k h e=>?_)
     ·unfold only at e;subst e;have:=(World.ownsRow.lt hM.row k rfl).1;omega
     ·rw[hlab k (by omega),HOO.out k h]at e;exact HOV.out k h (.inr e)
   have HLL:Hid (i+1<=41):=by show _<=_;rw[<-Hi.out];exact hpl
   have hi40:i<=40:=by have:=HLL.out;omega
   rw[Hi.out]at HRW HRDY |-;have HY:=hide hy;obtain⟨nd,Hnd⟩:∃q,Hid (ns[i].nd=q):=⟨_,hide rfl⟩;rw[hla]at HPE HPQ;obtain⟨fz,Hfz⟩:∃q,Hid (((findN ns[i].nd.ps key:Nat):Int)=q):=⟨_,hide rfl⟩;rw[Hfz.out]at HFI;obtain⟨bq,Hbq⟩:∃q,Hid (hasN ns[i].nd.ps key=q):=⟨_,hide rfl⟩;rw[Hbq.out]at HPE HPQ HFI;rw[Hnd.out]at HPO HRDY;rw[if_pos hle]at HPE;rw[hle,decide_eq_true rfl,Bool.true_and]at HPQ;clear HNV Hnd Hfz Hbq
   clear hM hlv hly ho2 hC2 hW2 hV2 hk2 hp hpl hbd hp1 hp2 hp3 hp4 hlen hy hiy hyi hin his hgd hps hle hla;cases bq with
   | false =>
    rw[if_neg (by simp)]at HPE;rw[HPQ.out]at HPB HPZ HPS;rw[Bool.false_and]at HPB;rw[if_neg (by simp)]at HPZ HPS;go_wp2_with (first
     | (go_at_call 26;refine HFI.out.mono ?_;rintro e w5 ⟨rfl,hk5⟩;have hE5:=hide (HFR.out w5 hk5))
     | fail)
    go_ret3;rw[HPE.out,HPB.out,HPZ.out,HPS.out];exact⟨rfl,hE5.out⟩
   | true =>
    rw[if_pos rfl]at HPE;rw[HPQ.out]at HPB HPZ HPS;rw[Bool.true_and,HPE.out]at HPB;rw[if_pos rfl]at HPZ HPS;obtain⟨pe,Hpe⟩:∃q,Hid (C1.putE (setLast (fun n=>n.cut key) ns)=q):=⟨_,hide rfl⟩;rw[Hpe.out]at HPE HPB HRDY;go_upto_region 11 with (first
     | (go_at_call 26;refine HFI.out.mono ?_;rintro e w5 ⟨rfl,hk5⟩;have q11:w5.cell? ⟨g,i*7+1,none⟩=some (.bool y.l):=(row_step (HRW.out w5 hk5) i (List.getElem?_eq_some_iff.1 HY.out).1 1 _ (by rw[(List.getElem?_eq_some_iff.1 HY.out).2];rfl)).1;have q12:w5.cell? ⟨g,i*7+1+1,none⟩=some (.slice y.a1 y.n1 y.c1):=(row_step (HRW.out w5 hk5) i (List.getElem?_eq_some_iff.1 HY.out).1 2 _ (by rw[(List.getElem?_eq_some_iff.1 HY.out).2];rfl)).1;have q13:w5.cell? ⟨g,i*7+1+2,none⟩=some (.slice y.a2 y.n2 y.c2):=(row_step (HRW.out w5 hk5) i (List.getElem?_eq_some_iff.1 HY.out).1 3 _ (by rw[(List.getElem?_eq_some_iff.1 HY.out).2];rfl)).1;have q14:w5.cell? ⟨g,i*7+1+3,none⟩=some (.slice y.a3 y.n3 y.c3):=(row_step (HRW.out w5 hk5) i (List.getElem?_eq_some_iff.1 HY.out).1 4 _ (by rw[(List.getElem?_eq_some_iff.1 HY.out).2];rfl)).1)
     | fail)
    have HP5:=hide (HPO.out w5 hk5);clear hk5;go_upto_region 12 with (first
     | (go_at_call 42;refine HP5.out.mono ?_;rintro e w6 ⟨a5,n5,c5,rfl,hO5,hk5⟩;obtain⟨⟨f1,f1'⟩,⟨f2,f2'⟩,⟨f3,f3'⟩,⟨f4,f4'⟩,hr6,hk6⟩:=Iw (HRW.out w6 hk5) i y HY.out true a5 none none n5 c5 0 0 0 0)
     | fail)
    have HF:=hide (HRDY.out w6 _ a5 n5 c5 hk5 hk6 hO5 hr6);generalize ((w6.setCell ⟨g,i*7+1,none⟩ (.bool true)).setCell ⟨g,i*7+1+1,none⟩ (.slice a5 n5 c5))=W0 at *;go_wp2_with (first
     | (go_at_call 43;refine HF.out.mono ?_;rintro e w' ⟨rfl,hend⟩)
     | fail)
    go_ret3;rw[HPE.out,HPB.out,HPZ.out,HPS.out];exact⟨rfl,hend⟩
  ·have hb0:(le != 0)=true:=by rw[bne_iff_ne];exact hle
   rw[if_neg hle]at HPE;rw[decide_eq_false hle,Bool.false_and]at HPQ;rw[HPQ.out]at HPB HPZ HPS;rw[Bool.false_and]at HPB;rw[if_neg (by simp)]at HPZ HPS;have HEND:Hid (Wk w2 r (fun k=>V k\/w.heap.size<=k) c (m+4000) S):=by rw[<-HC1S.out];exact hW2.mono (fun k _ e=>by rcases Nat.lt_or_ge k w.heap.size with h|h;exact .inl (HV2.out k e h);exact .inr h) (by omega)
   clear hM hlv hly ho2 hC2 hW2 hV2 hk2 hle;go_wp2;go_ret3;rw[HPE.out,HPB.out,HPZ.out,HPS.out];exact⟨rfl,HEND.out,HK2.out⟩
def Wn(w w':World)(r:Nat)(V:Nat->Prop)(c:Nat)(S':Sw):Prop:=∃V',Wk w' r V' c 0 S'/\(∀k,V' k->k<w'.heap.size)/\(∀k,V' k->V k\/w.heap.size<=k)/\Kp V w w'
theorem Ky{w w':World}{r:Nat}{V:Nat->Prop}{c m:Nat}{S':Sw}(h:Wk w' r (fun k=>V k\/w.heap.size<=k) c m S')(hn:S'.notes=[])(hk:Kp V w w')(hV:∀k,V k->k<w.heap.size):Wn w w' r V c S':=by
 refine⟨fun k=>V k\/(w.heap.size<=k/\k<w'.heap.size),(h.m0 hn).mono (fun k h1 h2=>?_) (Nat.le_refl _),fun k h=>?_,fun k h=>?_,hk⟩
 ·rcases h2 with h2|h2
  ·exact .inl h2
  ·exact .inr ⟨h2,h1⟩
 ·rcases h with h|h
  ·exact PW (hV k h) hk.size
  ·exact h.2
 ·rcases h with h|h
  ·exact .inl h
  ·exact .inr h.1
theorem KB{S:Sw}{n:Nat}{X:List Int}{z:Int}{prs:List Pr}{pgs:List Int}(h:Tre S n X z prs pgs):okZ z/\S.now.length<=1000:=by
 obtain⟨U,hT,hO,_,_⟩:=h.u;refine⟨?_,by rw[hT.len];have:=hT.l1;omega⟩;rcases h.ho with ⟨h,_,_⟩|⟨d,f,h,_,_,h4⟩
 ·rw[h];exact⟨by omega,by omega⟩
 ·have:=h.1;exact⟨by omega,by omega⟩
theorem tputS(r c n:Nat)(V:Nat->Prop)(S:Sw)(X pgs:List Int)(z:Int)(l:List Pr)(key val:ByteArray)(w:World)(hT:Tre S n X z l pgs)(hW:Wk w r V c 0 S)(hV:∀k,V k->k<w.heap.size)(hk:key.size<=maxLen)(hv:val.size<=maxLen) :
  Calls prog 24 #[.pointer (some ⟨r,0,none⟩),.int .i64 z,.string key,.string val] w fun e w'=>e=.returned (.tuple #[.int .i64 (putTZ S z key val),.int .i64 (putTE S z key val)])/\Wn w w' r V c (putTS S z key val):=by
 have ho:=KB hT;refine(Fx r c 0 V S z key val w hW hV (by omega) ho.1 hk hv ho.2).mono ?_;rintro e w' ⟨rfl,h1,h2⟩;exact⟨rfl,Ky h1 (by rw[(J0 S z key val).nt,hT.nt]) h2 hV⟩
theorem tdelS(r c n:Nat)(V:Nat->Prop)(S:Sw)(X pgs:List Int)(z:Int)(l:List Pr)(key:ByteArray)(w:World)(hT:Tre S n X z l pgs)(hW:Wk w r V c 0 S)(hV:∀k,V k->k<w.heap.size)(hk:key.size<=maxLen) :
  Calls prog 23 #[.pointer (some ⟨r,0,none⟩),.int .i64 z,.string key] w fun e w'=>e=.returned (.tuple #[.int .i64 (delTZ S z key),.bool (delTB S z key),.int .i64 (delTE S z key)])/\Wn w w' r V c (delTS S z key):=by
 have ho:=KB hT;refine(EM r c 0 V S z key w hW hV (by omega) ho.1 hk ho.2).mono ?_;rintro e w' ⟨rfl,h1,h2⟩;exact⟨rfl,Ky h1 (by rw[(JH S z key).nt,hT.nt]) h2 hV⟩
structure Sta (w:World) (b r:Nat) (V:Nat->Prop) (c:Nat) (S:Sw) (z:Int) (v:Value) (l:List Pr):Prop where
 pk:Pk w b r z v
 pq:Pq w b v l
 wk:Wk w r V c 0 S
 vl:∀k,V k->k<w.heap.size
 vb:¬V b
 vo:∀g,v.ownBlock=some g->¬V g
theorem Sta.keptN{w w':World}{b r:Nat}{V:Nat->Prop}{c:Nat}{S:Sw}{z:Int}{v:Value}{l:List Pr}(h:Sta w b r V c S z v l)(hk:Kp none' w w'):Sta w' b r V c S z v l :=
 ⟨h.pk.kept hk (fun h=>h),h.pq.kept hk (fun _ _ h=>h),h.wk.keptN hk,fun k hv=>PW (h.vl k hv) hk.size,h.vb,h.vo⟩
structure StF (w w':World) (b:Nat) (V:Nat->Prop) (v:Value) (V':Nat->Prop) (v':Value):Prop where
 v1:∀k,V' k->V k\/w.heap.size<=k
 o1:∀g,v'.ownBlock=some g->v.ownBlock=some g\/w.heap.size<=g
 k1:Kp (fun k=>V k\/k=b) w w'
theorem Sta.other{w w':World}{b r:Nat}{V V':Nat->Prop}{c:Nat}{S S':Sw}{z y:Int}{v v' u:Value}{l q:List Pr}{b2:Nat}(h:Sta w b2 r V c S y u q)(hf:StF w w' b V v V' v')(hw:Wk w' r V' c 0 S')(hl:∀k,V' k->k<w'.heap.size)(hb:b2≠b)(ho:∀g,u.ownBlock=some g->g≠b):Sta w' b2 r V' c S' y u q:=by
 refine⟨h.pk.kept hf.k1 (fun e=>e.elim h.vb hb),h.pq.kept hf.k1 (fun g hg e=>e.elim (h.vo g hg) (ho g hg)),hw,hl,fun e=>?_,fun g hg e=>?_⟩
 ·rcases hf.v1 b2 e with e|e
  ·exact h.vb e
  ·have:=h.pk.lt;omega
 ·rcases hf.v1 g e with e|e
  ·exact h.vo g hg e
  ·have:=(h.pq.o.lt g hg).2;omega
set_option maxRecDepth 100000 in
theorem LK(b r c n:Nat)(V:Nat->Prop)(S:Sw)(X pgs:List Int)(z:Int)(l:List Pr)(v:Value)(k u:ByteArray)(w:World)(hM:Sta w b r V c S z v l)(hT:Tre S n X z l pgs)(hk:k.size<=maxLen)(hu:u.size<=maxLen)(hp:l.length<=100000)(S1:Sw)(z1:Int)(he:delTE S z k=0)(hb:delTB S z k=hasN l k)(hz:delTZ S z k=z1)(hS:delTS S z k=S1) :
  Calls prog 18 #[.pointer (some ⟨b,0,none⟩),.agg #[.string k,.string u,.bool true]] w fun e w'=>e=.returned (.bool true)/\∃V' v',Sta w' b r V' c S1 z1 v' (if hasN l k then cutP l k else l)/\StF w w' b V v V' v':=by
 obtain⟨lD,HlD⟩:∃q,Hid ((if hasN l k then cutP l k else l)=q):=⟨_,rfl⟩;obtain⟨BD,HBD⟩:∃q,Hid (hasN l k=q):=⟨_,rfl⟩;rw[HlD.out];rw[HBD.out]at hb;obtain⟨O,HO⟩:∃O,Hid (Obj.cells #[Value.string k,Value.string u,Value.bool true] 47=O):=⟨_,rfl⟩;have hKA:Kp none' w (w.alloc (.cells #[.string k,.string u,.bool true] 47)):=Kp.alloc _ _ _;have hnew:=heap_alloc_new w (.cells #[.string k,.string u,.bool true] 47)
 have a0:(w.alloc (.cells #[.string k,.string u,.bool true] 47)).cell? ⟨w.heap.size,0,none⟩=some (.string k):=by rw[cell_of_row _ w.heap.size 0 _ 47 (0,0) hnew];rfl
 have a1:(w.alloc (.cells #[.string k,.string u,.bool true] 47)).cell? ⟨w.heap.size,1,none⟩=some (.string u):=by rw[cell_of_row _ w.heap.size 1 _ 47 (0,0) hnew];rfl
 have a2:(w.alloc (.cells #[.string k,.string u,.bool true] 47)).cell? ⟨w.heap.size,2,none⟩=some (.bool true):=by rw[cell_of_row _ w.heap.size 2 _ 47 (0,0) hnew];rfl
 clear hnew HO O;have HMA:=hide (hM.keptN (hKA.thenN (Kp.drew none' _)));have HVN:Hid (∀j,j=w.heap.size->¬V j):=fun j e h=>by have:=hM.vl j h;omega
 have HKA:=hide (hKA.thenN (Kp.drew none' _))
 have T1:(w.alloc (.cells #[.string k,.string u,.bool true] 47)).drew.cell? ⟨b,0,none⟩=some (.pointer (some ⟨r,0,none⟩))/\(w.alloc (.cells #[.string k,.string u,.bool true] 47)).drew.cell? ⟨b,1,none⟩=some (.int .i64 z)/\(w.alloc (.cells #[.string k,.string u,.bool true] 47)).drew.cell? ⟨w.heap.size,0,none⟩=some (.string k)/\(w.alloc (.cells #[.string k,.string u,.bool true] 47)).drew.cell? ⟨w.heap.size,1,none⟩=some (.string u):=⟨HMA.out.pk.c0,HMA.out.pk.c1,a0,a1⟩;have HSB:=hide hM.pk.lt;clear hKA
 have HC:Hid (Calls prog 23 #[.pointer (some ⟨r,0,none⟩),.int .i64 z,.string k] (w.alloc (.cells #[.string k,.string u,.bool true] 47)).drew fun e w'=>e=.returned (.tuple #[.int .i64 z1,.bool BD,.int .i64 0])/\Wn (w.alloc (.cells #[.string k,.string u,.bool true] 47)).drew w' r V c S1):=by
  have:=tdelS r c n V S X pgs z l k _ hT HMA.out.wk HMA.out.vl hk;rw[he,hb,hz,hS]at this;exact this
 clear hz hS he;clear hb;go_enter func18,ntmps18;go_upto_region 2 with fail;go_region_held_law (fun W=>W.cell? ⟨b,0,none⟩=some (.pointer (some ⟨r,0,none⟩))/\W.cell? ⟨b,1,none⟩=some (.int .i64 z)/\W.cell? ⟨w.heap.size,0,none⟩=some (.string k)/\W.cell? ⟨w.heap.size,1,none⟩=some (.string u)) (first|assumption) (first
  | (go_at_call 23;refine HC.out.mono ?_;rintro e w2 ⟨rfl,hn2⟩;obtain⟨V2,hW2,hV2,hV3,hK2⟩:=hn2;have T2:w2.cell? ⟨b,0,none⟩=some (.pointer (some ⟨r,0,none⟩))/\w2.cell? ⟨b,1,none⟩=some (.int .i64 z)/\w2.cell? ⟨w.heap.size,0,none⟩=some (.string k)/\w2.cell? ⟨w.heap.size,1,none⟩=some (.string u):=⟨hK2.cell T1.1 HMA.out.vb,hK2.cell T1.2.1 HMA.out.vb,hK2.cell T1.2.2.1 (HVN.out _ rfl),hK2.cell T1.2.2.2 (HVN.out _ rfl)⟩)
  | fail)
 have HN2:=hide (And.intro hW2 (And.intro hV2 (And.intro hV3 hK2)));clear hW2 hV2 hV3 hK2;have hb2:Pk w2 b r z v:=HMA.out.pk.kept HN2.out.2.2.2 HMA.out.vb;have f21:=hb2.fz 1;have c21:=hb2.c1;have HP3:=hide (hb2.set1 z1);have hst:Kp (only b) w2 (w2.setCell ⟨b,1,none⟩ (.int .i64 z1)):=Kp.setCell _ _ _ _ rfl;have HQ3:Hid (Pq (w2.setCell ⟨b,1,none⟩ (.int .i64 z1)) b v l):=(HMA.out.pq.kept HN2.out.2.2.2 HMA.out.vo).kept hst (fun g hg e=>by have:=(HMA.out.pq.o.lt g hg).1;unfold only at e;omega)
 have U3:(w2.setCell ⟨b,1,none⟩ (.int .i64 z1)).cell? ⟨w.heap.size,0,none⟩=some (.string k)/\(w2.setCell ⟨b,1,none⟩ (.int .i64 z1)).cell? ⟨w.heap.size,1,none⟩=some (.string u):=⟨hst.cell T2.2.2.1 (fun e=>by have:=HSB.out;unfold only at e;omega),hst.cell T2.2.2.2 (fun e=>by have:=HSB.out;unfold only at e;omega)⟩
 have U3d:(w2.setCell ⟨b,1,none⟩ (.int .i64 z1)).drew.cell? ⟨w.heap.size,0,none⟩=some (.string k)/\(w2.setCell ⟨b,1,none⟩ (.int .i64 z1)).drew.cell? ⟨w.heap.size,1,none⟩=some (.string u):=U3;have HST:=hide hst
 have HCP:Hid (Calls prog 34 #[.pointer (some ⟨b,2,none⟩),.string k] (w2.setCell ⟨b,1,none⟩ (.int .i64 z1)).drew fun e w'=>e=.returned (.bool BD)/\∃v',Pk w' b r z1 v'/\Pq w' b v' lD/\(∀g,v'.ownBlock=some g->v.ownBlock=some g\/(w2.setCell ⟨b,1,none⟩ (.int .i64 z1)).drew.heap.size<=g)/\Kp (only b) (w2.setCell ⟨b,1,none⟩ (.int .i64 z1)).drew w'):=by
  have hd:Kp none' (w2.setCell ⟨b,1,none⟩ (.int .i64 z1)) (w2.setCell ⟨b,1,none⟩ (.int .i64 z1)).drew:=Kp.drew _ _;have:=NW b r z1 v l k _ (HP3.out.kept hd (fun h=>h)) (HQ3.out.kept hd (fun _ _ h=>h)) hk hp;rw[HlD.out,HBD.out]at this;exact this
 clear hst hb2;go_upto_region 6 with fail;go_region_held_law (fun W=>W.cell? ⟨w.heap.size,0,none⟩=some (.string k)/\W.cell? ⟨w.heap.size,1,none⟩=some (.string u)) (first|assumption) (first
  | (go_at_call 34;refine HCP.out.mono ?_;rintro e w3 ⟨rfl,hn3⟩;obtain⟨v3,hpk3,hpq3,hog3,hK3⟩:=hn3;have U4:w3.cell? ⟨w.heap.size,0,none⟩=some (.string k)/\w3.cell? ⟨w.heap.size,1,none⟩=some (.string u):=⟨hK3.cell U3d.1 (fun e=>by have:=HSB.out;unfold only at e;omega),hK3.cell U3d.2 (fun e=>by have:=HSB.out;unfold only at e;omega)⟩)
  | fail)
 have HN3:=hide (And.intro hpk3 (And.intro hpq3 (And.intro hog3 hK3)));clear hpk3 hpq3 hog3 hK3;go_wp2;go_ret;obtain⟨hW2,hV2,hV3,hK2⟩:=HN2.out;obtain⟨hpk3,hpq3,hog3,hK3⟩:=HN3.out;have hM2:=HMA.out;have hKK:Kp V w w2:=(HKA.out.mono (fun _ _ h=>h.elim)).then hK2;have hK23:Kp (only b) w2 w3:=(HST.out.thenN (Kp.drew none' _)).then hK3;have hs2:=hK2.size;have hsA:=HKA.out.size;have hs3:=HST.out.size;have hvb2:¬V2 b:=fun e=>by
  rcases hV3 b e with e|e
  ·exact hM2.vb e
  ·have:=hM2.pk.lt;omega
 refine⟨by simp,V2,v3,⟨hpk3,hpq3,hW2.kept hK23 (fun j _ hj e=>hvb2 (by unfold only at e;rw[<-e];exact hj)),fun j hj=>PW (hV2 j hj) hK23.size,hvb2,fun g hg e=>?_⟩,⟨fun j hj=>?_,fun g hg=>?_,?_⟩⟩
 ·rcases hog3 g hg with h|h
  ·rcases hV3 g e with e|e
   ·exact hM2.vo g h e
   ·have:=(hM2.pq.o.lt g h).2;omega
  ·have h1:=hV2 g e;have h2:(w2.setCell ⟨b,1,none⟩ (.int .i64 z1)).heap.size<=g:=h;omega
 ·rcases hV3 j hj with e|e
  ·exact .inl e
  ·exact .inr (Nat.le_trans hsA e)
 ·rcases hog3 g hg with h|h
  ·exact .inl h
  ·have h2:(w2.setCell ⟨b,1,none⟩ (.int .i64 z1)).heap.size<=g:=h;exact .inr (by omega)
 ·exact hKK.trans hK23 (fun _ _ h=>.inl h) (fun j _ h=>.inr (by unfold only at h;exact h))
set_option maxRecDepth 100000 in
theorem LN(b r c n:Nat)(V:Nat->Prop)(S:Sw)(X pgs:List Int)(z:Int)(l:List Pr)(v:Value)(k u:ByteArray)(w:World)(hM:Sta w b r V c S z v l)(hT:Tre S n X z l pgs)(hk:k.size<=maxLen)(hu:u.size<=maxLen)(hp:l.length<=100000)(S1:Sw)(he:delTE S z k=8)(hb:delTB S z k=false)(hz:delTZ S z k=z)(hS:delTS S z k=S1) :
  Calls prog 18 #[.pointer (some ⟨b,0,none⟩),.agg #[.string k,.string u,.bool true]] w fun e w'=>e=.returned (.bool true)/\∃V' v',Sta w' b r V' c S1 z v' l/\StF w w' b V v V' v':=by
 obtain⟨O,HO⟩:∃O,Hid (Obj.cells #[Value.string k,Value.string u,Value.bool true] 47=O):=⟨_,rfl⟩;have hKA:Kp none' w (w.alloc (.cells #[.string k,.string u,.bool true] 47)):=Kp.alloc _ _ _;have hnew:=heap_alloc_new w (.cells #[.string k,.string u,.bool true] 47);have a0:(w.alloc (.cells #[.string k,.string u,.bool true] 47)).cell? ⟨w.heap.size,0,none⟩=some (.string k):=by rw[cell_of_row _ w.heap.size 0 _ 47 (0,0) hnew];rfl
 have a1:(w.alloc (.cells #[.string k,.string u,.bool true] 47)).cell? ⟨w.heap.size,1,none⟩=some (.string u):=by rw[cell_of_row _ w.heap.size 1 _ 47 (0,0) hnew];rfl
 have a2:(w.alloc (.cells #[.string k,.string u,.bool true] 47)).cell? ⟨w.heap.size,2,none⟩=some (.bool true):=by rw[cell_of_row _ w.heap.size 2 _ 47 (0,0) hnew];rfl
 clear hnew HO O;have HMA:=hide (hM.keptN (hKA.thenN (Kp.drew none' _)));have HVN:Hid (∀j,j=w.heap.size->¬V j):=fun j e h=>by have:=hM.vl j h;omega
 have HKA:=hide (hKA.thenN (Kp.drew none' _))
 have T1:(w.alloc (.cells #[.string k,.string u,.bool true] 47)).drew.cell? ⟨b,0,none⟩=some (.pointer (some ⟨r,0,none⟩))/\(w.alloc (.cells #[.string k,.string u,.bool true] 47)).drew.cell? ⟨b,1,none⟩=some (.int .i64 z)/\(w.alloc (.cells #[.string k,.string u,.bool true] 47)).drew.cell? ⟨w.heap.size,0,none⟩=some (.string k)/\(w.alloc (.cells #[.string k,.string u,.bool true] 47)).drew.cell? ⟨w.heap.size,1,none⟩=some (.string u):=⟨HMA.out.pk.c0,HMA.out.pk.c1,a0,a1⟩;have HSB:=hide hM.pk.lt;clear hKA
 have HC:Hid (Calls prog 23 #[.pointer (some ⟨r,0,none⟩),.int .i64 z,.string k] (w.alloc (.cells #[.string k,.string u,.bool true] 47)).drew fun e w'=>e=.returned (.tuple #[.int .i64 z,.bool false,.int .i64 8])/\Wn (w.alloc (.cells #[.string k,.string u,.bool true] 47)).drew w' r V c S1):=by
  have:=tdelS r c n V S X pgs z l k _ hT HMA.out.wk HMA.out.vl hk;rw[he,hb,hz,hS]at this;exact this
 clear hz hS he;clear hb;go_enter func18,ntmps18;go_upto_region 2 with fail;go_region_held_law (fun W=>W.cell? ⟨b,0,none⟩=some (.pointer (some ⟨r,0,none⟩))/\W.cell? ⟨b,1,none⟩=some (.int .i64 z)/\W.cell? ⟨w.heap.size,0,none⟩=some (.string k)/\W.cell? ⟨w.heap.size,1,none⟩=some (.string u)) (first|assumption) (first
  | (go_at_call 23;refine HC.out.mono ?_;rintro e w2 ⟨rfl,hn2⟩;obtain⟨V2,hW2,hV2,hV3,hK2⟩:=hn2;have T2:w2.cell? ⟨b,0,none⟩=some (.pointer (some ⟨r,0,none⟩))/\w2.cell? ⟨b,1,none⟩=some (.int .i64 z)/\w2.cell? ⟨w.heap.size,0,none⟩=some (.string k)/\w2.cell? ⟨w.heap.size,1,none⟩=some (.string u):=⟨hK2.cell T1.1 HMA.out.vb,hK2.cell T1.2.1 HMA.out.vb,hK2.cell T1.2.2.1 (HVN.out _ rfl),hK2.cell T1.2.2.2 (HVN.out _ rfl)⟩)
  | fail)
 have HN2:=hide (And.intro hW2 (And.intro hV2 (And.intro hV3 hK2)));clear hW2 hV2 hV3 hK2;obtain⟨t20,t21,t22,t23⟩:=T2;go_wp2;go_ret;obtain⟨hW2,hV2,hV3,hK2⟩:=HN2.out;have hKK:Kp V w w2:=(HKA.out.mono (fun _ _ h=>h.elim)).then hK2;have hM2:=HMA.out;refine⟨rfl,V2,v,⟨hM2.pk.kept hK2 hM2.vb,hM2.pq.kept hK2 hM2.vo,hW2,hV2,fun e=>?_,fun g hg e=>?_⟩,⟨fun j hj=>?_,fun g hg=>.inl hg,hKK.mono (fun _ _ h=>.inl h)⟩⟩
 ·rcases hV3 b e with e|e
  ·exact hM2.vb e
  ·have:=hM2.pk.lt;omega
 ·rcases hV3 g e with e|e
  ·exact hM2.vo g hg e
  ·have:=(hM2.pq.o.lt g hg).2;omega
 ·rcases hV3 j hj with e|e
  ·exact .inl e
  ·exact .inr (Nat.le_trans HKA.out.size e)
set_option maxRecDepth 100000 in
theorem LZ(b r c n:Nat)(V:Nat->Prop)(S:Sw)(X pgs:List Int)(z:Int)(l:List Pr)(v:Value)(k u:ByteArray)(w:World)(hM:Sta w b r V c S z v l)(hT:Tre S n X z l pgs)(hk:k.size<=maxLen)(hu:u.size<=maxLen)(hp:l.length<=100000)(hR:(okKey k&&decide (u.size<=40))=false)(he:putTE S z k u=1)(hz:putTZ S z k u=z)(hS:putTS S z k u=S) :
  Calls prog 18 #[.pointer (some ⟨b,0,none⟩),.agg #[.string k,.string u,.bool false]] w fun e w'=>e=.returned (.bool true)/\∃V' v',Sta w' b r V' c S z v' l/\StF w w' b V v V' v':=by
 obtain⟨O,HO⟩:∃O,Hid (Obj.cells #[Value.string k,Value.string u,Value.bool false] 47=O):=⟨_,rfl⟩;have hKA:Kp none' w (w.alloc (.cells #[.string k,.string u,.bool false] 47)):=Kp.alloc _ _ _;have hnew:=heap_alloc_new w (.cells #[.string k,.string u,.bool false] 47);have a0:(w.alloc (.cells #[.string k,.string u,.bool false] 47)).cell? ⟨w.heap.size,0,none⟩=some (.string k):=by rw[cell_of_row _ w.heap.size 0 _ 47 (0,0) hnew];rfl
 have a1:(w.alloc (.cells #[.string k,.string u,.bool false] 47)).cell? ⟨w.heap.size,1,none⟩=some (.string u):=by rw[cell_of_row _ w.heap.size 1 _ 47 (0,0) hnew];rfl
 have a2:(w.alloc (.cells #[.string k,.string u,.bool false] 47)).cell? ⟨w.heap.size,2,none⟩=some (.bool false):=by rw[cell_of_row _ w.heap.size 2 _ 47 (0,0) hnew];rfl
 clear hnew HO O;have HMA:=hide (hM.keptN (hKA.thenN (Kp.drew none' _)));have HVN:Hid (∀j,j=w.heap.size->¬V j):=fun j e h=>by have:=hM.vl j h;omega
 have HKA:=hide (hKA.thenN (Kp.drew none' _))
 have T1:(w.alloc (.cells #[.string k,.string u,.bool false] 47)).drew.cell? ⟨b,0,none⟩=some (.pointer (some ⟨r,0,none⟩))/\(w.alloc (.cells #[.string k,.string u,.bool false] 47)).drew.cell? ⟨b,1,none⟩=some (.int .i64 z)/\(w.alloc (.cells #[.string k,.string u,.bool false] 47)).drew.cell? ⟨w.heap.size,0,none⟩=some (.string k)/\(w.alloc (.cells #[.string k,.string u,.bool false] 47)).drew.cell? ⟨w.heap.size,1,none⟩=some (.string u):=⟨HMA.out.pk.c0,HMA.out.pk.c1,a0,a1⟩;have HSB:=hide hM.pk.lt
 clear hKA;have HC:Hid (Calls prog 24 #[.pointer (some ⟨r,0,none⟩),.int .i64 z,.string k,.string u] (w.alloc (.cells #[.string k,.string u,.bool false] 47)).drew fun e w'=>e=.returned (.tuple #[.int .i64 z,.int .i64 1])/\Wn (w.alloc (.cells #[.string k,.string u,.bool false] 47)).drew w' r V c S):=by
  have:=tputS r c n V S X pgs z l k u _ hT HMA.out.wk HMA.out.vl hk hu;rw[he,hz,hS]at this;exact this
 clear hz hS he;have HR:=hide hR;clear hR;go_enter func18,ntmps18;go_upto_region 7 with fail;go_region_held_law (fun W=>W.cell? ⟨b,0,none⟩=some (.pointer (some ⟨r,0,none⟩))/\W.cell? ⟨b,1,none⟩=some (.int .i64 z)/\W.cell? ⟨w.heap.size,0,none⟩=some (.string k)/\W.cell? ⟨w.heap.size,1,none⟩=some (.string u)) (first|assumption) (first
  | (go_at_call 24;refine HC.out.mono ?_;rintro e w2 ⟨rfl,hn2⟩;obtain⟨V2,hW2,hV2,hV3,hK2⟩:=hn2;have T2:w2.cell? ⟨b,0,none⟩=some (.pointer (some ⟨r,0,none⟩))/\w2.cell? ⟨b,1,none⟩=some (.int .i64 z)/\w2.cell? ⟨w.heap.size,0,none⟩=some (.string k)/\w2.cell? ⟨w.heap.size,1,none⟩=some (.string u):=⟨hK2.cell T1.1 HMA.out.vb,hK2.cell T1.2.1 HMA.out.vb,hK2.cell T1.2.2.1 (HVN.out _ rfl),hK2.cell T1.2.2.2 (HVN.out _ rfl)⟩)
  | fail)
 have HN2:=hide (And.intro hW2 (And.intro hV2 (And.intro hV3 hK2)));clear hW2 hV2 hV3 hK2;obtain⟨t20,t21,t22,t23⟩:=T2;go_wp2_with (first|(go_at_call 35;refine(CU k u w2).mono ?_;rintro e w' ⟨rfl,hw2'⟩;obtain rfl:=hw2'.symm;rw[HR.out])|fail);go_ret;obtain⟨hW2,hV2,hV3,hK2⟩:=HN2.out;have hKK:Kp V w w2:=(HKA.out.mono (fun _ _ h=>h.elim)).then hK2;have hM2:=HMA.out
 refine⟨rfl,V2,v,⟨hM2.pk.kept hK2 hM2.vb,hM2.pq.kept hK2 hM2.vo,hW2,hV2,fun e=>?_,fun g hg e=>?_⟩,⟨fun j hj=>?_,fun g hg=>.inl hg,hKK.mono (fun _ _ h=>.inl h)⟩⟩
 ·rcases hV3 b e with e|e
  ·exact hM2.vb e
  ·have:=hM2.pk.lt;omega
 ·rcases hV3 g e with e|e
  ·exact hM2.vo g hg e
  ·have:=(hM2.pq.o.lt g hg).2;omega
 ·rcases hV3 j hj with e|e
  ·exact .inl e
  ·exact .inr (Nat.le_trans HKA.out.size e)
set_option maxRecDepth 100000 in
theorem LL(b r c n:Nat)(V:Nat->Prop)(S:Sw)(X pgs:List Int)(z:Int)(l:List Pr)(v:Value)(k u:ByteArray)(w:World)(hM:Sta w b r V c S z v l)(hT:Tre S n X z l pgs)(hk:k.size<=maxLen)(hu:u.size<=maxLen)(hp:l.length<=100000)(S1:Sw)(hR:(okKey k&&decide (u.size<=40))=true)(he:putTE S z k u=8)(hz:putTZ S z k u=z)(hS:putTS S z k u=S1) :
  Calls prog 18 #[.pointer (some ⟨b,0,none⟩),.agg #[.string k,.string u,.bool false]] w fun e w'=>e=.returned (.bool true)/\∃V' v',Sta w' b r V' c S1 z v' l/\StF w w' b V v V' v':=by
 obtain⟨O,HO⟩:∃O,Hid (Obj.cells #[Value.string k,Value.string u,Value.bool false] 47=O):=⟨_,rfl⟩;have hKA:Kp none' w (w.alloc (.cells #[.string k,.string u,.bool false] 47)):=Kp.alloc _ _ _;have hnew:=heap_alloc_new w (.cells #[.string k,.string u,.bool false] 47);have a0:(w.alloc (.cells #[.string k,.string u,.bool false] 47)).cell? ⟨w.heap.size,0,none⟩=some (.string k):=by rw[cell_of_row _ w.heap.size 0 _ 47 (0,0) hnew];rfl
 have a1:(w.alloc (.cells #[.string k,.string u,.bool false] 47)).cell? ⟨w.heap.size,1,none⟩=some (.string u):=by rw[cell_of_row _ w.heap.size 1 _ 47 (0,0) hnew];rfl
 have a2:(w.alloc (.cells #[.string k,.string u,.bool false] 47)).cell? ⟨w.heap.size,2,none⟩=some (.bool false):=by rw[cell_of_row _ w.heap.size 2 _ 47 (0,0) hnew];rfl
 clear hnew HO O;have HMA:=hide (hM.keptN (hKA.thenN (Kp.drew none' _)));have HVN:Hid (∀j,j=w.heap.size->¬V j):=fun j e h=>by have:=hM.vl j h;omega
 have HKA:=hide (hKA.thenN (Kp.drew none' _))
 have T1:(w.alloc (.cells #[.string k,.string u,.bool false] 47)).drew.cell? ⟨b,0,none⟩=some (.pointer (some ⟨r,0,none⟩))/\(w.alloc (.cells #[.string k,.string u,.bool false] 47)).drew.cell? ⟨b,1,none⟩=some (.int .i64 z)/\(w.alloc (.cells #[.string k,.string u,.bool false] 47)).drew.cell? ⟨w.heap.size,0,none⟩=some (.string k)/\(w.alloc (.cells #[.string k,.string u,.bool false] 47)).drew.cell? ⟨w.heap.size,1,none⟩=some (.string u):=⟨HMA.out.pk.c0,HMA.out.pk.c1,a0,a1⟩;have HSB:=hide hM.pk.lt
 clear hKA;have HC:Hid (Calls prog 24 #[.pointer (some ⟨r,0,none⟩),.int .i64 z,.string k,.string u] (w.alloc (.cells #[.string k,.string u,.bool false] 47)).drew fun e w'=>e=.returned (.tuple #[.int .i64 z,.int .i64 8])/\Wn (w.alloc (.cells #[.string k,.string u,.bool false] 47)).drew w' r V c S1):=by
  have:=tputS r c n V S X pgs z l k u _ hT HMA.out.wk HMA.out.vl hk hu;rw[he,hz,hS]at this;exact this
 clear hz hS he;have HR:=hide hR;clear hR;go_enter func18,ntmps18;go_upto_region 7 with fail;go_region_held_law (fun W=>W.cell? ⟨b,0,none⟩=some (.pointer (some ⟨r,0,none⟩))/\W.cell? ⟨b,1,none⟩=some (.int .i64 z)/\W.cell? ⟨w.heap.size,0,none⟩=some (.string k)/\W.cell? ⟨w.heap.size,1,none⟩=some (.string u)) (first|assumption) (first
  | (go_at_call 24;refine HC.out.mono ?_;rintro e w2 ⟨rfl,hn2⟩;obtain⟨V2,hW2,hV2,hV3,hK2⟩:=hn2;have T2:w2.cell? ⟨b,0,none⟩=some (.pointer (some ⟨r,0,none⟩))/\w2.cell? ⟨b,1,none⟩=some (.int .i64 z)/\w2.cell? ⟨w.heap.size,0,none⟩=some (.string k)/\w2.cell? ⟨w.heap.size,1,none⟩=some (.string u):=⟨hK2.cell T1.1 HMA.out.vb,hK2.cell T1.2.1 HMA.out.vb,hK2.cell T1.2.2.1 (HVN.out _ rfl),hK2.cell T1.2.2.2 (HVN.out _ rfl)⟩)
  | fail)
 have HN2:=hide (And.intro hW2 (And.intro hV2 (And.intro hV3 hK2)));clear hW2 hV2 hV3 hK2;obtain⟨t20,t21,t22,t23⟩:=T2;go_wp2_with (first|(go_at_call 35;refine(CU k u w2).mono ?_;rintro e w' ⟨rfl,hw2'⟩;obtain rfl:=hw2'.symm;rw[HR.out])|fail);go_ret;obtain⟨hW2,hV2,hV3,hK2⟩:=HN2.out;have hKK:Kp V w w2:=(HKA.out.mono (fun _ _ h=>h.elim)).then hK2;have hM2:=HMA.out
 refine⟨rfl,V2,v,⟨hM2.pk.kept hK2 hM2.vb,hM2.pq.kept hK2 hM2.vo,hW2,hV2,fun e=>?_,fun g hg e=>?_⟩,⟨fun j hj=>?_,fun g hg=>.inl hg,hKK.mono (fun _ _ h=>.inl h)⟩⟩
 ·rcases hV3 b e with e|e
  ·exact hM2.vb e
  ·have:=hM2.pk.lt;omega
 ·rcases hV3 g e with e|e
  ·exact hM2.vo g hg e
  ·have:=(hM2.pq.o.lt g hg).2;omega
 ·rcases hV3 j hj with e|e
  ·exact .inl e
  ·exact .inr (Nat.le_trans HKA.out.size e)
set_option maxRecDepth 100000 in
theorem LX(b r c n:Nat)(V:Nat->Prop)(S:Sw)(X pgs:List Int)(z:Int)(l:List Pr)(v:Value)(k u:ByteArray)(w:World)(hM:Sta w b r V c S z v l)(hT:Tre S n X z l pgs)(hk:k.size<=maxLen)(hu:u.size<=maxLen)(hp:l.length<=100000)(S1:Sw)(z1:Int)(hR:(okKey k&&decide (u.size<=40))=true)(he:putTE S z k u=0)(hz:putTZ S z k u=z1)(hS:putTS S z k u=S1) :
  Calls prog 18 #[.pointer (some ⟨b,0,none⟩),.agg #[.string k,.string u,.bool false]] w fun e w'=>e=.returned (.bool true)/\∃V' v',Sta w' b r V' c S1 z1 v' (putL l k u)/\StF w w' b V v V' v':=by
 obtain⟨O,HO⟩:∃O,Hid (Obj.cells #[Value.string k,Value.string u,Value.bool false] 47=O):=⟨_,rfl⟩;have hKA:Kp none' w (w.alloc (.cells #[.string k,.string u,.bool false] 47)):=Kp.alloc _ _ _;have hnew:=heap_alloc_new w (.cells #[.string k,.string u,.bool false] 47);have a0:(w.alloc (.cells #[.string k,.string u,.bool false] 47)).cell? ⟨w.heap.size,0,none⟩=some (.string k):=by rw[cell_of_row _ w.heap.size 0 _ 47 (0,0) hnew];rfl
 have a1:(w.alloc (.cells #[.string k,.string u,.bool false] 47)).cell? ⟨w.heap.size,1,none⟩=some (.string u):=by rw[cell_of_row _ w.heap.size 1 _ 47 (0,0) hnew];rfl
 have a2:(w.alloc (.cells #[.string k,.string u,.bool false] 47)).cell? ⟨w.heap.size,2,none⟩=some (.bool false):=by rw[cell_of_row _ w.heap.size 2 _ 47 (0,0) hnew];rfl
 clear hnew HO O;have HMA:=hide (hM.keptN (hKA.thenN (Kp.drew none' _)));have HVN:Hid (∀j,j=w.heap.size->¬V j):=fun j e h=>by have:=hM.vl j h;omega
 have HKA:=hide (hKA.thenN (Kp.drew none' _))
 have T1:(w.alloc (.cells #[.string k,.string u,.bool false] 47)).drew.cell? ⟨b,0,none⟩=some (.pointer (some ⟨r,0,none⟩))/\(w.alloc (.cells #[.string k,.string u,.bool false] 47)).drew.cell? ⟨b,1,none⟩=some (.int .i64 z)/\(w.alloc (.cells #[.string k,.string u,.bool false] 47)).drew.cell? ⟨w.heap.size,0,none⟩=some (.string k)/\(w.alloc (.cells #[.string k,.string u,.bool false] 47)).drew.cell? ⟨w.heap.size,1,none⟩=some (.string u):=⟨HMA.out.pk.c0,HMA.out.pk.c1,a0,a1⟩;have HSB:=hide hM.pk.lt
 clear hKA;have HC:Hid (Calls prog 24 #[.pointer (some ⟨r,0,none⟩),.int .i64 z,.string k,.string u] (w.alloc (.cells #[.string k,.string u,.bool false] 47)).drew fun e w'=>e=.returned (.tuple #[.int .i64 z1,.int .i64 0])/\Wn (w.alloc (.cells #[.string k,.string u,.bool false] 47)).drew w' r V c S1):=by
  have:=tputS r c n V S X pgs z l k u _ hT HMA.out.wk HMA.out.vl hk hu;rw[he,hz,hS]at this;exact this
 clear hz hS he;have HR:=hide hR;clear hR;go_enter func18,ntmps18;go_upto_region 7 with fail;go_region_held_law (fun W=>W.cell? ⟨b,0,none⟩=some (.pointer (some ⟨r,0,none⟩))/\W.cell? ⟨b,1,none⟩=some (.int .i64 z)/\W.cell? ⟨w.heap.size,0,none⟩=some (.string k)/\W.cell? ⟨w.heap.size,1,none⟩=some (.string u)) (first|assumption) (first
  | (go_at_call 24;refine HC.out.mono ?_;rintro e w2 ⟨rfl,hn2⟩;obtain⟨V2,hW2,hV2,hV3,hK2⟩:=hn2;have T2:w2.cell? ⟨b,0,none⟩=some (.pointer (some ⟨r,0,none⟩))/\w2.cell? ⟨b,1,none⟩=some (.int .i64 z)/\w2.cell? ⟨w.heap.size,0,none⟩=some (.string k)/\w2.cell? ⟨w.heap.size,1,none⟩=some (.string u):=⟨hK2.cell T1.1 HMA.out.vb,hK2.cell T1.2.1 HMA.out.vb,hK2.cell T1.2.2.1 (HVN.out _ rfl),hK2.cell T1.2.2.2 (HVN.out _ rfl)⟩)
  | fail)
 have HN2:=hide (And.intro hW2 (And.intro hV2 (And.intro hV3 hK2)));clear hW2 hV2 hV3 hK2;have hb2:Pk w2 b r z v:=HMA.out.pk.kept HN2.out.2.2.2 HMA.out.vb;have f21:=hb2.fz 1;have c21:=hb2.c1;have HP3:=hide (hb2.set1 z1);have hst:Kp (only b) w2 (w2.setCell ⟨b,1,none⟩ (.int .i64 z1)):=Kp.setCell _ _ _ _ rfl;have HQ3:Hid (Pq (w2.setCell ⟨b,1,none⟩ (.int .i64 z1)) b v l):=(HMA.out.pq.kept HN2.out.2.2.2 HMA.out.vo).kept hst (fun g hg e=>by have:=(HMA.out.pq.o.lt g hg).1;unfold only at e;omega)
 have U3:(w2.setCell ⟨b,1,none⟩ (.int .i64 z1)).cell? ⟨w.heap.size,0,none⟩=some (.string k)/\(w2.setCell ⟨b,1,none⟩ (.int .i64 z1)).cell? ⟨w.heap.size,1,none⟩=some (.string u):=⟨hst.cell T2.2.2.1 (fun e=>by have:=HSB.out;unfold only at e;omega),hst.cell T2.2.2.2 (fun e=>by have:=HSB.out;unfold only at e;omega)⟩
 have U3d:(w2.setCell ⟨b,1,none⟩ (.int .i64 z1)).drew.cell? ⟨w.heap.size,0,none⟩=some (.string k)/\(w2.setCell ⟨b,1,none⟩ (.int .i64 z1)).drew.cell? ⟨w.heap.size,1,none⟩=some (.string u):=U3;have HST:=hide hst
 have HCP:Hid (Calls prog 36 #[.pointer (some ⟨b,2,none⟩),.string k,.string u] (w2.setCell ⟨b,1,none⟩ (.int .i64 z1)).drew fun e w'=>e=.returned (.tuple #[])/\∃v',Pk w' b r z1 v'/\Pq w' b v' (putL l k u)/\(∀g,v'.ownBlock=some g->v.ownBlock=some g\/(w2.setCell ⟨b,1,none⟩ (.int .i64 z1)).drew.heap.size<=g)/\Kp (only b) (w2.setCell ⟨b,1,none⟩ (.int .i64 z1)).drew w'):=by
  have hd:Kp none' (w2.setCell ⟨b,1,none⟩ (.int .i64 z1)) (w2.setCell ⟨b,1,none⟩ (.int .i64 z1)).drew:=Kp.drew _ _;refine(Oa b r z1 v l k u _ (HP3.out.kept hd (fun h=>h)) (HQ3.out.kept hd (fun _ _ h=>h)) hk hu hp (O8 HQ3.out.asc k u)).mono ?_;rintro e w' ⟨h1,v',h2,h3,h4,h5⟩;exact⟨h1,v',h2,h3,fun g hg=>.inr (h4 g hg),h5⟩
 clear hst hb2;have t22:=T2.2.2.1;have t23:=T2.2.2.2;go_upto_region 13 with (first|(go_at_call 35;refine(CU k u w2).mono ?_;rintro e w' ⟨rfl,hw2'⟩;obtain rfl:=hw2'.symm;rw[HR.out])|fail);go_region_held_law (fun W=>W.cell? ⟨w.heap.size,0,none⟩=some (.string k)/\W.cell? ⟨w.heap.size,1,none⟩=some (.string u)) (first|assumption) (first
  | (go_at_call 36;refine HCP.out.mono ?_;rintro e w3 ⟨rfl,hn3⟩;obtain⟨v3,hpk3,hpq3,hog3,hK3⟩:=hn3;have U4:w3.cell? ⟨w.heap.size,0,none⟩=some (.string k)/\w3.cell? ⟨w.heap.size,1,none⟩=some (.string u):=⟨hK3.cell U3d.1 (fun e=>by have:=HSB.out;unfold only at e;omega),hK3.cell U3d.2 (fun e=>by have:=HSB.out;unfold only at e;omega)⟩)
  | fail)
 have HN3:=hide (And.intro hpk3 (And.intro hpq3 (And.intro hog3 hK3)));clear hpk3 hpq3 hog3 hK3;go_wp2;go_ret;obtain⟨hW2,hV2,hV3,hK2⟩:=HN2.out;obtain⟨hpk3,hpq3,hog3,hK3⟩:=HN3.out;have hM2:=HMA.out;have hKK:Kp V w w2:=(HKA.out.mono (fun _ _ h=>h.elim)).then hK2;have hK23:Kp (only b) w2 w3:=(HST.out.thenN (Kp.drew none' _)).then hK3;have hs2:=hK2.size;have hsA:=HKA.out.size;have hs3:=HST.out.size;have hvb2:¬V2 b:=fun e=>by
  rcases hV3 b e with e|e
  ·exact hM2.vb e
  ·have:=hM2.pk.lt;omega
 refine⟨rfl,V2,v3,⟨hpk3,hpq3,hW2.kept hK23 (fun j _ hj e=>hvb2 (by unfold only at e;rw[<-e];exact hj)),fun j hj=>PW (hV2 j hj) hK23.size,hvb2,fun g hg e=>?_⟩,⟨fun j hj=>?_,fun g hg=>?_,?_⟩⟩
 ·rcases hog3 g hg with h|h
  ·rcases hV3 g e with e|e
   ·exact hM2.vo g h e
   ·have:=(hM2.pq.o.lt g h).2;omega
  ·have h1:=hV2 g e;have h2:(w2.setCell ⟨b,1,none⟩ (.int .i64 z1)).heap.size<=g:=h;omega
 ·rcases hV3 j hj with e|e
  ·exact .inl e
  ·exact .inr (Nat.le_trans hsA e)
 ·rcases hog3 g hg with h|h
  ·exact .inl h
  ·have h2:(w2.setCell ⟨b,1,none⟩ (.int .i64 z1)).heap.size<=g:=h;exact .inr (by omega)
 ·exact hKK.trans hK23 (fun _ _ h=>.inl h) (fun j _ h=>.inr (by unfold only at h;exact h))
def Nk(w w':World)(b r c n:Nat)(V:Nat->Prop)(S:Sw)(X:List Int)(v:Value)(l:List Pr):Prop:=∃V' S' z' v' l' pgs',Sta w' b r V' c S' z' v' l'/\Tre S' n X z' l' pgs'/\(∀y∈X,vS S' y=vS S y)/\l'.length<=l.length+1/\StF w w' b V v V' v'
theorem Ds(b r c n:Nat)(V:Nat->Prop)(S:Sw)(X pgs:List Int)(z:Int)(l:List Pr)(v:Value)(k u:ByteArray)(g:Bool)(w:World)(hM:Sta w b r V c S z v l)(hT:Tre S n X z l pgs)(hk:k.size<=maxLen)(hu:u.size<=maxLen)(hp:l.length<=100000) :
  Calls prog 18 #[.pointer (some ⟨b,0,none⟩),.agg #[.string k,.string u,.bool g]] w fun e w'=>e=.returned (.bool true)/\Nk w w' b r c n V S X v l:=by
 cases g with
 | true =>
  obtain⟨hx,h⟩:=H9 hT k;rcases h with ⟨e,eb,pgs',t⟩|⟨e,eb,ez,t⟩
  ·refine(LK b r c n V S X pgs z l v k u w hM hT hk hu hp _ _ e eb rfl rfl).mono ?_;rintro e w' ⟨h1,V',v',h2,h3⟩;refine⟨h1,V',_,_,v',_,pgs',h2,t,hx,?_,h3⟩;split
   ·have:=No l k;omega
   ·omega
  ·refine(LN b r c n V S X pgs z l v k u w hM hT hk hu hp _ e eb ez rfl).mono ?_;rintro e w' ⟨h1,V',v',h2,h3⟩;exact⟨h1,V',_,_,v',_,pgs,h2,t,hx,by omega,h3⟩
 | false =>
  cases hR:(okKey k&&decide (u.size<=40)) with
  | false =>
   have hA:argE k u=true:=by
    unfold okKey at hR;unfold argE;rw[decide_eq_true_iff];rw[<-Bool.decide_and,decide_eq_false_iff_not]at hR;omega
   have e1:putTE S z k u=1:=by unfold putTE;rw[hA,if_pos rfl]
   have e2:putTZ S z k u=z:=by unfold putTZ;rw[hA,if_pos rfl]
   have e3:putTS S z k u=S:=by unfold putTS;rw[hA,if_pos rfl]
   refine(LZ b r c n V S X pgs z l v k u w hM hT hk hu hp hR e1 e2 e3).mono ?_;rintro e w' ⟨h1,V',v',h2,h3⟩;exact⟨h1,V',_,_,v',_,pgs,h2,hT,fun _ _=>rfl,by omega,h3⟩
  | true =>
   have hR':=Bool.and_eq_true_iff.1 hR;obtain⟨hx,h⟩:=Hw hT k u hR'.1 (of_decide_eq_true hR'.2);rcases h with ⟨e,pgs',t⟩|⟨e,ez,t⟩
   ·refine(LX b r c n V S X pgs z l v k u w hM hT hk hu hp _ _ hR e rfl rfl).mono ?_;rintro e w' ⟨h1,V',v',h2,h3⟩;exact⟨h1,V',_,_,v',_,pgs',h2,t,hx,MT l k u,h3⟩
   ·refine(LL b r c n V S X pgs z l v k u w hM hT hk hu hp _ hR e ez rfl).mono ?_;rintro e w' ⟨h1,V',v',h2,h3⟩;exact⟨h1,V',_,_,v',_,pgs,h2,t,hx,by omega,h3⟩
def pgT(n:Int):Nat:=1+(n%18446744073709551616%160).toNat
theorem DA(n:Int):1<=pgT n/\pgT n<=160:=by unfold pgT;omega
theorem Bq(n:Int)(w:World):Calls prog 11 #[.int .i64 n] w fun e w'=>e=.returned (.int .i64 (pgT n:Int))/\w'=w:=by
 go_enter func11,ntmps11;go_wp2;go_ret;refine⟨reti ?_,rfl⟩;have e:IntKind.u64.wrap n=n%18446744073709551616:=by rfl
 rw[e,Int.tmod_eq_emod_of_nonneg (by omega)];unfold pgT wrap64;omega
set_option maxRecDepth 100000 in
theorem Bc(a:Option Addr)(n c:Nat)(w:World)(h1:n<=c)(h2:c<=maxLen):Calls prog 12 #[.slice a n c] w fun e w'=>e=.returned (.slice a (min n 250) c)/\w'=w:=by
 unfold maxLen at h2;have e1:(min (n:Int) 250).toNat=min n 250:=by omega
 go_enter func12,ntmps12;go_wp2;go_ret;refine⟨?_,rfl⟩;first|rfl|(rw[<-e1];rfl)
structure Top where
 k:ByteArray
 v:ByteArray
 g:Bool
def Tops(B:Nat)(w:World)(v:Value)(l:List Top):Prop :=
 ∃a c,v=.slice a l.length c/\l.length<=c/\c<=maxLen/\∀i (h:i<l.length),∃b off,a=some ⟨b,off,none⟩/\b<B/\w.cell? ⟨b,off+i*3,none⟩=some (.string l[i].k)/\w.cell? ⟨b,off+i*3+1,none⟩=some (.string l[i].v)/\w.cell? ⟨b,off+i*3+2,none⟩=some (.bool l[i].g)/\l[i].k.size<=maxLen/\l[i].v.size<=maxLen
theorem Tops.keptN{B:Nat}{w w':World}{v:Value}{l:List Top}(h:Tops B w v l)(hk:Kp none' w w'):Tops B w' v l:=by
 obtain⟨a,c,rfl,h1,h2,h3⟩:=h;refine⟨a,c,rfl,h1,h2,fun i hi=>?_⟩;obtain⟨b,off,e,hb,c0,c1,c2,c3,c4⟩:=h3 i hi;exact⟨b,off,e,hb,hk.cell c0 (fun h=>h),hk.cell c1 (fun h=>h),hk.cell c2 (fun h=>h),c3,c4⟩
theorem Tops.mono{B B':Nat}{w:World}{v:Value}{l:List Top}(h:Tops B w v l)(hB:B<=B'):Tops B' w v l:=by
 obtain⟨a,c,rfl,h1,h2,h3⟩:=h;refine⟨a,c,rfl,h1,h2,fun i hi=>?_⟩;obtain⟨b,off,e,hb,hr⟩:=h3 i hi;exact⟨b,off,e,by omega,hr⟩
theorem Tops.early{B:Nat}{w:World}{a:Option Addr}{len cap:Nat}{l:List Top}(h:Tops B w (.slice a len cap) l):∃l2:List Top,Tops B w (.slice a (min len 250) cap) l2/\l2.length=min len 250/\len<=cap/\cap<=maxLen:=by
 obtain⟨a',c',e,h1,h2,h3⟩:=h;cases e
 have hl:(l.take (min l.length 250)).length=min l.length 250:=by rw[List.length_take];omega
 refine⟨l.take (min l.length 250),⟨a,cap,by rw[hl],by omega,h2,fun i hi=>?_⟩,hl,h1,h2⟩;obtain⟨b,off,e,hb,hr⟩:=h3 i (by omega);rw[List.getElem_take];exact⟨b,off,e,hb,hr⟩
set_option maxRecDepth 100000 in
theorem Bo(w:World):Calls prog 9 #[] w fun e w'=>e=.returned (.bool true)/\Kp none' w w':=by
 have hfr:=CG 4 w (by omega) (by omega);rw[show (((4:Nat):Int))=4 from rfl]at hfr;have HFR:=hide hfr;clear hfr;obtain⟨S1,S2,S3,z1,z2,z3,e1,f1,g1,n1,l1,o1,e2,f2,g2,n2,l2,o2,e3,b3,f3,g3,q1,q2⟩:=IC ⟨#[97]⟩ ⟨#[98]⟩ ⟨#[49]⟩ ⟨#[50]⟩ rfl rfl rfl rfl;have hsm:∀x:UInt8,(⟨#[x]⟩:ByteArray).size<=maxLen:=fun x=>by show 1<=maxLen;unfold maxLen;omega
 have HP1:Hid (∀(W:World) (r:Nat) (V:Nat->Prop) (c:Nat),Wk W r V c 0 (sw0 4)->(∀k,V k->w.heap.size<=k/\k<W.heap.size)->Kp none' w W->Calls prog 24 #[.pointer (some ⟨r,0,none⟩),.int .i64 0,.string ⟨#[97]⟩,.string ⟨#[49]⟩] W fun e w'=>e=.returned (.tuple #[.int .i64 z1,.int .i64 0])/\∃V',Wk w' r V' c 0 S1/\(∀k,V' k->w.heap.size<=k/\k<w'.heap.size)/\Kp none' w w'):=fun W r V c hW hV hk=>by
  have:=Fx r c 0 V (sw0 4) 0 ⟨#[97]⟩ ⟨#[49]⟩ W hW (fun k h=>(hV k h).2) (by omega) ⟨by omega,by omega⟩ (hsm _) (hsm _) (by show (zeroP 4).length<=1000;rw[Eo];omega);rw[e1,f1,g1]at this;refine this.mono ?_;rintro e w' ⟨rfl,h1,h2⟩;obtain⟨V',a1,a2,a3,a4⟩:=Ky h1 n1 h2 (fun k h=>(hV k h).2);refine⟨rfl,V',a1,fun k h=>⟨?_,a2 k h⟩,hk.trans a4 (fun _ _ h=>h) (fun k hk h=>absurd (hV k h).1 (by omega))⟩;rcases a3 k h with h|h
  ·exact(hV k h).1
  ·exact Nat.le_trans hk.size h
 have HP2:Hid (∀(W:World) (r:Nat) (V:Nat->Prop) (c:Nat),Wk W r V c 0 S1->(∀k,V k->w.heap.size<=k/\k<W.heap.size)->Kp none' w W->Calls prog 24 #[.pointer (some ⟨r,0,none⟩),.int .i64 z1,.string ⟨#[98]⟩,.string ⟨#[50]⟩] W fun e w'=>e=.returned (.tuple #[.int .i64 z2,.int .i64 0])/\∃V',Wk w' r V' c 0 S2/\(∀k,V' k->w.heap.size<=k/\k<w'.heap.size)/\Kp none' w w'):=fun W r V c hW hV hk=>by
  have:=Fx r c 0 V S1 z1 ⟨#[98]⟩ ⟨#[50]⟩ W hW (fun k h=>(hV k h).2) (by omega) o1 (hsm _) (hsm _) l1;rw[e2,f2,g2]at this;refine this.mono ?_;rintro e w' ⟨rfl,h1,h2⟩;obtain⟨V',a1,a2,a3,a4⟩:=Ky h1 n2 h2 (fun k h=>(hV k h).2);refine⟨rfl,V',a1,fun k h=>⟨?_,a2 k h⟩,hk.trans a4 (fun _ _ h=>h) (fun k hk h=>absurd (hV k h).1 (by omega))⟩;rcases a3 k h with h|h
  ·exact(hV k h).1
  ·exact Nat.le_trans hk.size h
 have HP3:Hid (∀(W:World) (r:Nat) (V:Nat->Prop) (c:Nat),Wk W r V c 0 S2->(∀k,V k->w.heap.size<=k/\k<W.heap.size)->Kp none' w W->Calls prog 23 #[.pointer (some ⟨r,0,none⟩),.int .i64 z2,.string ⟨#[97]⟩] W fun e w'=>e=.returned (.tuple #[.int .i64 z3,.bool true,.int .i64 0])/\∃V',Wk w' r V' c 4000 S3/\(∀k,V' k->k<w'.heap.size)/\Kp none' w w'):=fun W r V c hW hV hk=>by
  have:=EM r c 0 V S2 z2 ⟨#[97]⟩ W hW (fun k h=>(hV k h).2) (by omega) o2 (hsm _) l2;rw[e3,b3,f3,g3]at this;refine this.mono ?_;rintro e w' ⟨rfl,h1,h2⟩;refine⟨rfl,fun k=>(V k\/W.heap.size<=k)/\k<w'.heap.size,h1.mono (fun k h3 h4=>⟨h4,h3⟩) (by omega),fun k h=>h.2,hk.trans h2 (fun _ _ h=>h) (fun k hk h=>absurd (hV k h).1 (by omega))⟩
 have HG:Hid (∀(W:World) (r:Nat) (V:Nat->Prop) (c:Nat),Wk W r V c 4000 S3->(∀k,V k->k<W.heap.size)->Calls prog 13 #[.pointer (some ⟨r,0,none⟩),.int .i64 z3,.string ⟨#[98]⟩] W fun e w'=>e=.returned (.tuple #[.string ⟨#[50]⟩,.bool true,.int .i64 0])/\Kp none' W w'):=fun W r V c hW hV=>by
  have:=IA r c 4000 V S3 ⟨#[98]⟩ z3 W hW hV;rw[q1]at this;exact this
 have HS:Hid (∀(W:World) (r:Nat) (V:Nat->Prop) (c:Nat),Wk W r V c 4000 S3->(∀k,V k->k<W.heap.size)->Calls prog 19 #[.pointer (some ⟨r,0,none⟩),.int .i64 z3] W fun e w'=>e=.returned (.tuple #[.int .i64 1,.int .i64 1,.bool true])/\Kp none' W w'):=fun W r V c hW hV=>by
  have:=FE r c 4000 V S3 z3 W hW hV;rw[q2]at this;exact this
 clear e1 f1 g1 n1 l1 o1 e2 f2 g2 n2 l2 o2 e3 b3 f3 g3 q1 q2 hsm;go_enter func9,ntmps9;go_upto_region 4 with (first
  | (go_at_call 17;refine HFR.out.mono ?_;rintro e w1 ⟨r,V,c,rfl,hW1,hV1,hk1⟩)
  | fail)
 go_upto_region 5 with (first
  | (go_at_call 24;refine(HP1.out w1 r V c hW1 hV1 hk1).mono ?_;rintro e w2 ⟨rfl,V2,hW2,hV2,hk2⟩)
  | fail)
 go_upto_region 6 with (first
  | (go_at_call 24;refine(HP2.out w2 r V2 c hW2 hV2 hk2).mono ?_;rintro e w3 ⟨rfl,V3,hW3,hV3,hk3⟩)
  | fail)
 go_wp2_with (first
  | (go_at_call 23;refine(HP3.out w3 r V3 c hW3 hV3 hk3).mono ?_;rintro e w4 ⟨rfl,V4,hW4,hV4,hk4⟩)
  | (go_at_call 13;refine(HG.out w4 r V4 c hW4 hV4).mono ?_;rintro e w5 ⟨rfl,hk5⟩)
  | (go_at_call 19;refine(HS.out w5 r V4 c (hW4.keptN hk5) (fun k h=>PW (hV4 k h) hk5.size)).mono ?_;rintro e w6 ⟨rfl,hk6⟩)
  | fail)
 go_ret;exact⟨rfl,(hk4.thenN hk5).thenN hk6⟩
def Jd(w w':World)(n b:Nat):Prop:=∃r V c S z v l pgs,Sta w' b r V c S z v l/\Tre S n [] z l pgs/\l.length<=250/\w.heap.size<=b/\(∀k,V k->w.heap.size<=k)/\Kp none' w w'
theorem G4{w w1:World}{r c n:Nat}{V:Nat->Prop}(hW:Wk w1 r V c 0 (sw0 n))(hV:∀k,V k->w.heap.size<=k/\k<w1.heap.size):Sta (w1.alloc (.cells #[.pointer (some ⟨r,0,none⟩),.int .i64 0,.slice none 0 0] 37)) w1.heap.size r V c (sw0 n) 0 (.slice none 0 0) []:=by
 have hk:Kp none' w1 (w1.alloc (.cells #[.pointer (some ⟨r,0,none⟩),.int .i64 0,.slice none 0 0] 37)):=Kp.alloc _ _ _;refine⟨heap_alloc_new w1 _,⟨OwP.nil _ _,List.Pairwise.nil,fun p hp=>by cases hp⟩,hW.keptN hk,fun k h=>PW (hV k h).2 hk.size,fun h=>by have:=(hV _ h).2;omega,fun g hg=>by cases hg⟩
set_option maxRecDepth 100000 in
theorem BT(n:Nat)(v0:Value)(L:List Top)(w:World)(h1:1<=n)(h2:n<=160)(hO:Tops w.heap.size w v0 L)(hL:L.length<=250) :
  Calls prog 10 #[.int .i64 (n:Int),v0] w fun e w'=>∃b,e=.returned (.tuple #[.pointer (some ⟨b,0,none⟩),.bool true])/\Jd w w' n b:=by
 have HFR:=hide (CG n w h1 h2);have HT0:=hide (Dj n h1 h2);obtain⟨a,c0,rfl,hlc,hcm,ha⟩:=hO;unfold maxLen at hcm;have HA:=hide ha;clear ha;go_enter func10,ntmps10;go_upto_region 2 with (first
  | (go_at_call 17;refine HFR.out.mono ?_;rintro e w1 ⟨r,V,c,rfl,hW1,hV1,hk1⟩)
  | fail)
 have hM:=G4 hW1 hV1;have hKA:Kp none' w (w1.alloc (.cells #[.pointer (some ⟨r,0,none⟩),.int .i64 0,.slice none 0 0] 37)):=hk1.thenN (Kp.alloc _ _ _);have p0:=hM.pk.c0;have HM:=hide hM;have HV1:=hide hV1;have HB:=hide hk1.size;clear hM hW1 hV1;go_wp2;obtain⟨wB,HwB⟩:∃q,Hid (w1.alloc (.cells #[.pointer (some ⟨r,0,none⟩),.int .i64 0,.slice none 0 0] 37)=q):=⟨_,rfl⟩;obtain⟨b,Hb⟩:∃q,Hid (w1.heap.size=q):=⟨_,rfl⟩;rw[HwB.out]at HM hKA p0 |-;rw[Hb.out]at HM HB p0 |-;clear HwB
 go_loopw [7] (fun u wr=>∃j:Nat,j<=L.length/\u=.int .i64 j/\Hid (∃V S z v l pgs,Sta wr b r V c S z v l/\Tre S n [] z l pgs/\l.length<=j/\∀k,V k->w.heap.size<=k)/\Kp none' w wr) (fun u _=>L.length - (intOf u).toNat)
 case atStart=>exact⟨0,Nat.zero_le _,rfl,hide ⟨V,_,_,_,_,_,HM.out,HT0.out,Nat.le_refl _,fun k h=>(HV1.out k h).1⟩,hKA⟩
 case round =>
  obtain⟨j,hj,rfl,HI,hK⟩:=hrel;obtain⟨V2,S,z,v,l,pgs,hM,hT,hl,hV⟩:=HI.out;by_cases hlt:j<L.length
  ·obtain⟨b',o,rfl,_,q0,q1,q2,s0,s1⟩:=HA.out j hlt;have q0:=hK.cell q0 (fun h=>h);have q1:=hK.cell q1 (fun h=>h);have q2:=hK.cell q2 (fun h=>h);have hlt':(j:Int)<(L.length:Int):=by omega
   generalize L[j]=y at *;have HS:=hide (Ds b r c n V2 S [] pgs z l v y.k y.v y.g wr hM hT s0 s1 (by omega));have HL:=hide hl;have HV:=hide hV;clear hM hT hl hV HI;go_wp2_with (first
    | (go_at_call 18;refine HS.out.mono ?_;rintro e w2 ⟨rfl,hpost⟩)
    | fail)
   obtain⟨V',S',z',v',l',pgs',g1,g2,_,g4,g5⟩:=hpost;have hv':∀k,V' k->w.heap.size<=k:=fun k h=>by
    rcases g5.v1 k h with h|h
    ·exact HV.out k h
    ·exact Nat.le_trans hK.size h
   have hK2:Kp none' w w2:=hK.trans g5.k1 (fun _ _ h=>h) (fun k hk h=>by
    rcases h with h|h
    ·exact absurd (HV.out k h) (by omega)
    ·have:=HB.out;omega)
   have HE:Hid (∃V S z v l pgs,Sta w2 b r V c S z v l/\Tre S n [] z l pgs/\l.length<=j+1/\∀k,V k->w.heap.size<=k):=⟨V',S',z',v',l',pgs',g1,g2,by have:=HL.out;omega,hv'⟩;clear g1 g2 g4 g5 hv';go_roundw
   case rel=>exact⟨j+1,by omega,by go_num,HE,hK2⟩
   case measure=>simp[intOf];omega
  ·have hlt':¬(j:Int)<(L.length:Int):=by omega
   have HE:Hid (Jd w wr n b):=⟨r,V2,c,S,z,v,l,pgs,hM,hT,by omega,HB.out,hV,hK⟩;clear hM hT hl hV HI;go_wp2;go_ret2;exact⟨b,rfl,HE.out⟩
theorem all_in(l:List Pr):l.filter (fun p=>inB p.k ⟨#[]⟩ ⟨#[]⟩)=l:=List.filter_eq_self.2 (fun p _=>B2 p.k)
theorem Sta.get{w:World}{b r:Nat}{V:Nat->Prop}{c n:Nat}{S:Sw}{X:List Int}{z:Int}{v:Value}{l:List Pr}{pgs:List Int}(h:Sta w b r V c S z v l)(hT:Tre S n X z l pgs)(key:ByteArray)(W:World)(hk:Kp none' w W) :
  Calls prog 13 #[.pointer (some ⟨r,0,none⟩),.int .i64 z,.string key] W fun e w'=>e=.returned (.tuple #[.string (if hasN l key then getL l key else ⟨#[]⟩),.bool (hasN l key),.int .i64 0])/\Kp none' W w':=by
 have hM:=h.keptN hk;have:=IA r c 0 V S key z W hM.wk hM.vl;rw[KW hT key]at this;cases hh:hasN l key with
 | true=>rw[hh]at this;exact this
 | false=>rw[hh]at this;exact this
theorem Sta.scan{w:World}{b r:Nat}{V:Nat->Prop}{c n:Nat}{S:Sw}{X:List Int}{z:Int}{v:Value}{l:List Pr}{pgs:List Int}(h:Sta w b r V c S z v l)(hT:Tre S n X z l pgs)(fr up:ByteArray)(W:World)(hk:Kp none' w W) :
  Calls prog 15 #[.pointer (some ⟨r,0,none⟩),.int .i64 z,.string fr,.string up] W fun e w'=>∃a m k,e=.returned (.tuple #[.slice a m k,.int .i64 0])/\OwP w' W.heap.size (.slice a m k) (l.filter (fun p=>inB p.k fr up))/\Kp none' W w':=by
 have hM:=h.keptN hk;have hs:=Ng hT fr up;refine(Na r c 0 V S fr up z W hM.wk hM.vl).mono ?_;rintro e w' ⟨x,rfl,h1,h2,h3⟩;rw[hs.1];rw[hs.2]at h1;obtain⟨a,m,e1,_⟩:=h1.prs;subst e1;exact⟨_,_,_,rfl,h1,h3⟩
theorem Sta.snd{w:World}{b r:Nat}{V:Nat->Prop}{c n:Nat}{S:Sw}{X:List Int}{z:Int}{v:Value}{l:List Pr}{pgs:List Int}(h:Sta w b r V c S z v l)(hT:Tre S n X z l pgs)(D:Nat)(hD:CC S z=((pgs.length:Int),(D:Int),true))(W:World)(hk:Kp none' w W) :
  Calls prog 19 #[.pointer (some ⟨r,0,none⟩),.int .i64 z] W fun e w'=>e=.returned (.tuple #[.int .i64 (pgs.length:Int),.int .i64 (D:Int),.bool true])/\Kp none' W w':=by
 have hM:=h.keptN hk;have:=FE r c 0 V S z W hM.wk hM.vl;rw[hD]at this;exact this
theorem Sta.used{w:World}{b r:Nat}{V:Nat->Prop}{c n:Nat}{S:Sw}{X:List Int}{z:Int}{v:Value}{l:List Pr}{pgs:List Int}(h:Sta w b r V c S z v l)(hT:Tre S n X z l pgs)(W:World)(hk:Kp none' w W) :
  Calls prog 20 #[.pointer (some ⟨r,0,none⟩)] W fun e w'=>e=.returned (.int .i64 (1+((pgs.length:Int)+(X.length:Int))))/\w'=W:=by
 have:=Dt r V c 0 S W (h.keptN hk).wk;rw[CQ hT]at this;have e:((1+(pgs.length+X.length):Nat):Int)=1+((pgs.length:Int)+(X.length:Int)):=by omega
 rw[e]at this;exact this
theorem Sta.pget{w:World}{b r:Nat}{V:Nat->Prop}{c:Nat}{S:Sw}{z:Int}{v:Value}{l:List Pr}(h:Sta w b r V c S z v l)(key:ByteArray)(hs:key.size<=maxLen)(W:World)(hk:Kp none' w W) :
  Calls prog 14 #[.pointer (some ⟨b,2,none⟩),.string key] W fun e w'=>e=.returned (.tuple #[.string (if hasN l key then getL l key else ⟨#[]⟩),.bool (hasN l key)])/\Kp none' W w':=by
 have hM:=h.keptN hk;exact M3 b v l key W (hM.pk.pz hM.pq) hs
theorem G0{S:Sw}{n:Nat}{X:List Int}{z:Int}{l:List Pr}{pgs:List Int}(h:Tre S n X z l pgs):pgs.length+X.length<=160:=by
 obtain⟨U,hT,hO,hX,hu⟩:=h.u;have h1:=CQ h;have h2:S.usedN<=n:=by
  unfold Sw.usedN;rw[hT.ov,hT.len];have:=List.length_filter_le (isU S.now) (List.range n);rw[List.length_range]at this;simpa using this
 have:=hT.l1;omega
theorem KU{S:Sw}{n:Nat}{X:List Int}{z:Int}{pgs:List Int}(h:Tre S n X z [] pgs):z=0/\pgs=[]:=by
 rcases h.ho with ⟨e,_,e2⟩|⟨d,f,ht,_,hp,_⟩
 ·exact⟨e,e2⟩
 ·have:=(deep d (z,f) _ _ ht).1;rw[hp]at this;have h2:=Nat.two_pow_pos d;simp only[List.length_nil]at this;omega
theorem Nl{l:List Pr}(h:Asc l){i:Nat}(hi:i<l.length):hasN (l.drop i) l[i].k=true/\cutP (l.drop i) l[i].k=l.drop (i+1):=by
 have e:l.drop i=[]++[l[i]]++l.drop (i+1):=by rw[List.drop_eq_getElem_cons hi];rfl
 have hp:(l.drop i).Pairwise (fun a b=>lessB a.k b.k=true):=h.sublist (List.drop_sublist i l);rw[List.drop_eq_getElem_cons hi]at hp;have hB:∀p∈l.drop (i+1),lessB l[i].k p.k=true:=(List.pairwise_cons.1 hp).1;have hA:∀p∈([]:List Pr),lessB p.k l[i].k=true:=fun p hp=>by cases hp
 have f1:findN [l[i]] l[i].k=0:=by unfold findN;simp[Az]
 have f2:hasN [l[i]] l[i].k=true:=by unfold hasN;rw[f1];simp
 have f3:behind [l[i]] l[i].k=1:=by unfold behind;rw[f2,f1];rfl
 constructor
 ·rw[e,D7 _ _ _ _ hA hB,f2]
 ·rw[e,IB _ _ _ _ hA hB];unfold cutP;rw[f1,f3];simp
theorem OM{l:List Pr}(h:Asc l){t:ByteArray}(ht:0<t.size):l.filter (fun p=>inB p.k ⟨#[]⟩ t)++l.filter (fun p=>inB p.k t ⟨#[]⟩)=l:=by
 obtain⟨A,C,e,hA,hC⟩:=Nz l h t;have h1:∀p:Pr,inB p.k ⟨#[]⟩ t=lessB p.k t:=fun p=>by
  have:=@Ay p.k ⟨#[]⟩ t;cases hh:lessB p.k t with
  | true=>exact this.2 ⟨Fz p.k,.inr hh⟩
  | false =>
   cases hi:inB p.k ⟨#[]⟩ t with
   | false=>rfl
   | true =>
    rcases (this.1 hi).2 with h|h
    ·omega
    ·rw[hh]at h;cases h
 have h2:∀p:Pr,inB p.k t ⟨#[]⟩=!lessB p.k t:=fun p=>by
  have:=@Ay p.k t ⟨#[]⟩;cases hh:lessB p.k t with
  | false=>exact this.2 ⟨hh,.inl rfl⟩
  | true =>
   cases hi:inB p.k t ⟨#[]⟩ with
   | false=>rfl
   | true=>have:=(this.1 hi).1;rw[hh]at this;cases this
 simp only[h1,h2];rw[e,List.filter_append,List.filter_append,List.filter_eq_self.2 hA,List.filter_eq_nil_iff.2 (fun p hp=>by rw[hC p hp];simp),List.append_nil,List.filter_eq_nil_iff.2 (fun p hp=>by rw[hA p hp];simp),List.nil_append,List.filter_eq_self.2 (fun p hp=>by rw[hC p hp];rfl)]
end Go.Proofs.YtjojffepakclcaaGreatDoor
