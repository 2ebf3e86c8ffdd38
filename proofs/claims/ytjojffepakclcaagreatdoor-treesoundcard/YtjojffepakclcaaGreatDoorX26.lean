/- Part of the proof: contracts over the turned program. -/
import Derived.Test.YtjojffepakclcaaGreatDoorX25
import Derived.Test.YtjojffepakclcaaGreatDoorX8
import Derived.Test.YtjojffepakclcaaGreatDoorX22
set_option linter.unusedVariables false
set_option maxHeartbeats 4000000
open Go.Proofs.Tryz
namespace Go.Proofs.YtjojffepakclcaaGreatDoor
open Go.RowKit
def zeroB(n:Nat):ByteArray:=⟨(List.replicate n 0).toArray⟩
theorem Jp:zeroB 256=fillB 0:=rfl
theorem Ip(n:Nat):Lib.repeatL [0] n=List.replicate n 0:=by
 induction n with
 | zero=>rfl
 | succ n ih=>show [0]++Lib.repeatL [0] n=_;rw[ih,List.replicate_succ];rfl
set_option maxRecDepth 100000 in
theorem Jr(n:Nat)(w:World)(hn:n<=1000):Calls prog 133 #[.int .i64 (n:Int)] w fun e w'=>e=.returned (.string (zeroB n))/\Kp none' w w':=by
 have hr:=strings_Repeat ⟨#[0]⟩ n w (by omega) (by show 1*n<=_;omega);have e:(⟨(Lib.repeatL (⟨#[0]⟩:ByteArray).data.toList n).toArray⟩:ByteArray)=zeroB n:=by
  show (⟨(Lib.repeatL [0] n).toArray⟩:ByteArray)=_;rw[Ip];rfl
 rw[e]at hr;obtain⟨Z,HZ⟩:∃Z,Hid (zeroB n=Z):=⟨_,rfl⟩;rw[HZ.out]at hr |-;go_enter func133,ntmps133;go_wp2_with (first
  | (go_at_call 132;refine hr.mono ?_;rintro e w' ⟨rfl,hb⟩)
  | fail)
 go_ret;exact⟨rfl,Kp.ofBelow hb⟩
theorem Wm.putPage{w:World}{r gP:Nat}{V:Nat->Prop}{c:Nat}{P:List ByteArray}{NL:List (List Chg)}(H:Wm w r gP V c P NL)(n:Nat)(x:ByteArray)(hn:n<P.length):Wm (w.setCell ⟨gP,n,none⟩ (.string x)) r gP V c (P.set n x) NL/\Kp (only gP) w (w.setCell ⟨gP,n,none⟩ (.string x)):=by
 have hp:=Put.set w gP n (.string x) _ (H.pageAt n hn).1;have hrg:¬only gP r:=fun e=>H.gg.2.2 (Eq.symm e);obtain⟨cN,b1,b2⟩:=H.c2;obtain⟨v,vs,d1,d2,d3,d4,d5,d6⟩:=H.c3
 refine⟨⟨hp.kp.cell H.c0 hrg,hp.kp.cell H.c1 hrg,⟨cN,by rw[List.length_set];exact hp.kp.cell b1 hrg,by rw[List.length_set];exact Ow.storedS b2 n x rfl⟩,⟨v,vs,hp.kp.cell d1 hrg,d2.kept hp.kp (fun k hk e=>(d3 k hk).2.2 e),d3,d4,fun i h h'=>⟨(d5 i h h').1.kept hp.kp (fun k hk e=>((d5 i h h').2 k hk).2.2.1 e),(d5 i h h').2⟩,d6⟩,fun j=>by rw[hp.fr];exact H.fr j,H.gg⟩,hp.kp⟩
theorem Wm.putNote{w w2:World}{r gP:Nat}{V:Nat->Prop}{c:Nat}{P:List ByteArray}{NL:List (List Chg)}(H:Wm w r gP V c P NL){gV nv cap:Nat}{vs:List Value}
  (d1:w.cell? ⟨r,3,none⟩=some (.slice (some ⟨gV,0,none⟩) nv cap)) (d2:Ow (fun x:Value=>x) 114 w 0 (.slice (some ⟨gV,0,none⟩) nv cap) vs) (d3:∀k,(Value.slice (some ⟨gV,0,none⟩) nv cap).ownBlock=some k->V k/\k≠r/\k≠gP) (d4:vs.length=NL.length)
  (d5:∀i (h:i<vs.length) (h':i<NL.length),OwC 153 w 0 vs[i] NL[i]/\∀k,vs[i].ownBlock=some k->V k/\k≠r/\k≠gP/\(Value.slice (some ⟨gV,0,none⟩) nv cap).ownBlock≠some k)
  (d6:∀i j (h:i<vs.length) (h':j<vs.length),i≠j->∀k,vs[i].ownBlock=some k->vs[j].ownBlock≠some k)
  (k:Nat) (hk:k<vs.length) {u:Value} {l:List Chg} (hO:OwC 153 w2 0 u l) (hK:Kp (fun b=>vs[k].ownBlock=some b) w w2) (hu:∀b,u.ownBlock=some b->vs[k].ownBlock=some b\/w.heap.size<=b) :
  Wm (w2.setCell ⟨gV,k,none⟩ u) r gP (fun b=>V b\/w.heap.size<=b) c P (NL.set k l)/\Kp V w (w2.setCell ⟨gV,k,none⟩ u):=by
 have hgV:=d3 gV rfl;have hkN:k<NL.length:=by omega
 have hvk:=(d5 k hk hkN).2;have hngV:¬vs[k].ownBlock=some gV:=fun e=>(hvk gV e).2.2.2 rfl;have hnr:¬vs[k].ownBlock=some r:=fun e=>(hvk r e).2.1 rfl;have hngP:¬vs[k].ownBlock=some gP:=fun e=>(hvk gP e).2.2.1 rfl;have hgVlt:gV<w.heap.size:=(d2.lt gV rfl).2;have d22:=d2.kept hK (fun b e=>by have e':gV=b:=Option.some.inj e;subst e';exact hngV);have hc:=d22.cellAt k hk;have hp:=Put.set w2 gV k u _ hc.1
 have KF:Kp (fun b=>b=gV\/vs[k].ownBlock=some b) w (w2.setCell ⟨gV,k,none⟩ u):=(hK.mono (fun b _ h=>.inr h)).then (hp.kp.mono (fun b _ e=>.inl e));have nr:¬(r=gV\/vs[k].ownBlock=some r):=fun e=>by
  rcases e with e|e
  ·exact hgV.2.1 e.symm
  ·exact hnr e
 have ngP:¬(gP=gV\/vs[k].ownBlock=some gP):=fun e=>by
  rcases e with e|e
  ·exact hgV.2.2 e.symm
  ·exact hngP e
 obtain⟨cN,b1,b2⟩:=H.c2;have hgPlt:gP<w.heap.size:=(b2.lt gP rfl).2;have hrlt:=H.lt;have hub:∀b,u.ownBlock=some b->(V b\/w.heap.size<=b)/\b≠r/\b≠gP/\(Value.slice (some ⟨gV,0,none⟩) nv cap).ownBlock≠some b:=fun b hb=>by
  rcases hu b hb with h|h
  ·exact⟨.inl (hvk b h).1,(hvk b h).2⟩
  ·exact⟨.inr h,by omega,by omega,fun e=>by have e':gV=b:=Option.some.inj e;omega⟩
 have d6':∀i (h:i<vs.length),i≠k->∀b,vs[i].ownBlock=some b->u.ownBlock≠some b:=fun i h hne b hb hb'=>by
  rcases hu b hb' with e|e
  ·exact d6 i k h hk hne b hb e
  ·have:=((d5 i h (by omega)).1.lt b hb).2;omega
 refine⟨⟨KF.cell H.c0 nr,KF.cell H.c1 nr,⟨cN,KF.cell b1 nr,b2.kept KF (fun b e=>by have e':gP=b:=Option.some.inj e;subst e';exact ngP)⟩,⟨_,vs.set k u,KF.cell d1 nr,(Ow.stored d22 k u).1,fun b hb=>⟨.inl (d3 b hb).1,(d3 b hb).2⟩,by rw[List.length_set,List.length_set];exact d4,fun i h h'=>?_,fun i j h h' hne b hb=>?_⟩,fun j=>by rw[KF.frozen hrlt nr];exact H.fr j,.inl H.gg.1,.inl H.gg.2.1,H.gg.2.2⟩,KF.mono (fun b _ e=>?_)⟩
 ·rw[List.length_set]at h h';by_cases e:k=i
  ·subst e;have e1:(vs.set k u)[k]'(by rw[List.length_set];exact hk)=u:=by simp
   have e2:(NL.set k l)[k]'(by rw[List.length_set];exact hkN)=l:=by simp
   rw[e1,e2];exact⟨hO.kept hp.kp (fun b hb e=>(hub b hb).2.2.2 (by have e':b=gV:=e;rw[e'];rfl)),hub⟩
  ·have e1:(vs.set k u)[i]'(by rw[List.length_set];exact h)=vs[i]:=by rw[List.getElem_set_ne e]
   have e2:(NL.set k l)[i]'(by rw[List.length_set];exact h')=NL[i]:=by rw[List.getElem_set_ne e]
   rw[e1,e2];have hi:=d5 i h h';refine⟨hi.1.kept KF (fun b hb e'=>?_),fun b hb=>⟨.inl (hi.2 b hb).1,(hi.2 b hb).2⟩⟩;rcases e' with e'|e'
   ·exact(hi.2 b hb).2.2.2 (by rw[e'];rfl)
   ·exact d6 i k h hk (fun e''=>e e''.symm) b hb e'
 ·rw[List.length_set]at h h';by_cases ei:k=i
  ·subst ei;have e1:(vs.set k u)[k]'(by rw[List.length_set];exact hk)=u:=by simp
   have e2:(vs.set k u)[j]'(by rw[List.length_set];exact h')=vs[j]:=by rw[List.getElem_set_ne hne]
   rw[e1]at hb;rw[e2];exact fun hb'=>d6' j h' (fun e=>hne e.symm) b hb' hb
  ·have e1:(vs.set k u)[i]'(by rw[List.length_set];exact h)=vs[i]:=by rw[List.getElem_set_ne ei]
   rw[e1]at hb;by_cases ej:k=j
   ·subst ej;have e2:(vs.set k u)[k]'(by rw[List.length_set];exact hk)=u:=by simp
    rw[e2];exact d6' i h (fun e=>ei e.symm) b hb
   ·have e2:(vs.set k u)[j]'(by rw[List.length_set];exact h')=vs[j]:=by rw[List.getElem_set_ne ej]
    rw[e2];exact d6 i j h h' hne b hb
 ·rcases e with e|e
  ·rw[e];exact hgV.1
  ·exact(hvk b e).1
theorem DS{P:Program}{w:World}{ops:Array Oper}{o:Oper}{a:Act}{K:Act->World->Prop}{Q:Exit->Act->World->Prop}{E:Prop}{d:Nat}(hgd:o.guard=none)(hd:o.dst=some d)(s x:Operand)(t tx:TypeId)
  (ho:o.op=.call { callee:=.builtin .append,args:=#[s,x],argTypes:=#[t,tx] }) (v xv:Value) (hs:a.eval s=v) (hx:a.eval x=xv) {v':Value} {w':World}
  (hr:(Builtin.append_ #[t,tx] o.type #[v,xv]).run P w=.ok v' w') (h:K (a.put (some d) v') w'):if Region.wanted o (yielded ops a.tmps)=true then Oper.wp P o a w K Q else E :=
 F7 hgd s x t tx ho v xv hs hx hr (by rw[hd];exact h)
theorem OK(w:World)(base:Nat)(v:Value)(l:List Chg)(x:Chg)(hO:OwC 153 w base v l)(hl:l.length<=1000000)(hb:base<=w.heap.size) :
  ∃v' w',(Builtin.append_ #[114,114] 114 #[v,.slice (some ⟨w.heap.size,0,none⟩) 1 1]).run prog (w.alloc (.cells #[.int .i64 x.page,.string x.data] 153))=.ok v' w'/\OwC 153 w' base v' (l++[x])/\Kp (fun b=>v.ownBlock=some b) w w'/\(∀b,v'.ownBlock=some b->v.ownBlock=some b\/w.heap.size<b):=by
 obtain⟨i0,hi,hz0,hz1,hz2⟩:=info_parts OW;have ka:=Kp.alloc none' w (.cells #[.int .i64 x.page,.string x.data] 153);have hs:(w.alloc (.cells #[.int .i64 x.page,.string x.data] 153)).heap.size=w.heap.size+1:=by simp
 obtain⟨v',w',h1,h2,h3,h4⟩:=Bm (P:=prog) (w.alloc (.cells #[.int .i64 x.page,.string x.data] 153)) base 114 114 114 153 i0 _ 2 24 underlying114 hi hz0 (by rfl) hz1 hz2 v l.length (ccs l) (hO.keptN ka) _ 1 [.int .i64 x.page,.string x.data] (O5 w 114 153 underlying114 _ _ rfl rfl _ rfl) (by omega) (by omega) (by unfold maxLen;omega) (by omega);refine⟨v',w',h1,OwC.snoc h2,(ka.mono (fun _ _ h=>h.elim)).then (Kp.ofGrown h3 (fun b he _=>he)),fun b hb'=>?_⟩
 rcases h4 with h|h
 ·exact .inl (by rw[<-h];exact hb')
 ·rw[h,hs]at hb';have:w.heap.size+1=b:=Option.some.inj hb';exact .inr (by omega)
set_option maxRecDepth 100000 in
theorem C0(r gP c n:Nat)(V:Nat->Prop)(P:List ByteArray)(NL:List (List Chg))(x:ByteArray)(w:World)(H:Wm w r gP V c P NL)(hn:n<P.length)(h1:P.length<=160)(hN:NL.length<=10000)(hl:∀l∈NL,l.length<=10000)(hpg:∀l∈NL,∀c∈l,0<=c.page/\c.page<(P.length:Int)) :
  Calls prog 86 #[.pointer (some ⟨r,0,none⟩),.int .i64 (n:Int),.string x] w fun e w'=>e=.returned (.tuple #[])/\Wm w' r gP (fun b=>V b\/w.heap.size<=b) c (P.set n x) (chgN P NL n)/\Kp V w w':=by
 obtain⟨cN,c2,_⟩:=H.c2;obtain⟨v,vs,d1,d2,d3,d4,d5,d6⟩:=H.c3;obtain⟨na,nc,hv,hvk⟩:=d2.open;rw[d4]at hv;have hni:(n:Int)<(P.length:Int):=by omega
 by_cases hN0:NL.length=0
 ·have e1:chgN P NL n=NL:=by unfold chgN;rw[if_pos hN0]
  rw[e1];obtain⟨g0,gf⟩:=H.pageAt n hn;obtain⟨p1,p2⟩:=H.putPage n x hn;have HF1:=hide (p1.mono (V':=fun b=>V b\/w.heap.size<=b) (fun _ _ h=>.inl h));have HF2:Hid (Kp V w (w.setCell ⟨gP,n,none⟩ (.string x))):=p2.mono (fun b _ e=>by have e':b=gP:=e;rw[e'];exact H.gg.2.1);rw[hN0]at hv;subst hv;obtain⟨ln,HL⟩:∃ln,Hid (P.length=ln):=⟨_,rfl⟩;rw[HL.out]at c2 hni;clear H p1 p2 d2 d3 d5 d6 hvk;go_enter func86,ntmps86;go_wp2;go_end0;exact⟨rfl,HF1.out,HF2.out⟩
 ·obtain⟨kk,HKK⟩:∃kk,Hid (NL.length - 1=kk):=⟨_,rfl⟩;have hk:kk<NL.length:=by have:=HKK.out;omega
  have hkv':kk<vs.length:=by omega
  obtain⟨gV,hna,_,hcv⟩:=hvk kk hkv';subst hna;subst hv;have hlast:lastC NL=NL[kk]:=by
   unfold lastC;rw[HKK.out,List.getD_eq_getElem?_getD,List.getElem?_eq_getElem hk];rfl
  have hOl:=(d5 kk hkv' hk).1;rw[<-hlast]at hOl;have hlm:=Cn hN0;have hll:=hl _ hlm;have hna:=J1 _ (lastC NL) n _ w hOl.chs (by omega) (fun c hc=>by have:=hpg _ hlm c hc;omega);have hki:((NL.length:Int) - 1)=(kk:Int):=by have:=HKK.out;omega
  have hkl:(kk:Int)<(NL.length:Int):=by have:=HKK.out;omega
  have hO2:=fun (w1:World) (hk1:Kp none' w w1)=>OK w1.drew 0 (vs[kk]'hkv') (lastC NL) ⟨(n:Int),P.getD n ⟨#[]⟩⟩ (hOl.keptN (hk1.then (Kp.drew none' w1))) (by omega) (Nat.zero_le _);have HOA:=hide hO2;clear hO2;have hOk:=hide hOl;obtain⟨ua,uc,huv,_⟩:=hOl.chs
  have HPP:Hid (∀(W:World) (V':Nat->Prop) (M:List (List Chg)),Wm W r gP V' c P M->(∃cN,W.cell? ⟨r,2,none⟩=some (.slice (some ⟨gP,0,none⟩) P.length cN))/\W.cell? ⟨gP,n,none⟩=some (.string (P.getD n ⟨#[]⟩))/\W.frozen? ⟨gP,n,none⟩=false/\Wm (W.setCell ⟨gP,n,none⟩ (.string x)) r gP V' c (P.set n x) M/\Kp V' W (W.setCell ⟨gP,n,none⟩ (.string x))):=fun W V' M hW=>by
   obtain⟨cN',q1,_⟩:=hW.c2;obtain⟨g0,gf⟩:=hW.pageAt n hn;obtain⟨p1,p2⟩:=hW.putPage n x hn;exact⟨⟨cN',q1⟩,g0,gf,p1,p2.mono (fun b _ e=>by have e':b=gP:=e;rw[e'];exact hW.gg.2.1)⟩
  have HNT:Hid (∀(w2:World) (u:Value) (l:List Chg),OwC 153 w2 0 u l->Kp (fun b=>(vs[kk]'hkv').ownBlock=some b) w w2->(∀b,u.ownBlock=some b->(vs[kk]'hkv').ownBlock=some b\/w.heap.size<=b)->Wm (w2.setCell ⟨gV,kk,none⟩ u) r gP (fun b=>V b\/w.heap.size<=b) c P (NL.set kk l)/\Kp V w (w2.setCell ⟨gV,kk,none⟩ u)):=fun w2 u l a1 a2 a3=>H.putNote d1 d2 d3 d4 d5 d6 kk hkv' a1 a2 a3;have hvb:¬(vs[kk]'hkv').ownBlock=some r/\¬(vs[kk]'hkv').ownBlock=some gV:=by
   have h5:=(d5 kk hkv' (by omega)).2;exact⟨fun e=>(h5 r e).2.1 rfl,fun e=>(h5 gV e).2.2.2 rfl⟩
  have hvp:¬(vs[kk]'hkv').ownBlock=some gP:=fun e=>(((d5 kk hkv' (by omega)).2 gP e).2.2.1) rfl;have hgr:¬only gV r/\¬only gV gP:=⟨fun e=>(d3 gV rfl).2.1 (Eq.symm e),fun e=>(d3 gV rfl).2.2 (Eq.symm e)⟩;have hgf:=(d2.cellAt kk hkv').2;have hrV:=H.gg;have hrf:=H.lt;have hgVlt:gV<w.heap.size:=(d2.lt gV rfl).2;have HH:=hide H;obtain⟨pn,HPN⟩:∃pn,Hid (P.getD n ⟨#[]⟩=pn):=⟨_,rfl⟩;have hpc:=(H.pageAt n hn).1;have HSZ:Hid (NL.length - 1=kk):=HKK;rw[HPN.out]at HOA HPP hpc
  have HCH:Hid (chgN P NL n=if A9 (lastC NL) n then NL else NL.set kk (lastC NL++[⟨(n:Int),pn⟩])):=by
   show _=_;unfold chgN;rw[if_neg hN0,HKK.out,HPN.out]
  obtain⟨ln,HL⟩:∃ln,Hid (P.length=ln):=⟨_,rfl⟩;obtain⟨nl,HNL⟩:∃nl,Hid (NL.length=nl):=⟨_,rfl⟩;rw[HL.out]at c2 hni HPP;rw[HNL.out]at d1 hki hkl;obtain⟨lc,HLC⟩:∃lc,Hid (lastC NL=lc):=⟨_,rfl⟩;rw[HLC.out]at hna HOA huv HCH hOk;obtain⟨vk,HVK⟩:∃vk,Hid (vs[kk]'hkv'=vk):=⟨_,hide rfl⟩;rw[HVK.out]at hna HOA huv hcv HNT hvb hvp;have hnl:0<=(nl:Int) - 1/\(nl:Int) - 1<1000000:=by have:=HNL.out;omega
  clear H d2 d3 d5 d6 hvk hOl hlm hll hlast hOk;rw[HCH.out];cases hnm:A9 lc n with
  | true =>
   rw[hnm]at hna;have HW1:Hid (∀w1,Kp none' w w1->Wm w1 r gP (fun b=>V b\/w.heap.size<=b) c P NL):=fun w1 h=>(HH.out.keptN h).mono (fun _ _ h=>.inl h);subst huv;go_enter func86,ntmps86;go_upto_region 3 with (first
    | (go_at_call 120;refine hna.mono ?_;rintro e w1 ⟨rfl,hk1⟩)
    | fail)
   obtain⟨⟨cN',q1⟩,q2,q3,q4,q5⟩:=HPP.out w1 _ _ (HW1.out w1 hk1);have HQ4:=hide q4;have HQ5:Hid (Kp V w (w1.setCell ⟨gP,n,none⟩ (.string x))):=hk1.trans q5 (fun _ _ h=>h.elim) (fun b hb h=>by rcases h with h|h;exact h;omega);clear q4 q5;go_wp2;go_end0;exact⟨rfl,HQ4.out,HQ5.out⟩
  | false =>
   rw[hnm]at hna;subst huv;go_enter func86,ntmps86;go_upto_region 2 with (first
    | (go_at_call 120;refine hna.mono ?_;rintro e w1 ⟨rfl,hk1⟩)
    | fail)
   obtain⟨v2,w2,hap,hO2,hk2,hv2⟩:=HOA.out w1 hk1;have k1d:Kp none' w w1.drew:=hk1.then (Kp.drew none' w1);have ka:=Kp.alloc none' w1.drew (.cells #[.int .i64 (n:Int),.string pn] 153);have kwa:=k1d.then ka;have kw2:=k1d.nThen hk2;have a3:=k1d.cell d1 (fun h=>h);have a2:=k1d.cell c2 (fun h=>h);have ap:=k1d.cell hpc (fun h=>h);have av:=k1d.cell hcv (fun h=>h);have b3:=kwa.cell d1 (fun h=>h);have b2:=kwa.cell c2 (fun h=>h);have bp:=kwa.cell hpc (fun h=>h)
   have f3:=(hk1.then (Kp.alloc none' w1 (.cells #[.int .i64 (n:Int),.string pn] 153))).cell d1 (fun h=>h);have fv:=(hk1.then (Kp.alloc none' w1 (.cells #[.int .i64 (n:Int),.string pn] 153))).cell hcv (fun h=>h);have e3:=kw2.cell d1 hvb.1;have e2:=kw2.cell c2 hvb.1;have ep:=kw2.cell hpc hvp;have ev:=kw2.cell hcv hvb.2;have ef:w2.frozen? ⟨gV,kk,none⟩=false:=by rw[kw2.frozen hgVlt hvb.2];exact hgf
   obtain⟨m1,m2⟩:=HNT.out w2 v2 _ hO2 kw2 (fun b hb=>by
    rcases hv2 b hb with h|h
    ·exact .inl h
    ·exact .inr (by have:=hk1.size;have e:w1.drew.heap.size=w1.heap.size:=rfl;omega))
   obtain⟨⟨cN',q1⟩,q2,q3,q4,q5⟩:=HPP.out _ _ _ m1;have s3:(w2.setCell ⟨gV,kk,none⟩ v2).cell? ⟨r,3,none⟩=some (.slice (some ⟨gV,0,none⟩) nl nc):=(Put.set w2 gV kk v2 _ ev).kp.cell e3 hgr.1;have s2:(w2.setCell ⟨gV,kk,none⟩ v2).cell? ⟨r,2,none⟩=some (.slice (some ⟨gP,0,none⟩) ln cN):=(Put.set w2 gV kk v2 _ ev).kp.cell e2 hgr.1;have sp:(w2.setCell ⟨gV,kk,none⟩ v2).cell? ⟨gP,n,none⟩=some (.string pn):=(Put.set w2 gV kk v2 _ ev).kp.cell ep hgr.2;have hv2s:=(hO2.chs).shape;obtain⟨va2,vc2,hv2e⟩:=hv2s
   obtain⟨L2,HL2⟩:∃L2,Hid ((lc++[(⟨(n:Int),pn⟩:Chg)]).length=L2):=⟨_,rfl⟩;rw[HL2.out]at hv2e;subst hv2e;have HQ4:=hide q4;have HQ5:Hid (Kp V w ((w2.setCell ⟨gV,kk,none⟩ (.slice va2 L2 vc2)).setCell ⟨gP,n,none⟩ (.string x))):=m2.trans q5 (fun _ _ h=>h) (fun b hb h=>by rcases h with h|h;exact h;omega);clear q4 q5 m1 m2 hO2 hk2 hv2 kw2 kwa ka
   refine wp_region_held_drew (S:=fun W=>W.cell? ⟨r,3,none⟩=some (.slice (some ⟨gV,0,none⟩) nl nc)/\W.cell? ⟨r,2,none⟩=some (.slice (some ⟨gP,0,none⟩) ln cN)/\W.cell? ⟨gP,n,none⟩=some (.string pn)) (by kernel_rfl) ⟨a3,a2,ap⟩ (fun hHeld=>?_);refine take_at (i:=0) (d:=27) (v:=?_) rfl rfl (by kernel_rfl) (by kernel_rfl) (by kernel_rfl) (fun _ _ _ h=>h) (Or.inl ⟨by rfl,?_⟩) (by assumption) ?_;rotate_left
   ·intro W hSW;try dsimp only at hSW
    go_simp;try with_reducible rfl
   simp only[Act.put,PT,PU,PV];refine take_at (i:=1) (d:=28) (v:=?_) rfl rfl (by kernel_rfl) (by kernel_rfl) (by kernel_rfl) (fun _ _ _ h=>h) (Or.inl ⟨by rfl,?_⟩) (by assumption) ?_;rotate_left
   ·intro W hSW;try dsimp only at hSW
    go_simp;try with_reducible rfl
   simp only[Act.put,PT,PU,PV];refine take_at (i:=2) (d:=29) (v:=?_) rfl rfl (by kernel_rfl) (by kernel_rfl) (by kernel_rfl) (fun _ _ _ h=>h) (Or.inl ⟨by rfl,?_⟩) (by assumption) ?_;rotate_left
   ·intro W hSW;try dsimp only at hSW
    go_simp;try with_reducible rfl
   simp only[Act.put,PT,PU,PV];refine take_at (i:=3) (d:=30) (v:=?_) rfl rfl (by kernel_rfl) (by kernel_rfl) (by kernel_rfl) (fun _ _ _ h=>h) (Or.inl ⟨by rfl,?_⟩) (by assumption) ?_;rotate_left
   ·intro W hSW;try dsimp only at hSW
    go_simp;try with_reducible rfl
   simp only[Act.put,PT,PU,PV];refine take_at (i:=4) (d:=31) (v:=?_) rfl rfl (by kernel_rfl) (by kernel_rfl) (by kernel_rfl) (fun _ _ _ h=>h) (Or.inl ⟨by rfl,?_⟩) (by assumption) ?_;rotate_left
   ·intro W hSW;try dsimp only at hSW
    go_simp;try with_reducible rfl
   simp only[Act.put,PT,PU,PV];refine take_at (i:=5) (d:=32) (v:=?_) rfl rfl (by kernel_rfl) (by kernel_rfl) (by kernel_rfl) (fun _ _ _ h=>h) (Or.inl ⟨by rfl,?_⟩) (by assumption) ?_;rotate_left
   ·intro W hSW;try dsimp only at hSW
    go_simp;try with_reducible rfl
   simp only[Act.put,PT,PU,PV];refine take_at (i:=6) (d:=33) (v:=?_) rfl rfl (by kernel_rfl) (by kernel_rfl) (by kernel_rfl) (fun _ _ _ h=>h) (Or.inl ⟨by rfl,?_⟩) (by assumption) ?_;rotate_left
   ·intro W hSW;try dsimp only at hSW
    go_simp;try with_reducible rfl
   simp only[Act.put,PT,PU,PV];refine take_at (i:=7) (d:=34) (v:=?_) rfl rfl (by kernel_rfl) (by kernel_rfl) (by kernel_rfl) (fun _ _ _ h=>h) (Or.inl ⟨by rfl,?_⟩) (by assumption) ?_;rotate_left
   ·intro W hSW;try dsimp only at hSW
    go_simp;try with_reducible rfl
   simp only[Act.put,PT,PU,PV];refine take_at (i:=8) (d:=35) (v:=?_) rfl rfl (by kernel_rfl) (by kernel_rfl) (by kernel_rfl) (fun _ _ _ h=>h) (Or.inl ⟨by rfl,?_⟩) (by assumption) ?_;rotate_left
   ·intro W hSW;try dsimp only at hSW
    go_simp;try with_reducible rfl
   simp only[Act.put,PT,PU,PV];refine take_at (i:=9) (d:=36) (v:=?_) rfl rfl (by kernel_rfl) (by kernel_rfl) (by kernel_rfl) (fun _ _ _ h=>h) (Or.inl ⟨by rfl,?_⟩) (by assumption) ?_;rotate_left
   ·intro W hSW;try dsimp only at hSW
    go_simp;try with_reducible rfl
   simp only[Act.put,PT,PU,PV];refine take_at (i:=10) (d:=37) (v:=?_) rfl rfl (by kernel_rfl) (by kernel_rfl) (by kernel_rfl) (fun _ _ _ h=>h) (Or.inl ⟨by rfl,?_⟩) (by assumption) ?_;rotate_left
   ·intro W hSW;try dsimp only at hSW
    go_simp;try with_reducible rfl
   simp only[Act.put,PT,PU,PV];refine take_at (i:=12) (d:=39) (v:=?_) rfl rfl (by kernel_rfl) (by kernel_rfl) (by kernel_rfl) (fun _ _ _ h=>h) (Or.inl ⟨by rfl,?_⟩) (by assumption) ?_;rotate_left
   ·intro W hSW;try dsimp only at hSW
    go_simp;try with_reducible rfl
   simp only[Act.put,PT,PU,PV];refine take_at (i:=13) (d:=40) (v:=?_) rfl rfl (by kernel_rfl) (by kernel_rfl) (by kernel_rfl) (fun _ _ _ h=>h) (Or.inl ⟨by rfl,?_⟩) (by assumption) ?_;rotate_left
   ·intro W hSW;try dsimp only at hSW
    go_simp;try with_reducible rfl
   simp only[Act.put,PT,PU,PV];refine take_at (i:=14) (d:=41) (v:=?_) rfl rfl (by kernel_rfl) (by kernel_rfl) (by kernel_rfl) (fun _ _ _ h=>h) (Or.inl ⟨by rfl,?_⟩) (by assumption) ?_;rotate_left
   ·intro W hSW;try dsimp only at hSW
    go_simp;try with_reducible rfl
   simp only[Act.put,PT,PU,PV];refine take_at (i:=15) (d:=42) (v:=?_) rfl rfl (by kernel_rfl) (by kernel_rfl) (by kernel_rfl) (fun _ _ _ h=>h) (Or.inl ⟨by rfl,?_⟩) (by assumption) ?_;rotate_left
   ·intro W hSW;try dsimp only at hSW
    go_simp;try with_reducible rfl
   simp only[Act.put,PT,PU,PV];refine take_at (i:=16) (d:=43) (v:=?_) rfl rfl (by kernel_rfl) (by kernel_rfl) (by kernel_rfl) (fun _ _ _ h=>h) (Or.inl ⟨by rfl,?_⟩) (by assumption) ?_;rotate_left
   ·intro W hSW;try dsimp only at hSW
    go_simp;try with_reducible rfl
   simp only[Act.put,PT,PU,PV];refine take_at (i:=17) (d:=44) (v:=?_) rfl rfl (by kernel_rfl) (by kernel_rfl) (by kernel_rfl) (fun _ _ _ h=>h) (Or.inl ⟨by rfl,?_⟩) (by assumption) ?_;rotate_left
   ·intro W hSW;try dsimp only at hSW
    go_simp;try with_reducible rfl
   simp only[Act.put,PT,PU,PV];refine take_at (i:=18) (d:=45) (v:=?_) rfl rfl (by kernel_rfl) (by kernel_rfl) (by kernel_rfl) (fun _ _ _ h=>h) (Or.inl ⟨by rfl,?_⟩) (by assumption) ?_;rotate_left
   ·intro W hSW;try dsimp only at hSW
    go_simp;try with_reducible rfl
   simp only[Act.put,PT,PU,PV];refine take_at (i:=19) (d:=46) (v:=?_) rfl rfl (by kernel_rfl) (by kernel_rfl) (by kernel_rfl) (fun _ _ _ h=>h) (Or.inl ⟨by rfl,?_⟩) (by assumption) ?_;rotate_left
   ·intro W hSW;try dsimp only at hSW
    go_simp;try with_reducible rfl
   simp only[Act.put,PT,PU,PV];refine take_at (i:=20) (d:=47) (v:=?_) rfl rfl (by kernel_rfl) (by kernel_rfl) (by kernel_rfl) (fun _ _ _ h=>h) (Or.inl ⟨by rfl,?_⟩) (by assumption) ?_;rotate_left
   ·intro W hSW;try dsimp only at hSW
    go_simp;try with_reducible rfl
   simp only[Act.put,PT,PU,PV];refine wpAnyH_ready (rs:=[11,21]) (by kernel_rfl) (by simp) ?_;refine AllReadyH.cons rfl (fun K hK=>?_) (AllReadyH.cons rfl (fun K hK=>?_) AllReadyH.nil)
   ·go_simp;refine hK.out _ _ ⟨a3,a2,ap⟩ (fun hHeld=>?_);clear hK K;refine wpAnyH_ready (rs:=[21]) (by kernel_rfl) (by simp) ?_;refine AllReadyH.cons rfl (fun K hK=>?_) AllReadyH.nil;go_simp;refine hK.out _ _ (⟨b3,b2,bp⟩) (fun hHeld=>?_);clear hK K;refine wpAnyH_ready (rs:=[22]) (by kernel_rfl) (by simp) ?_;refine AllReadyH.cons rfl (fun K hK=>?_) AllReadyH.nil;refine DS (d:=49) (by rfl) (by rfl) (.tmp 38) (.tmp 48) 114 114 (by rfl) _ _ (by rfl) (by rfl) hap ?_
    refine hK.out _ _ ⟨e3,e2,ep⟩ (fun hHeld=>?_);clear hK K;simp only[Act.put,PT,PU,PV];refine take_at (i:=23) (d:=50) (v:=?_) rfl rfl (by kernel_rfl) (by kernel_rfl) (by kernel_rfl) (fun _ _ _ h=>h) (Or.inl ⟨by rfl,?_⟩) (by assumption) ?_;rotate_left
    ·intro W hSW;try dsimp only at hSW
     go_simp;try with_reducible rfl
    simp only[Act.put,PT,PU,PV];refine wpAnyH_ready (rs:=[24]) (by kernel_rfl) (by simp) ?_;refine AllReadyH.cons rfl (fun K hK=>?_) AllReadyH.nil;go_simp;refine hK.out _ _ ⟨s3,s2,sp⟩ (fun hHeld=>?_);clear hK K;refine wpAnyH_done (by kernel_rfl) ?_ _;go_wp2;go_end0;exact⟨rfl,HQ4.out,HQ5.out⟩
   ·go_simp;refine hK.out _ _ ⟨b3,b2,bp⟩ (fun hHeld=>?_);clear hK K;refine wpAnyH_ready (rs:=[11]) (by kernel_rfl) (by simp) ?_;refine AllReadyH.cons rfl (fun K hK=>?_) AllReadyH.nil;go_simp;refine hK.out _ _ (⟨b3,b2,bp⟩) (fun hHeld=>?_);clear hK K;refine wpAnyH_ready (rs:=[22]) (by kernel_rfl) (by simp) ?_;refine AllReadyH.cons rfl (fun K hK=>?_) AllReadyH.nil;refine DS (d:=49) (by rfl) (by rfl) (.tmp 38) (.tmp 48) 114 114 (by rfl) _ _ (by rfl) (by rfl) hap ?_
    refine hK.out _ _ ⟨e3,e2,ep⟩ (fun hHeld=>?_);clear hK K;simp only[Act.put,PT,PU,PV];refine take_at (i:=23) (d:=50) (v:=?_) rfl rfl (by kernel_rfl) (by kernel_rfl) (by kernel_rfl) (fun _ _ _ h=>h) (Or.inl ⟨by rfl,?_⟩) (by assumption) ?_;rotate_left
    ·intro W hSW;try dsimp only at hSW
     go_simp;try with_reducible rfl
    simp only[Act.put,PT,PU,PV];refine wpAnyH_ready (rs:=[24]) (by kernel_rfl) (by simp) ?_;refine AllReadyH.cons rfl (fun K hK=>?_) AllReadyH.nil;go_simp;refine hK.out _ _ ⟨s3,s2,sp⟩ (fun hHeld=>?_);clear hK K;refine wpAnyH_done (by kernel_rfl) ?_ _;go_wp2;go_end0;exact⟨rfl,HQ4.out,HQ5.out⟩
def Wk(w:World)(r:Nat)(V:Nat->Prop)(c m:Nat)(S:Sw):Prop :=
 (S.over=true/\w.cell? ⟨r,1,none⟩=some (.bool true)/\V r)\/(S.over=false/\∃gP P NL,Wm w r gP V c P NL/\Ag P NL S/\NL.length<=m/\∀l∈NL,l.length<=m)
theorem Wk.mono{w:World}{r:Nat}{V V':Nat->Prop}{c m m':Nat}{S:Sw}(h:Wk w r V c m S)(hV:∀k,k<w.heap.size->V k->V' k)(hm:m<=m'):Wk w r V' c m' S:=by
 rcases h with ⟨h1,h2,h3⟩|⟨h1,gP,P,NL,h2,h3,h4,h5⟩
 ·exact .inl ⟨h1,h2,hV r (lt_of_cell h2) h3⟩
 ·exact .inr ⟨h1,gP,P,NL,h2.mono hV,h3,Nat.le_trans h4 hm,fun l hl=>Nat.le_trans (h5 l hl) hm⟩
theorem Wk.kept{w w':World}{r:Nat}{V S':Nat->Prop}{c m:Nat}{S:Sw}(h:Wk w r V c m S)(hk:Kp S' w w')(hS:∀k,k<w.heap.size->V k->¬S' k):Wk w' r V c m S:=by
 rcases h with ⟨h1,h2,h3⟩|⟨h1,gP,P,NL,h2,h3,h4,h5⟩
 ·exact .inl ⟨h1,hk.cell h2 (hS r (lt_of_cell h2) h3),h3⟩
 ·exact .inr ⟨h1,gP,P,NL,h2.kept hk hS,h3,h4,h5⟩
theorem Wk.keptN{w w':World}{r:Nat}{V:Nat->Prop}{c m:Nat}{S:Sw}(h:Wk w r V c m S)(hk:Kp none' w w'):Wk w' r V c m S:=h.kept hk (fun _ _ _ h=>h)
theorem BS{P:List ByteArray}{NL:List (List Chg)}{n m:Nat}(h:∀l∈NL,l.length<=m):∀l∈chgN P NL n,l.length<=m+1:=fun l hl=>by
 rcases Ft hl with h1|⟨h1,h2⟩
 ·exact Nat.le_succ_of_le (h l h1)
 ·rw[h2,List.length_append]
  exact Nat.succ_le_succ (h _ (Cn h1))
theorem Ez{l:List ByteArray}{z:Int}(h:Bk l z=true):∃n:Nat,z=(n:Int)/\0<n/\n<l.length/\isU l n=true:=by
 unfold Bk at h;rw[Bool.and_eq_true,decide_eq_true_iff]at h;refine⟨z.toNat,by omega,by omega,by omega,h.2⟩
set_option maxRecDepth 100000 in
theorem Ld(r:Nat)(z:Int)(V:Nat->Prop)(c m:Nat)(S:Sw)(w:World)(H:Wk w r V c m S) :
  Calls prog 65 #[.pointer (some ⟨r,0,none⟩),.int .i64 z] w fun e w'=>e=.returned (.tuple #[.string (S.read z).1,.int .i64 (S.read z).2])/\w'=w:=by
 rcases H with ⟨hov,c1,_⟩|⟨hov,gP,P,NL,hW,hA,_,_⟩
 ·have e1:S.read z=(⟨#[]⟩,13):=by unfold Sw.read;rw[hov];rfl
  rw[e1];have hr:=BF r z w c1;go_enter func65,ntmps65;go_wp2_with (first
   | (go_at_call 57;refine hr.mono ?_;rintro e w' ⟨rfl,rfl⟩)
   | fail)
  go_ret2;exact⟨rfl,rfl⟩
 ·have hr:=B9 r gP V c P NL z w hW (by rw[hA.a.len];exact hA.l0) (by rw[hA.a.len];exact hA.l1) hA.sP;rw[DI hA.a hA.l0]at hr;cases ht:Bk S.now z with
  | false =>
   have e1:S.read z=(⟨#[]⟩,7):=by unfold Sw.read;rw[hov,ht];rfl
   rw[e1];rw[ht]at hr;go_enter func65,ntmps65;go_wp2_with (first
    | (go_at_call 57;refine hr.mono ?_;rintro e w' ⟨rfl,rfl⟩)
    | fail)
   go_ret2;exact⟨rfl,rfl⟩
  | true =>
   rw[ht]at hr;obtain⟨n,rfl,hn0,hn,hu⟩:=Ez ht;have e1:S.read (n:Int)=(S.now.getD n ⟨#[]⟩,0):=by unfold Sw.read;rw[hov,ht,Int.toNat_natCast];rfl
   rw[e1];have hnP:n<P.length:=by rw[hA.a.len];exact hn
   have d0:=(hW.pageAt n hnP).1;rw[hA.a.us n hn hu]at d0;obtain⟨cN,c2,_⟩:=hW.c2;have hni:(n:Int)<(P.length:Int):=by omega
   obtain⟨ln,HL⟩:∃ln,Hid (P.length=ln):=⟨_,rfl⟩;rw[HL.out]at c2 hni;obtain⟨X,HX⟩:∃X,Hid (S.now.getD n ⟨#[]⟩=X):=⟨_,rfl⟩;rw[HX.out]at d0 |-;clear ht hu hW hA e1;go_enter func65,ntmps65;go_wp2_with (first
    | (go_at_call 57;refine hr.mono ?_;rintro e w' ⟨rfl,rfl⟩)
    | fail)
   go_ret2;exact⟨rfl,rfl⟩
set_option maxRecDepth 100000 in
theorem JA(r:Nat)(z:Int)(x:ByteArray)(V:Nat->Prop)(c m:Nat)(S:Sw)(w:World)(H:Wk w r V c m S)(hm:m<=5000)(hx:x.size<=1000) :
  Calls prog 92 #[.pointer (some ⟨r,0,none⟩),.int .i64 z,.string x] w fun e w'=>e=.returned (.int .i64 (S.writeE z x))/\Wk w' r (fun b=>V b\/w.heap.size<=b) c (m+1) (S.write z x)/\Kp V w w':=by
 have HS:Hid (Wk w r (fun b=>V b\/w.heap.size<=b) c (m+1) S):=H.mono (fun _ _ h=>.inl h) (by omega);rcases H with ⟨hov,c1,_⟩|⟨hov,gP,P,NL,hW,hA,hNm,hNl⟩
 ·have e1:S.writeE z x=13:=by unfold Sw.writeE;rw[hov];rfl
  have e2:S.write z x=S:=by unfold Sw.write;rw[e1];rfl
  rw[e1,e2];have hr:=BF r z w c1;go_enter func92,ntmps92;go_wp2_with (first
   | (go_at_call 57;refine hr.mono ?_;rintro e w' ⟨rfl,rfl⟩)
   | fail)
  go_ret;exact⟨rfl,HS.out,Kp.refl _ _⟩
 ·have hr:=B9 r gP V c P NL z w hW (by rw[hA.a.len];exact hA.l0) (by rw[hA.a.len];exact hA.l1) hA.sP;rw[DI hA.a hA.l0]at hr;cases ht:Bk S.now z with
  | false =>
   have e1:S.writeE z x=7:=by unfold Sw.writeE;rw[hov,ht];rfl
   have e2:S.write z x=S:=by unfold Sw.write;rw[e1];rfl
   rw[e1,e2];rw[ht]at hr;clear hW hA;go_enter func92,ntmps92;go_wp2_with (first
    | (go_at_call 57;refine hr.mono ?_;rintro e w' ⟨rfl,rfl⟩)
    | fail)
   go_ret;exact⟨rfl,HS.out,Kp.refl _ _⟩
  | true =>
   rw[ht]at hr;by_cases h256:x.size=256
   ·have e1:S.writeE z x=0:=by unfold Sw.writeE;rw[hov,ht,if_pos h256];rfl
    obtain⟨n,hzn,hn0,hn,hu⟩:=Ez ht;subst hzn;have e2:S.write (n:Int) x={ S with now:=S.now.set n x }:=by unfold Sw.write;rw[if_pos e1,Int.toNat_natCast]
    rw[e1,e2];have hnP:n<P.length:=by rw[hA.a.len];exact hn
    have hch:=C0 r gP c n V P NL x w hW hnP (by rw[hA.a.len];exact hA.l1) (by omega) (fun l hl=>Nat.le_trans (hNl l hl) (by omega)) hA.g.pg;have HA2:=hide (hA.chg n x (S.now.set n x) hnP (by omega) (hA.a.put n x hn hn0) (BO hA.sz h256));have HB2:Hid ((chgN P NL n).length<=m+1/\∀l∈chgN P NL n,l.length<=m+1):=⟨by rw[BZ];omega,BS hNl⟩;have hxb:(((x.size:Nat):Int) != 256)=false:=by rw[h256];rfl
    have HOV:Hid (({ S with now:=S.now.set n x }:Sw).over=false):=hov;have HCH:=hide hch;clear hW hA hu ht e1 e2 h256 hch;go_enter func92,ntmps92;go_wp2_with (first
     | (go_at_call 57;refine hr.mono ?_;rintro e w' ⟨rfl,rfl⟩)
     | (go_at_call 86;refine HCH.out.mono ?_;rintro e w2 ⟨rfl,hW2,hk2⟩)
     | fail)
    go_ret;exact⟨rfl,.inr ⟨HOV.out,gP,_,_,hW2,HA2.out,HB2.out.1,HB2.out.2⟩,hk2⟩
   ·have e1:S.writeE z x=1:=by unfold Sw.writeE;rw[hov,ht,if_neg h256];rfl
    have e2:S.write z x=S:=by unfold Sw.write;rw[e1];rfl
    rw[e1,e2];have hxb:(((x.size:Nat):Int) != 256)=true:=by
     have:((x.size:Nat):Int)≠256:=by omega
     simpa using this
    clear hW hA h256;go_enter func92,ntmps92;go_wp2_with (first
     | (go_at_call 57;refine hr.mono ?_;rintro e w' ⟨rfl,rfl⟩)
     | fail)
    go_ret;exact⟨rfl,HS.out,Kp.refl _ _⟩
set_option maxRecDepth 100000 in
theorem Gm(r gP c n:Nat)(V:Nat->Prop)(P:List ByteArray)(NL:List (List Chg))(w:World)(H:Wm w r gP V c P NL)(hn:n<160)(h0:0<P.length)(h1:P.length<=160)(hs:(pg0 P).size=256)(hN:NL.length<=10000)(hl:∀l∈NL,l.length<=10000)(hpg:∀l∈NL,∀c∈l,0<=c.page/\c.page<(P.length:Int)) :
  Calls prog 58 #[.pointer (some ⟨r,0,none⟩),.int .i64 (n:Int)] w fun e w'=>e=.returned (.tuple #[])/\Wm w' r gP (fun b=>V b\/w.heap.size<=b) c (turnL P n) (chgN P NL 0)/\Kp V w w':=by
 obtain⟨cN,c2,_⟩:=H.c2;have d0:=(H.pageAt 0 h0).1;have e0:P.getD 0 ⟨#[]⟩=pg0 P:=rfl;rw[e0]at d0;have hl0:(0:Int)<(P.length:Int):=by omega
 obtain⟨p,HP⟩:∃p,Hid (pg0 P=p):=⟨_,rfl⟩;have HT:Hid (turnL P n=P.set 0 (turnS p n)):=by show _=_;unfold turnL;rw[HP.out]
 rw[HP.out]at d0 hs;obtain⟨W1,cap,hcv,hcl,hfz,hk1,hsz1,hback⟩:=NK p (n / 8) (A8 p (n / 8) ^^^ UInt8.ofNat (2 ^ (n%8))) (by omega) w;rw[hs]at hcv hback;obtain⟨B,HB⟩:∃B,Hid (w.heap.size=B):=⟨_,rfl⟩;rw[HB.out]at hcv hcl hfz hback hsz1;have hn8:((n:Int) / 8)<256:=by omega
 have HCH:Hid (∀(W:World) (x:ByteArray),Kp none' w W->Calls prog 86 #[.pointer (some ⟨r,0,none⟩),.int .i64 0,.string x] W fun e w'=>e=.returned (.tuple #[])/\Wm w' r gP (fun b=>V b\/w.heap.size<=b) c (P.set 0 x) (chgN P NL 0)/\Kp V w w'):=fun W x hk=>by
  refine(C0 r gP c 0 V P NL x W (H.keptN hk) h0 h1 hN hl hpg).mono ?_;rintro e w' ⟨rfl,a1,a2⟩;exact⟨rfl,a1.mono (fun b _ h=>by rcases h with h|h;exact .inl h;exact .inr (Nat.le_trans hk.size h)),hk.nThen a2⟩
 obtain⟨ln,HL⟩:∃ln,Hid (P.length=ln):=⟨_,rfl⟩;rw[HL.out]at c2 hl0;clear H hpg;go_enter func58,ntmps58;go_upto_region 1 with fail;have p1:=Put.set W1 B (n / 8) (.int .u8 ((A8 p (n / 8) ^^^ UInt8.ofNat (2 ^ (n%8))).toNat:Int)) _ hcl;have HBX:=hide (Oc (A8 p (n / 8)) (n%8) (Nat.mod_lt _ (by omega)));have HTS:Hid (turnS p n=⟨(p.data.toList.set (n / 8) (A8 p (n / 8) ^^^ UInt8.ofNat (2 ^ (n%8)))).toArray⟩):=by show _=_;rfl
 have hb2:=hback _ (Kp.drew none' _);rw[<-HTS.out]at hb2;obtain⟨T,HTT⟩:∃T,Hid (turnS p n=T):=⟨_,rfl⟩;rw[HTT.out]at hb2 HT;have kw:Kp none' w (W1.setCell ⟨B,n / 8,none⟩ (.int .u8 ((A8 p (n / 8) ^^^ UInt8.ofNat (2 ^ (n%8))).toNat:Int))).drew:=(hk1.trans p1.kp (S'':=none') (fun _ _ h=>h) (fun k hk e=>absurd hk (by have e':k=B:=e;have:=HB.out;omega))).then (Kp.drew none' _);have hcd:W1.drew.cell? ⟨B,n / 8,none⟩=some (.int .u8 ((A8 p (n / 8)).toNat:Int)):=hcl
 have hfd:W1.drew.frozen? ⟨B,n / 8,none⟩=false:=hfz;have hcc:=HCH.out _ T kw;obtain⟨W2,H2⟩:∃W2,Hid ((W1.setCell ⟨B,n / 8,none⟩ (.int .u8 ((A8 p (n / 8) ^^^ UInt8.ofNat (2 ^ (n%8))).toNat:Int))).drew=W2):=⟨_,rfl⟩;rw[H2.out]at hcc hb2;clear p1 hback hcv kw;go_region;all_goals rw[HBX.out,H2.out]
 all_goals go_wp2_with (first
  | (go_at_call 86;refine hcc.mono ?_;rintro e w2 ⟨rfl,hW2,hk2⟩)
  | fail)
 all_goals first|go_end0|((try simp only[Exit.inBlock,Exit.then]);refine bodyPost_ret (results_none rfl _ _ _) rfl ?_)
 all_goals exact⟨rfl,by rw[HT.out];exact hW2,hk2⟩
theorem Ag.lens{P:List ByteArray}{NL:List (List Chg)}{S:Sw}(h:Ag P NL S):0<P.length/\P.length<=160:=⟨by rw[h.a.len];exact h.l0,by rw[h.a.len];exact h.l1⟩
set_option maxRecDepth 100000 in
theorem Es(r:Nat)(z:Int)(V:Nat->Prop)(c m:Nat)(S:Sw)(w:World)(H:Wk w r V c m S)(hm:m<=5000) :
  Calls prog 41 #[.pointer (some ⟨r,0,none⟩),.int .i64 z] w fun e w'=>e=.returned (.int .i64 (S.dropE z))/\Wk w' r (fun b=>V b\/w.heap.size<=b) c (m+1) (S.drop z)/\Kp V w w':=by
 have HS:Hid (Wk w r (fun b=>V b\/w.heap.size<=b) c (m+1) S):=H.mono (fun _ _ h=>.inl h) (by omega);rcases H with ⟨hov,c1,_⟩|⟨hov,gP,P,NL,hW,hA,hNm,hNl⟩
 ·have e1:S.dropE z=13:=by unfold Sw.dropE;rw[hov];rfl
  have e2:S.drop z=S:=by unfold Sw.drop;rw[e1];rfl
  rw[e1,e2];have hr:=BF r z w c1;go_enter func41,ntmps41;go_wp2_with (first
   | (go_at_call 57;refine hr.mono ?_;rintro e w' ⟨rfl,hw'⟩;obtain rfl:=hw'.symm)
   | fail)
  go_ret;exact⟨rfl,HS.out,Kp.refl _ _⟩
 ·have hr:=B9 r gP V c P NL z w hW hA.lens.1 hA.lens.2 hA.sP;rw[DI hA.a hA.l0]at hr;cases ht:Bk S.now z with
  | false =>
   have e1:S.dropE z=7:=by unfold Sw.dropE;rw[hov,ht];rfl
   have e2:S.drop z=S:=by unfold Sw.drop;rw[e1];rfl
   rw[e1,e2];rw[ht]at hr;clear hW hA;go_enter func41,ntmps41;go_wp2_with (first
    | (go_at_call 57;refine hr.mono ?_;rintro e w' ⟨rfl,hw'⟩;obtain rfl:=hw'.symm)
    | fail)
   go_ret;exact⟨rfl,HS.out,Kp.refl _ _⟩
  | true =>
   rw[ht]at hr;have e1:S.dropE z=0:=by unfold Sw.dropE;rw[hov,ht];rfl
   obtain⟨n,hzn,hn0,hn,hu⟩:=Ez ht;subst hzn;have e2:S.drop (n:Int)={ S with now:=turnL S.now n }:=by unfold Sw.drop;rw[if_pos e1,Int.toNat_natCast]
   rw[e1,e2];have hl1:=hA.l1;have htu:=Gm r gP c n V P NL w hW (by omega) hA.lens.1 hA.lens.2 hA.sP (by omega) (fun l hl=>Nat.le_trans (hNl l hl) (by omega)) hA.g.pg;have HA2:Hid (Ag (turnL P n) (chgN P NL 0) { S with now:=turnL S.now n }):=by
    have hT:(turnS (pg0 P) n).size=256:=by rw[BQ];exact hA.sP
    exact hA.chg 0 (turnS (pg0 P) n) (turnL S.now n) hA.lens.1 (by omega) (hA.a.drop n hA.l0 hA.s0 (by omega) hu) (BO hA.sz (by rw[BQ];exact hA.s0))
   have HB2:Hid ((chgN P NL 0).length<=m+1/\∀l∈chgN P NL 0,l.length<=m+1):=⟨by rw[BZ];omega,BS hNl⟩;have HOV:Hid (({ S with now:=turnL S.now n }:Sw).over=false):=hov;have HTU:=hide htu;clear hW hA hu ht e1 e2 htu;go_enter func41,ntmps41;go_wp2_with (first
    | (go_at_call 57;refine hr.mono ?_;rintro e w' ⟨rfl,hw'⟩;obtain rfl:=hw'.symm)
    | (go_at_call 58;refine HTU.out.mono ?_;rintro e w2 ⟨rfl,hW2,hk2⟩)
    | fail)
   go_ret;exact⟨rfl,.inr ⟨HOV.out,gP,_,_,hW2,HA2.out,HB2.out.1,HB2.out.2⟩,hk2⟩
set_option maxRecDepth 100000 in
theorem Ml(r:Nat)(V:Nat->Prop)(c m:Nat)(S:Sw)(w:World)(H:Wk w r V c m S)(hm:m<=5000) :
  Calls prog 93 #[.pointer (some ⟨r,0,none⟩)] w fun e w'=>e=.returned (.tuple #[.int .i64 S.takeE.1,.int .i64 S.takeE.2])/\Wk w' r (fun b=>V b\/w.heap.size<=b) c (m+2) (S.take (fillB 0))/\Kp V w w':=by
 have HS:Hid (Wk w r (fun b=>V b\/w.heap.size<=b) c (m+2) S):=H.mono (fun _ _ h=>.inl h) (by omega);rcases H with ⟨hov,c1,_⟩|⟨hov,gP,P,NL,hW,hA,hNm,hNl⟩
 ·have e1:S.takeE=(0,13):=by unfold Sw.takeE;rw[hov];rfl
  have e2:S.take (fillB 0)=S:=by unfold Sw.take;rw[hov];rfl
  rw[e1,e2];have hr:=B7 r w c1;go_enter func93,ntmps93;go_wp2_with (first
   | (go_at_call 38;refine hr.mono ?_;rintro e w' ⟨rfl,hw'⟩;obtain rfl:=hw'.symm)
   | fail)
  go_ret2;exact⟨rfl,HS.out,Kp.refl _ _⟩
 ·have hr:=CW r c w hW.c0 hW.c1;obtain⟨hl0,hl1⟩:=hA.lens;have HU:Hid (∀n,n<P.length->Calls prog 39 #[.pointer (some ⟨r,0,none⟩),.int .i64 (n:Int)] w fun e w'=>e=.returned (.bool (isU S.now n))/\w'=w):=fun n hn=>by
   have h:=Di r gP V c P NL (n:Int) w hW hl0 hl1 hA.sP;have e:usedB P (n:Int)=isU S.now n:=by
    unfold usedB;rw[decide_eq_true ⟨by omega,by omega⟩,Bool.true_and,Int.toNat_natCast,hA.isU]
   rw[e]at h;exact h
  have HNO:Hid ((∀i,0<i->i<P.length->isU S.now i=true)->S.takeE=(0,8)/\S.take (fillB 0)=S):=fun h=>by
   have hf:S.free=none:=by
    unfold Sw.free;exact Jh _ _ _ (fun i hi hin=>h i hi (by rw[hA.a.len];omega))
   exact⟨by unfold Sw.takeE;rw[hov,hf];rfl,by unfold Sw.take;rw[hov,hf];rfl⟩
  have HYES:Hid (∀k,k<P.length->(∀i,0<i->i<k->isU S.now i=true)->isU S.now k=false->0<k/\S.takeE=((k:Int),0)/\S.take (fillB 0)={ S with now:=(turnL S.now k).set k (fillB 0) }):=fun k hk h hu=>by
   have h0:0<k:=by
    rcases Nat.eq_zero_or_pos k with e|e
    ·subst e;cases hu
    ·exact e
   have hlen:=hA.a.len;have hf:S.free=some k:=by
    unfold Sw.free;exact EP _ _ _ _ h0 (by omega) (fun i hi hik=>h i hi hik) hu
   exact⟨h0,by unfold Sw.takeE;rw[hov,hf];rfl,by unfold Sw.take;rw[hov,hf];rfl⟩
  have HTU:Hid (∀k,k<P.length->0<k->Calls prog 58 #[.pointer (some ⟨r,0,none⟩),.int .i64 (k:Int)] w fun e w'=>e=.returned (.tuple #[])/\Wm w' r gP (fun b=>V b\/w.heap.size<=b) c (turnL P k) (chgN P NL 0)/\Kp V w w'):=fun k hk h0 =>
   Gm r gP c k V P NL w hW (by omega) hl0 hl1 hA.sP (by omega) (fun l hl=>Nat.le_trans (hNl l hl) (by omega)) hA.g.pg
  have hpg0:(P.getD 0 ⟨#[]⟩).size<=256:=Ek hA.ps 0;have hg1:=hA.g.chg 0 (turnS (pg0 P) 0) hl0 hpg0;have HG1:Hid (∀k,AgN (turnL P k) (chgN P NL 0) S):=fun k=>hA.g.chg 0 (turnS (pg0 P) k) hl0 hpg0
  have HCH:Hid (∀k (w1:World) (V':Nat->Prop),k<P.length->Wm w1 r gP V' c (turnL P k) (chgN P NL 0)->Calls prog 86 #[.pointer (some ⟨r,0,none⟩),.int .i64 (k:Int),.string (fillB 0)] w1 fun e w'=>e=.returned (.tuple #[])/\Wm w' r gP (fun b=>V' b\/w1.heap.size<=b) c ((turnL P k).set k (fillB 0)) (chgN (turnL P k) (chgN P NL 0) k)/\Kp V' w1 w'):=fun k w1 V' hk hW1 =>
   C0 r gP c k V' (turnL P k) (chgN P NL 0) (fillB 0) w1 hW1 (by rw[Bs];exact hk) (by rw[Bs];exact hl1) (by rw[BZ];omega) (fun l hl=>Nat.le_trans (BS hNl l hl) (by omega)) (HG1.out k).pg
  have HA2:Hid (∀k,k<P.length->0<k->Ag ((turnL P k).set k (fillB 0)) (chgN (turnL P k) (chgN P NL 0) k) { S with now:=(turnL S.now k).set k (fillB 0) }):=fun k hk h0=>by
   have hlen:=hA.a.len;have hT:∀x∈turnL P k,x.size<=256:=Dy hA.ps (by rw[BQ,hA.sP];exact Nat.le_refl _);have hg2:=(HG1.out k).chg k (fillB 0) (by rw[Bs];exact hk) (Ek hT k);have hsz:∀x∈turnL S.now k,x.size=256:=BO hA.sz (by rw[BQ];exact hA.s0);have hl:((turnL S.now k).set k (fillB 0)).length=S.now.length:=by rw[List.length_set,Bs]
   exact⟨hA.a.take k (fillB 0) hA.l0 hA.s0 (by omega) h0 hA.l1,⟨hg2.n,hg2.b,hg2.pg,hg2.sz⟩,by show 0<((turnL S.now k).set k (fillB 0)).length;rw[hl];exact hA.l0,by show ((turnL S.now k).set k (fillB 0)).length<=160;rw[hl];exact hA.l1,BO hsz (Bz 0),Dy hT (Nat.le_of_eq (Bz 0)),by show S.base.length=((turnL S.now k).set k (fillB 0)).length;rw[hl];exact hA.bl,hA.nt⟩
  have HB2:Hid (∀k,(chgN (turnL P k) (chgN P NL 0) k).length<=m+2/\∀l∈chgN (turnL P k) (chgN P NL 0) k,l.length<=m+2):=fun k=>⟨by rw[BZ,BZ];omega,BS (BS hNl)⟩;obtain⟨cN,c2,_⟩:=hW.c2;obtain⟨Z,HZ⟩:∃Z,Hid (fillB 0=Z):=⟨_,rfl⟩;have HZR:Hid (∀w1:World,Calls prog 133 #[.int .i64 256] w1 fun e w'=>e=.returned (.string Z)/\Kp none' w1 w'):=fun w1=>by
   have:=Jr 256 w1 (by omega);rw[Jp,HZ.out]at this;exact this
  rw[HZ.out]at HNO HYES HCH HA2 |-;obtain⟨ln,HL⟩:∃ln,Hid (P.length=ln):=⟨_,rfl⟩;rw[HL.out]at c2 HU HNO HYES HTU HCH HA2;have hl1':ln<=160:=by rw[<-HL.out];exact hl1
  have HOV:=hide hov;clear hW hA hg1 hpg0 hl0 hl1 hov HG1;go_enter func93,ntmps93;go_wp2_with (first
   | (go_at_call 38;refine hr.mono ?_;rintro e w' ⟨rfl,hw'⟩;obtain rfl:=hw'.symm)
   | fail)
  go_loopw [16] (fun t wr=>w=wr/\∃k:Nat,k<=ln/\t=.int .i64 k/\Hid (∀i,0<i->i<k->isU S.now i=true)) (fun t _=>ln - (intOf t).toNat)
  case atStart=>exact⟨rfl,0,Nat.zero_le _,rfl,fun i _ h=>by omega⟩
  case round =>
   obtain⟨rfl,k,hk,rfl,hall⟩:=hrel;by_cases hlt:k<ln
   ·have hki:(k:Int)<(ln:Int):=by omega
    have hu:=HU.out k hlt;cases hU:isU S.now k with
    | true =>
     rw[hU]at hu;have HALL:Hid (∀i,0<i->i<k+1->isU S.now i=true):=fun i h0 h1=>by
      by_cases e:i=k
      ·subst e;exact hU
      ·exact hall.out i h0 (by omega)
     clear hU;go_wp2_with (first
      | (go_at_call 39;refine hu.mono ?_;rintro e w' ⟨rfl,hw'⟩;obtain rfl:=hw'.symm)
      | fail)
     go_roundw
     case rel=>exact⟨by first|trivial|rfl,k+1,by omega,by go_num,HALL⟩
     case measure=>simp[intOf];omega
    | false =>
     rw[hU]at hu;obtain⟨h0,e1,e2⟩:=HYES.out k hlt hall.out hU;have HE2:=hide e2;have HE1:=hide e1;have htu:=hide (HTU.out k hlt h0);clear hU e1 e2;go_wp2_with (first
      | (go_at_call 39;refine hu.mono ?_;rintro e w' ⟨rfl,hw'⟩;obtain rfl:=hw'.symm)
      | (go_at_call 58;refine htu.out.mono ?_;rintro e w1 ⟨rfl,hW1,hk1⟩)
      | (go_at_call 133;refine(HZR.out _).mono ?_;rintro e w2 ⟨rfl,hk2⟩)
      | (go_at_call 86;refine(HCH.out k w2 _ hlt (hW1.keptN hk2)).mono ?_;rintro e w3 ⟨rfl,hW3,hk3⟩)
      | fail)
     go_ret2;refine⟨by rw[HE1.out];rfl,?_,?_⟩
     ·rw[HE2.out];exact .inr ⟨HOV.out,gP,_,_,hW3.mono (fun b _ h=>by
       rcases h with (h|h)|h
       ·exact .inl h
       ·exact .inr h
       ·exact .inr (by have:=hk1.size;have:=hk2.size;omega)),HA2.out k hlt h0,(HB2.out k).1,(HB2.out k).2⟩
     ·exact(hk1.thenN hk2).trans hk3 (fun _ _ h=>h) (fun b hb h=>by
       rcases h with h|h
       ·exact h
       ·omega)
   ·obtain rfl:k=ln:=by omega
    obtain⟨e1,e2⟩:=HNO.out hall.out;have HE2:=hide e2;have HE1:=hide e1;clear e1 e2;go_wp2;go_ret2;exact⟨by rw[HE1.out];rfl,by rw[HE2.out];exact HS.out,Kp.refl _ _⟩
set_option maxRecDepth 100000 in
theorem Dt(r:Nat)(V:Nat->Prop)(c m:Nat)(S:Sw)(w:World)(H:Wk w r V c m S) :
  Calls prog 20 #[.pointer (some ⟨r,0,none⟩)] w fun e w'=>e=.returned (.int .i64 (S.usedN:Int))/\w'=w:=by
 rcases H with ⟨hov,c1,_⟩|⟨hov,gP,P,NL,hW,hA,hNm,hNl⟩
 ·have e1:S.usedN=0:=by unfold Sw.usedN;rw[hov];rfl
  rw[e1];have hr:=B7 r w c1;go_enter func20,ntmps20;go_wp2_with (first
   | (go_at_call 38;refine hr.mono ?_;rintro e w' ⟨rfl,hw'⟩;obtain rfl:=hw'.symm)
   | fail)
  go_ret;exact⟨rfl,rfl⟩
 ·have hr:=CW r c w hW.c0 hW.c1;obtain⟨hl0,hl1⟩:=hA.lens;have HU:Hid (∀n,n<P.length->Calls prog 39 #[.pointer (some ⟨r,0,none⟩),.int .i64 (n:Int)] w fun e w'=>e=.returned (.bool (isU S.now n))/\w'=w):=fun n hn=>by
   have h:=Di r gP V c P NL (n:Int) w hW hl0 hl1 hA.sP;have e:usedB P (n:Int)=isU S.now n:=by
    unfold usedB;rw[decide_eq_true ⟨by omega,by omega⟩,Bool.true_and,Int.toNat_natCast,hA.isU]
   rw[e]at h;exact h
  obtain⟨cN,c2,_⟩:=hW.c2;have HE:Hid (S.usedN=((List.range P.length).filter (isU S.now)).length):=by show _=_;unfold Sw.usedN;rw[hov,hA.a.len];rfl
  obtain⟨ln,HL⟩:∃ln,Hid (P.length=ln):=⟨_,rfl⟩;rw[HL.out]at c2 HU HE hl1;rw[HE.out];clear hW hA hl0 hov;go_enter func20,ntmps20;go_wp2_with (first
   | (go_at_call 38;refine hr.mono ?_;rintro e w' ⟨rfl,hw'⟩;obtain rfl:=hw'.symm)
   | fail)
  go_loopw [3,13] (fun u t wr=>w=wr/\∃k:Nat,k<=ln/\t=.int .i64 k/\∃q:Nat,u=.int .i64 q/\q<=k/\Hid (((List.range k).filter (isU S.now)).length=q)) (fun _ t _=>ln - (intOf t).toNat)
  case atStart=>exact⟨rfl,0,Nat.zero_le _,rfl,0,rfl,Nat.le_refl _,by show _=_;simp⟩
  case round =>
   obtain⟨rfl,k,hk,rfl,q,rfl,hqk,hq⟩:=hrel;by_cases hlt:k<ln
   ·have hki:(k:Int)<(ln:Int):=by omega
    have hiu:=HU.out k hlt;have HM:Hid (((List.range (k+1)).filter (isU S.now)).length=q+(if isU S.now k then 1 else 0)):=by
     show _=_;rw[List.range_succ,List.filter_append,List.length_append,hq.out];cases hx:isU S.now k<;>simp[hx]
    cases hu:isU S.now k with
    | true =>
     rw[hu]at hiu HM;have HM2:Hid (((List.range (k+1)).filter (isU S.now)).length=q+1):=HM;clear hq hu HM;go_wp2_with (first
      | (go_at_call 39;refine hiu.mono ?_;rintro e w' ⟨rfl,hw'⟩;obtain rfl:=hw'.symm)
      | fail)
     go_roundw
     case rel=>exact⟨by first|trivial|rfl,k+1,by omega,by go_num,q+1,by go_num,by omega,HM2⟩
     case measure=>simp[intOf];omega
    | false =>
     rw[hu]at hiu HM;have HM2:Hid (((List.range (k+1)).filter (isU S.now)).length=q):=HM;clear hq hu HM;go_wp2_with (first
      | (go_at_call 39;refine hiu.mono ?_;rintro e w' ⟨rfl,hw'⟩;obtain rfl:=hw'.symm)
      | fail)
     go_roundw
     case rel=>exact⟨by first|trivial|rfl,k+1,by omega,by go_num,q,rfl,by omega,HM2⟩
     case measure=>simp[intOf];omega
   ·have hkl:ln=k:=by omega
    subst hkl;go_wp2;go_ret;exact⟨by rw[hq.out];rfl,rfl⟩
theorem St.use_le(sz n:Nat)(s:St)(z:Int):(s.use sz n z).h+(s.use sz n z).m<=s.h+s.m+1:=by
 have:=St.sum (sz:=sz) (n:=n) s z;split at this<;>omega
structure Cz (w w':World) (q:Cq) (F F':Nat->Prop) (D:Dv) (Q:Nat->ByteArray) (M cm:Int) (s:St) (n:Nat) (s':St):Prop where
 c:Cst w' q F' D Q M cm s'
 f:∀k,F' k->F k\/w.heap.size<=k
 k:Kp F w w'
 b:s'.h+s'.m<=s.h+s.m+n
theorem Cz.own{w w1 w2:World}{q:Cq}{F F' T:Nat->Prop}{D:Dv}{Q:Nat->ByteArray}{M cm:Int}{s s':St}{n:Nat}(h:Cz w w1 q F F' D Q M cm s n s')(hk:Kp T w1 w2)(hT:∀k,T k->w.heap.size<=k/\¬F' k):Cz w w2 q F F' D Q M cm s n s' :=
 ⟨Cas.kept h.c hk (fun k _ hf ht=>(hT k ht).2 hf),h.f,h.k.trans hk (fun _ _ h=>h) (fun k hk ht=>absurd (hT k ht).1 (by omega)),h.b⟩
theorem Cz.read{w w1:World}{q:Cq}{F F':Nat->Prop}{D:Dv}{Q:Nat->ByteArray}{M cm:Int}{s s':St}{n:Nat}(h:Cz w w1 q F F' D Q M cm s n s')(hb:s.h+s.m+n<=1000000000)(z:Int) :
  Calls prog 53 #[.pointer (some ⟨q.c,0,none⟩),.int .i64 z] w1 fun e w2=>e=.returned (.tuple #[.string (rdCS q.n Q z),.int .i64 (rdCE q.n z)])/\∃F'' s'',Cz w w2 q F F'' D Q M cm s (n+1) s''/\(∀k,k<w1.heap.size->F'' k->F' k)/\(∀k,F'' k->k<w2.heap.size)/\Kp F' w1 w2:=by
 refine(LU h.c (Nat.le_trans h.b hb) z).mono ?_;rintro e w2 ⟨rfl,hC,hk⟩;refine⟨rfl,fun j=>(F' j\/w1.heap.size<=j)/\j<w2.heap.size,_,⟨Cas.mono hC (fun k hk h=>⟨h,hk⟩),fun k hk=>?_,h.k.trans hk (fun _ _ h=>h) (fun k hk hf=>?_),?_⟩,fun k hk hf=>?_,fun k hk=>hk.2,hk⟩
 ·rcases hk.1 with h1|h1
  ·exact h.f k h1
  ·exact .inr (Nat.le_trans h.k.size h1)
 ·rcases h.f k hf with h1|h1
  ·exact h1
  ·omega
 ·have:=St.use_le q.sz q.n s' z;have:=h.b;omega
 ·rcases hf.1 with h1|h1
  ·exact h1
  ·omega
def pgK(Q:List ByteArray)(k:Nat):List ByteArray:=(List.range Q.length).map (fun i=>if i<k/\isU Q i=true then Q.getD i ⟨#[]⟩ else ⟨#[]⟩)
theorem AY(Q:List ByteArray)(k:Nat):(pgK Q k).length=Q.length:=by simp[pgK]
theorem DG(Q:List ByteArray)(k i:Nat)(hi:i<Q.length):(pgK Q k)[i]?=some (if i<k/\isU Q i=true then Q.getD i ⟨#[]⟩ else ⟨#[]⟩):=by
 unfold pgK;rw[List.getElem?_map,List.getElem?_range hi];rfl
theorem NC(Q:List ByteArray):pgK Q 0=List.replicate Q.length ⟨#[]⟩:=by
 refine List.ext_getElem? (fun i=>?_);by_cases hi:i<Q.length
 ·rw[DG Q 0 i hi,if_neg (by omega),List.getElem?_replicate,if_pos hi]
 ·rw[List.getElem?_eq_none (by rw[AY];omega),List.getElem?_eq_none (by rw[List.length_replicate];omega)]
theorem MV(Q:List ByteArray)(k:Nat)(hk:k<Q.length)(hu:isU Q k=true):pgK Q (k+1)=(pgK Q k).set k (Q.getD k ⟨#[]⟩):=by
 refine List.ext_getElem? (fun i=>?_);by_cases hi:i<Q.length
 ·rw[DG Q _ i hi,List.getElem?_set,DG Q k i hi,AY];by_cases e:k=i
  ·subst e;rw[if_pos rfl,if_pos hi,if_pos ⟨by omega,hu⟩]
  ·rw[if_neg e];congr 1;by_cases h:i<k/\isU Q i=true
   ·rw[if_pos h,if_pos ⟨by omega,h.2⟩]
   ·rw[if_neg h,if_neg (fun h'=>h ⟨by omega,h'.2⟩)]
 ·rw[List.getElem?_eq_none (by rw[AY];omega),List.getElem?_eq_none (by rw[List.length_set,AY];omega)]
theorem Pg(Q:List ByteArray)(k:Nat)(hu:isU Q k=false):pgK Q (k+1)=pgK Q k:=by
 refine List.ext_getElem? (fun i=>?_);by_cases hi:i<Q.length
 ·rw[DG Q _ i hi,DG Q k i hi];congr 1;by_cases h:i<k/\isU Q i=true
  ·rw[if_pos h,if_pos ⟨by omega,h.2⟩]
  ·rw[if_neg h,if_neg (fun h'=>h ⟨by
    by_cases e:i=k
    ·subst e;rw[hu]at h';cases h'.2
    ·omega,h'.2⟩)]
 ·rw[List.getElem?_eq_none (by rw[AY];omega),List.getElem?_eq_none (by rw[AY];omega)]
theorem PE(Q:List ByteArray)(k:Nat)(hk:0<k)(h0:0<Q.length):pg0 (pgK Q k)=pg0 Q:=by
 unfold pg0;rw[List.getD_eq_getElem?_getD,DG Q k 0 h0,if_pos ⟨hk,rfl⟩];rfl
theorem OL(Q:List ByteArray):Agr (pgK Q Q.length) Q:=⟨AY _ _,fun i hi hu=>by
 rw[List.getD_eq_getElem?_getD,DG Q _ i hi,if_pos ⟨hi,hu⟩]
 rfl⟩
theorem PF(Q:List ByteArray)(k:Nat)(hs:∀x∈Q,x.size=256):∀x∈pgK Q k,x.size<=256:=fun x hx=>by
 unfold pgK at hx
 obtain⟨i,hi,rfl⟩:=List.mem_map.1 hx
 by_cases h:i<k/\isU Q i=true
 ·rw[if_pos h,List.getD_eq_getElem?_getD,List.getElem?_eq_getElem (List.mem_range.1 hi)]
  exact Nat.le_of_eq (hs _ (List.getElem_mem _))
 ·rw[if_neg h]
  exact Nat.zero_le _
theorem NP(Q:List ByteArray)(h0:0<Q.length)(h1:Q.length<=160)(hs:∀x∈Q,x.size=256):Ag (pgK Q Q.length) [] ⟨Q,Q,[],false⟩ :=
 ⟨OL Q,⟨rfl,fun k h=>absurd h (by simp),(fun l h=>by cases h),(fun l h=>by cases h)⟩,h0,h1,hs,PF Q _ hs,rfl,(fun q h=>by cases h)⟩
set_option maxRecDepth 100000 in
theorem Kd(r gP:Nat)(V:Nat->Prop)(c:Nat)(P:List ByteArray)(NL:List (List Chg))(w:World)(H:Wm w r gP V c P NL)(h0:0<P.length) :
  Calls prog 39 #[.pointer (some ⟨r,0,none⟩),.int .i64 0] w fun e w'=>e=.returned (.bool true)/\w'=w:=by
 obtain⟨cN,c2,_⟩:=H.c2;have hl0:¬((P.length:Int)<=0):=by omega
 obtain⟨ln,HL⟩:∃ln,Hid (P.length=ln):=⟨_,rfl⟩;rw[HL.out]at c2 hl0;clear H;go_enter func39,ntmps39;go_wp2;go_ret;exact⟨rfl,rfl⟩
def Bgn(w w':World)(r:Nat)(q:Cq)(F:Nat->Prop)(D:Dv)(Q:Nat->ByteArray)(M cm:Int)(s:St)(Ql:List ByteArray):Prop :=
 ∃(F' V:Nat->Prop) (s':St),Wk w' r V q.c 0 ⟨Ql,Ql,[],false⟩/\Cz w w' q F F' D Q M cm s 160 s'/\(∀k,V k->w.heap.size<=k/\¬F' k)
set_option maxRecDepth 100000 in
theorem Jy{w:World}{q:Cq}{F:Nat->Prop}{D:Dv}{Q:Nat->ByteArray}{M cm:Int}{s:St}(hC:Cst w q F D Q M cm s)(Ql:List ByteArray)(hl:Ql.length=q.n)(h0:0<q.n)(h1:q.n<=160)(hQ:∀i,i<q.n->Ql.getD i ⟨#[]⟩=Q i)(hsz:∀x∈Ql,x.size=256)(hb:s.h+s.m<=900000000) :
  Calls prog 32 #[.pointer (some ⟨q.c,0,none⟩)] w fun e w'=>∃r,e=.returned (.tuple #[.pointer (some ⟨r,0,none⟩),.int .i64 0])/\Bgn w w' r q F D Q M cm s Ql:=by
 have hpa:=Jo hC;obtain⟨wa,hmk,hOa,hka⟩:=Er w q.n (by omega);have cell:=Am wa #[.pointer (some ⟨q.c,0,none⟩),.bool false,.slice (some ⟨w.heap.size,0,none⟩) q.n q.n,.slice none 0 0] 99;have frz:=CK wa #[.pointer (some ⟨q.c,0,none⟩),.bool false,.slice (some ⟨w.heap.size,0,none⟩) q.n q.n,.slice none 0 0] 99;have kb:=Kp.alloc none' wa (.cells #[.pointer (some ⟨q.c,0,none⟩),.bool false,.slice (some ⟨w.heap.size,0,none⟩) q.n q.n,.slice none 0 0] 99)
 have hlg:=(hOa.lt w.heap.size rfl).2;have hWb:Wm (wa.alloc (.cells #[.pointer (some ⟨q.c,0,none⟩),.bool false,.slice (some ⟨w.heap.size,0,none⟩) q.n q.n,.slice none 0 0] 99)) wa.heap.size w.heap.size (fun k=>k=w.heap.size\/k=wa.heap.size) q.c (pgK Ql 0) []:=by
  refine⟨cell 0 _ rfl,cell 1 _ rfl,⟨q.n,by rw[AY,hl];exact cell 2 _ rfl,?_⟩,⟨_,[],cell 3 _ rfl,Ow.nil _ _ _ _,(fun k hk=>by cases hk),rfl,(fun i h=>absurd h (by simp)),(fun i j h=>absurd h (by simp))⟩,frz,.inr rfl,.inl rfl,by omega⟩;rw[AY,NC,hl];exact Ow.mono (hOa.keptN kb) (Nat.zero_le _)
 have hZb:Cz w (wa.alloc (.cells #[.pointer (some ⟨q.c,0,none⟩),.bool false,.slice (some ⟨w.heap.size,0,none⟩) q.n q.n,.slice none 0 0] 99)) q F (fun k=>F k/\k<w.heap.size) D Q M cm s 0 s:=⟨Cas.keptN (Cas.keptN (Cas.mono hC (fun k h1 h2=>⟨h2,h1⟩)) hka) kb,fun k h=>.inl h.1,(hka.then kb).mono (fun _ _ h=>h.elim),Nat.le_refl _⟩;have HWB:=hide hWb;have HZB:=hide hZb;have HAG:Hid (Ag (pgK Ql Ql.length) [] ⟨Ql,Ql,[],false⟩):=NP Ql (by omega) (by omega) hsz;have HQ:=hide hQ
 have HU:Hid (∀k (W:World) (r gP:Nat) (V:Nat->Prop),k<q.n->Wm W r gP V q.c (pgK Ql k) []->Calls prog 39 #[.pointer (some ⟨r,0,none⟩),.int .i64 (k:Int)] W fun e w'=>e=.returned (.bool (isU Ql k))/\w'=W):=fun k W r gP V hk hW=>by
  rcases Nat.eq_zero_or_pos k with e|e
  ·subst e;exact Kd r gP V q.c _ _ W hW (by rw[AY];omega)
  ·have hp:=PE Ql k e (by omega);have h:=Di r gP V q.c (pgK Ql k) [] (k:Int) W hW (by rw[AY];omega) (by rw[AY];omega) (by rw[hp];exact Dh (by omega) hsz);have e2:usedB (pgK Ql k) (k:Int)=isU Ql k:=by
    unfold usedB isU;rw[AY,decide_eq_true ⟨by omega,by omega⟩,Bool.true_and,Int.toNat_natCast,hp]
   rw[e2]at h;exact h
 obtain⟨n,HN⟩:∃n,Hid (q.n=n):=⟨_,rfl⟩;have hlw:w.heap.size<wa.heap.size:=hlg;rw[HN.out]at hpa hmk HWB HZB h0 h1 hl HQ HU;have h0i:¬(n:Int)<1:=by omega
 obtain⟨g,HG⟩:∃g,Hid (w.heap.size=g):=⟨_,rfl⟩;rw[HG.out]at hmk HWB hlw;rw[HG.out]at HZB;have h0n:0<=(n:Int):=by omega
 clear hC hOa hka kb cell frz hlg hWb hZb hQ;go_enter func32,ntmps32;go_upto_region 4 with (first
  | (go_at_call 52;refine hpa.mono ?_;rintro e w' ⟨rfl,hw'⟩;obtain rfl:=hw'.symm)
  | (at_make;refine Bu rfl (.tmp 13) (.tmp 13) 70 rfl _ _ rfl rfl hmk ?_)
  | fail)
 obtain⟨r,HR⟩:∃r,Hid (wa.heap.size=r):=⟨_,rfl⟩;obtain⟨wb,HB⟩:∃wb,Hid (wa.alloc (.cells #[.pointer (some ⟨q.c,0,none⟩),.bool false,.slice (some ⟨g,0,none⟩) n n,.slice none 0 0] 99)=wb):=⟨_,rfl⟩;rw[HB.out]at HWB HZB |-;rw[HR.out]at HWB hlw |-;have b2:wb.cell? ⟨r,2,none⟩=some (.slice (some ⟨g,0,none⟩) n n):=by
  have:=HWB.out;show _=_;rw[<-HB.out,<-HR.out];exact Am wa _ _ 2 _ rfl
 have hgw:=HG.out;go_wp2;go_loopw [22] (fun t wr=>∃k:Nat,k<=n/\t=.int .i64 k/\∃F' s',Wm wr r g (fun j=>j=g\/j=r) q.c (pgK Ql k) []/\Cz w wr q F F' D Q M cm s k s'/\¬F' g/\¬F' r) (fun t _=>n - (intOf t).toNat)
 case atStart=>exact⟨0,Nat.zero_le _,rfl,_,s,HWB.out,HZB.out,(fun h=>by have:=h.2;omega),(fun h=>by have:=h.2;omega)⟩
 case round =>
  obtain⟨k,hk,rfl,F',s',hW,hZ,hg,hr⟩:=hrel;clear HWB HZB b2;by_cases hlt:k<n
  ·have hki:(k:Int)<(n:Int):=by omega
   have hu:=HU.out k wr r g _ hlt hW;have hrd:=hZ.read (by omega) (k:Int);have hin:inR q.n (k:Int)=true:=GH.2 ⟨by omega,by rw[HN.out];exact hki⟩;have er1:rdCS q.n Q (k:Int)=Q k:=by unfold rdCS;rw[if_pos hin,Int.toNat_natCast]
   have er2:rdCE q.n (k:Int)=0:=by unfold rdCE;rw[if_pos hin]
   rw[er1,er2,<-HQ.out k hlt]at hrd;have HW:=hide hW;have HZ:=hide hZ;have hrlt:=hW.lt;have hglt:g<wr.heap.size:=lt_of_cell ((hW.pageAt 0 (by rw[AY];omega)).1);cases hU:isU Ql k with
   | false =>
    rw[hU]at hu;have HP:=hide (Pg Ql k hU);clear hrd hW hZ hU;go_wp2_with (first
     | (go_at_call 39;refine hu.mono ?_;rintro e w' ⟨rfl,hw'⟩;obtain rfl:=hw'.symm)
     | fail)
    go_roundw
    case rel=>exact⟨k+1,by omega,by go_num,F',s',by rw[HP.out];exact HW.out,⟨HZ.out.c,HZ.out.f,HZ.out.k,by have:=HZ.out.b;omega⟩,hg,hr⟩
    case measure=>simp[intOf];omega
   | true =>
    rw[hU]at hu;have HP:=hide (MV Ql k (by omega) hU);obtain⟨X,HX⟩:∃X,Hid (Ql.getD k ⟨#[]⟩=X):=⟨_,rfl⟩;rw[HX.out]at hrd HP;have HRD:=hide hrd;clear hrd hW hZ hU er1 er2 hin;go_upto_region 11 with (first
     | (go_at_call 39;refine hu.mono ?_;rintro e w' ⟨rfl,hw'⟩;obtain rfl:=hw'.symm)
     | (go_at_call 53;refine HRD.out.mono ?_;rintro e w2 ⟨rfl,F2,s2,hZ2,hf2,hf2',hk2⟩)
     | fail)
    have hW2:=HW.out.kept hk2 (fun j _ hj=>by
     rcases hj with e|e
     ·rw[e];exact hg
     ·rw[e];exact hr)
    have hkP:k<(pgK Ql k).length:=by rw[AY,hl];exact hlt
    obtain⟨cN,q2,_⟩:=hW2.c2;obtain⟨g0,gf⟩:=hW2.pageAt k hkP;obtain⟨p1,p2⟩:=hW2.putPage k X hkP;have hg2:¬F2 g:=fun h=>hg (hf2 g hglt h);have hr2:¬F2 r:=fun h=>hr (hf2 r hrlt h);have hZ3:=hZ2.own p2 (fun j e=>by have e':j=g:=e;rw[e'];exact⟨by omega,hg2⟩);rw[<-HP.out]at p1;have HP1:=hide p1;have HZ3:=hide hZ3;rw[AY,hl]at q2;clear p1 hZ3 hZ2 hW2;go_wp2;go_roundw
    case rel=>exact⟨k+1,by omega,by go_num,F2,s2,HP1.out,HZ3.out,hg2,hr2⟩
    case measure=>simp[intOf];omega
  ·have hkn:k=n:=by omega
   have hkl:k=Ql.length:=by omega
   rw[hkl]at hW;have HF:Hid (Bgn w wr r q F D Q M cm s Ql):=⟨F',_,s',.inr ⟨rfl,g,_,_,hW,HAG.out,Nat.le_refl _,fun l h=>by cases h⟩,⟨hZ.c,hZ.f,hZ.k,Nat.le_trans hZ.b (by omega)⟩,fun j hj=>by
    rcases hj with e|e
    ·rw[e];exact⟨by omega,hg⟩
    ·rw[e];exact⟨by omega,hr⟩⟩
   clear hW hZ hkl;subst hkn;clear hl;go_wp2;go_ret2;exact⟨r,rfl,HF.out⟩
def zeroP(n:Nat):List ByteArray:=List.replicate n (fillB 0)
theorem Eo(n:Nat):(zeroP n).length=n:=by simp[zeroP]
theorem IE(n:Nat):∀x∈zeroP n,x.size=256:=fun x hx=>by
 rw[List.eq_of_mem_replicate hx]
 exact Bz 0
theorem Ji(n i:Nat)(hi:i<n)(d:ByteArray):(zeroP n).getD i d=fillB 0:=by
 unfold zeroP;rw[List.getD_eq_getElem?_getD,List.getElem?_replicate,if_pos hi];rfl
theorem My(i:Nat):bitOf (fillB 0) i=false:=by
 have e:A8 (fillB 0) (i / 8)=0:=by
  unfold A8 fillB;rw[List.getD_eq_getElem?_getD,List.getElem?_replicate];split<;>rfl
 unfold bitOf;rw[e];simp
theorem Tk.begin(n:Nat)(h0:0<n)(h1:n<=160):Tk ⟨zeroP n,zeroP n,[],false⟩ n (fun _=>false):=by
 refine⟨rfl,Eo n,h0,h1,IE n,fun i hi hin=>?_⟩;show isU (zeroP n) i=false;unfold isU pg0;rw[Ji n 0 h0,My];have:(i==0)=false:=by simpa using (by omega:i≠0)
 rw[this];rfl
end Go.Proofs.YtjojffepakclcaaGreatDoor
