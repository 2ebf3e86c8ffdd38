/- Part of the proof: contracts over the turned program. -/
import Derived.Test.YtgcgacjhkhjhmaaGreatDoorX23
import Derived.Test.YtgcgacjhkhjhmaaGreatDoorX13
import Derived.Test.YtgcgacjhkhjhmaaGreatDoorX20
set_option linter.unusedVariables false
set_option maxHeartbeats 4000000
open Go.Proofs.Tryz
namespace Go.Proofs.YtgcgacjhkhjhmaaGreatDoor
open Go.RowKit
def zeroB(n:Nat):ByteArray:=⟨(List.replicate n 0).toArray⟩
theorem KE:zeroB 256=fillB 0:=rfl
theorem I8(n:Nat):Lib.repeatL [0] n=List.replicate n 0:=by
 induction n with
 | zero=>rfl
 | succ n ih=>show [0]++Lib.repeatL [0] n=_;rw[ih,List.replicate_succ];rfl
set_option maxRecDepth 100000 in
theorem Ku(n:Nat)(w:World)(hn:n<=1000):Calls prog 25 #[.int .i64 (n:Int)] w fun e w'=>e=.returned (.string (zeroB n))/\Kp none' w w':=by
 have hr:=strings_Repeat ⟨#[0]⟩ n w (by omega) (by show 1*n<=_;omega);have e:(⟨(Lib.repeatL (⟨#[0]⟩:ByteArray).data.toList n).toArray⟩:ByteArray)=zeroB n:=by
  show (⟨(Lib.repeatL [0] n).toArray⟩:ByteArray)=_;rw[I8];rfl
 rw[e]at hr;obtain⟨Z,HZ⟩:∃Z,Hid (zeroB n=Z):=⟨_,rfl⟩;rw[HZ.out]at hr |-;go_enter func25,ntmps25;go_wp2_with (first
  | (go_at_call 29;refine hr.mono ?_;rintro e w' ⟨rfl,hb⟩)
  | fail)
 go_ret;exact⟨rfl,Kp.ofBelow hb⟩
theorem Wm.putPage{w:World}{r gP:Nat}{V:Nat->Prop}{c:Nat}{P:List ByteArray}{NL:List (List Chg)}(H:Wm w r gP V c P NL)(n:Nat)(x:ByteArray)(hn:n<P.length):Wm (w.setCell ⟨gP,n,none⟩ (.string x)) r gP V c (P.set n x) NL/\Kp (only gP) w (w.setCell ⟨gP,n,none⟩ (.string x)):=by
 have hp:=Put.set w gP n (.string x) _ (H.pageAt n hn).1;have hrg:¬only gP r:=fun e=>H.gg.2.2 (Eq.symm e);obtain⟨cN,b1,b2⟩:=H.c2;obtain⟨v,vs,d1,d2,d3,d4,d5,d6⟩:=H.c3
 refine⟨⟨hp.kp.cell H.c0 hrg,hp.kp.cell H.c1 hrg,⟨cN,by rw[List.length_set];exact hp.kp.cell b1 hrg,by rw[List.length_set];exact Ow.storedS b2 n x rfl⟩,⟨v,vs,hp.kp.cell d1 hrg,d2.kept hp.kp (fun k hk e=>(d3 k hk).2.2 e),d3,d4,fun i h h'=>⟨(d5 i h h').1.kept hp.kp (fun k hk e=>((d5 i h h').2 k hk).2.2.1 e),(d5 i h h').2⟩,d6⟩,fun j=>by rw[hp.fr];exact H.fr j,H.gg⟩,hp.kp⟩
theorem Wm.putNote{w w2:World}{r gP:Nat}{V:Nat->Prop}{c:Nat}{P:List ByteArray}{NL:List (List Chg)}(H:Wm w r gP V c P NL){gV nv cap:Nat}{vs:List Value}
  (d1:w.cell? ⟨r,3,none⟩=some (.slice (some ⟨gV,0,none⟩) nv cap)) (d2:Ow (fun x:Value=>x) 72 w 0 (.slice (some ⟨gV,0,none⟩) nv cap) vs) (d3:∀k,(Value.slice (some ⟨gV,0,none⟩) nv cap).ownBlock=some k->V k/\k≠r/\k≠gP) (d4:vs.length=NL.length)
  (d5:∀i (h:i<vs.length) (h':i<NL.length),OwC 75 w 0 vs[i] NL[i]/\∀k,vs[i].ownBlock=some k->V k/\k≠r/\k≠gP/\(Value.slice (some ⟨gV,0,none⟩) nv cap).ownBlock≠some k)
  (d6:∀i j (h:i<vs.length) (h':j<vs.length),i≠j->∀k,vs[i].ownBlock=some k->vs[j].ownBlock≠some k)
  (k:Nat) (hk:k<vs.length) {u:Value} {l:List Chg} (hO:OwC 75 w2 0 u l) (hK:Kp (fun b=>vs[k].ownBlock=some b) w w2) (hu:∀b,u.ownBlock=some b->vs[k].ownBlock=some b\/w.heap.size<=b) :
  Wm (w2.setCell ⟨gV,k,none⟩ u) r gP (fun b=>V b\/w.heap.size<=b) c P (NL.set k l)/\Kp V w (w2.setCell ⟨gV,k,none⟩ u):=by
 have hgV:=d3 gV rfl;have hkN:k<NL.length:=by omega
 have hvk:=(d5 k hk hkN).2;have hngV:¬vs[k].ownBlock=some gV:=fun e=>(hvk gV e).2.2.2 rfl;have hnr:¬vs[k].ownBlock=some r:=fun e=>(hvk r e).2.1 rfl;have hngP:¬vs[k].ownBlock=some gP:=fun e=>(hvk gP e).2.2.1 rfl;have hgVlt:gV<w.heap.size:=(d2.lt gV rfl).2;have d22:=d2.kept hK (fun b e=>by have e':gV=b:=Option.some.inj e;subst e';exact hngV);have hc:=d22.cellAt k hk;have hp:=Put.set w2 gV k u _ hc.1
 have KF:Kp (fun b=>b=gV\/vs[k].ownBlock=some b) w (w2.setCell ⟨gV,k,none⟩ u):=(hK.mono (fun b _ h=>.inr h)).then (hp.kp.mono (fun b _ e=>.inl e));have nr:¬(r=gV\/vs[k].ownBlock=some r):=fun e=>by
  rcases e with e|e
  ·exact hgV.2.1 e.symm
  ·exact hnr e
 have ngP:¬(gP=gV\/vs[k].ownBlock=some gP):=fun e=>by
  rcases e with e|e
  ·exact hgV.2.2 e.symm
  ·exact hngP e
 obtain⟨cN,b1,b2⟩:=H.c2;have hgPlt:gP<w.heap.size:=(b2.lt gP rfl).2;have hrlt:=H.lt;have hub:∀b,u.ownBlock=some b->(V b\/w.heap.size<=b)/\b≠r/\b≠gP/\(Value.slice (some ⟨gV,0,none⟩) nv cap).ownBlock≠some b:=fun b hb=>by
  rcases hu b hb with h|h
  ·exact⟨.inl (hvk b h).1,(hvk b h).2⟩
  ·exact⟨.inr h,by omega,by omega,fun e=>by have e':gV=b:=Option.some.inj e;omega⟩
 have d6':∀i (h:i<vs.length),i≠k->∀b,vs[i].ownBlock=some b->u.ownBlock≠some b:=fun i h hne b hb hb'=>by
  rcases hu b hb' with e|e
  ·exact d6 i k h hk hne b hb e
  ·have:=((d5 i h (by omega)).1.lt b hb).2;omega
 refine⟨⟨KF.cell H.c0 nr,KF.cell H.c1 nr,⟨cN,KF.cell b1 nr,b2.kept KF (fun b e=>by have e':gP=b:=Option.some.inj e;subst e';exact ngP)⟩,⟨_,vs.set k u,KF.cell d1 nr,(Ow.stored d22 k u).1,fun b hb=>⟨.inl (d3 b hb).1,(d3 b hb).2⟩,by rw[List.length_set,List.length_set];exact d4,fun i h h'=>?_,fun i j h h' hne b hb=>?_⟩,fun j=>by rw[KF.frozen hrlt nr];exact H.fr j,.inl H.gg.1,.inl H.gg.2.1,H.gg.2.2⟩,KF.mono (fun b _ e=>?_)⟩
 ·rw[List.length_set]at h h';by_cases e:k=i
  ·subst e;have e1:(vs.set k u)[k]'(by rw[List.length_set];exact hk)=u:=by simp
   have e2:(NL.set k l)[k]'(by rw[List.length_set];exact hkN)=l:=by simp
   rw[e1,e2];exact⟨hO.kept hp.kp (fun b hb e=>(hub b hb).2.2.2 (by have e':b=gV:=e;rw[e'];rfl)),hub⟩
  ·have e1:(vs.set k u)[i]'(by rw[List.length_set];exact h)=vs[i]:=by rw[List.getElem_set_ne e]
   have e2:(NL.set k l)[i]'(by rw[List.length_set];exact h')=NL[i]:=by rw[List.getElem_set_ne e]
   rw[e1,e2];have hi:=d5 i h h';refine⟨hi.1.kept KF (fun b hb e'=>?_),fun b hb=>⟨.inl (hi.2 b hb).1,(hi.2 b hb).2⟩⟩;rcases e' with e'|e'
   ·exact(hi.2 b hb).2.2.2 (by rw[e'];rfl)
   ·exact d6 i k h hk (fun e''=>e e''.symm) b hb e'
 ·rw[List.length_set]at h h';by_cases ei:k=i
  ·subst ei;have e1:(vs.set k u)[k]'(by rw[List.length_set];exact hk)=u:=by simp
   have e2:(vs.set k u)[j]'(by rw[List.length_set];exact h')=vs[j]:=by rw[List.getElem_set_ne hne]
   rw[e1]at hb;rw[e2];exact fun hb'=>d6' j h' (fun e=>hne e.symm) b hb' hb
  ·have e1:(vs.set k u)[i]'(by rw[List.length_set];exact h)=vs[i]:=by rw[List.getElem_set_ne ei]
   rw[e1]at hb;by_cases ej:k=j
   ·subst ej;have e2:(vs.set k u)[k]'(by rw[List.length_set];exact hk)=u:=by simp
    rw[e2];exact d6' i h (fun e=>ei e.symm) b hb
   ·have e2:(vs.set k u)[j]'(by rw[List.length_set];exact h')=vs[j]:=by rw[List.getElem_set_ne ej]
    rw[e2];exact d6 i j h h' hne b hb
 ·rcases e with e|e
  ·rw[e];exact hgV.1
  ·exact(hvk b e).1
theorem D4{P:Program}{w:World}{ops:Array Oper}{o:Oper}{a:Act}{K:Act->World->Prop}{Q:Exit->Act->World->Prop}{E:Prop}{d:Nat}(hgd:o.guard=none)(hd:o.dst=some d)(s x:Operand)(t tx:TypeId)
  (ho:o.op=.call { callee:=.builtin .append,args:=#[s,x],argTypes:=#[t,tx] }) (v xv:Value) (hs:a.eval s=v) (hx:a.eval x=xv) {v':Value} {w':World}
  (hr:(Builtin.append_ #[t,tx] o.type #[v,xv]).run P w=.ok v' w') (h:K (a.put (some d) v') w'):if Region.wanted o (yielded ops a.tmps)=true then Oper.wp P o a w K Q else E :=
 FY hgd s x t tx ho v xv hs hx hr (by rw[hd];exact h)
theorem KJ(w:World)(base:Nat)(v:Value)(l:List Chg)(x:Chg)(hO:OwC 75 w base v l)(hl:l.length<=1000000)(hb:base<=w.heap.size) :
  ∃v' w',(Builtin.append_ #[72,72] 72 #[v,.slice (some ⟨w.heap.size,0,none⟩) 1 1]).run prog (w.alloc (.cells #[.int .i64 x.page,.string x.data] 75))=.ok v' w'/\OwC 75 w' base v' (l++[x])/\Kp (fun b=>v.ownBlock=some b) w w'/\(∀b,v'.ownBlock=some b->v.ownBlock=some b\/w.heap.size<b):=by
 obtain⟨i0,hi,hz0,hz1,hz2⟩:=info_parts O0;have ka:=Kp.alloc none' w (.cells #[.int .i64 x.page,.string x.data] 75);have hs:(w.alloc (.cells #[.int .i64 x.page,.string x.data] 75)).heap.size=w.heap.size+1:=by simp
 obtain⟨v',w',h1,h2,h3,h4⟩:=Ba (P:=prog) (w.alloc (.cells #[.int .i64 x.page,.string x.data] 75)) base 72 72 72 75 i0 _ 2 24 underlying72 hi hz0 (by rfl) hz1 hz2 v l.length (ccs l) (hO.keptN ka) _ 1 [.int .i64 x.page,.string x.data] (Pt w 72 75 underlying72 _ _ rfl rfl _ rfl) (by omega) (by omega) (by unfold maxLen;omega) (by omega);refine⟨v',w',h1,OwC.snoc h2,(ka.mono (fun _ _ h=>h.elim)).then (Kp.ofGrown h3 (fun b he _=>he)),fun b hb'=>?_⟩;rcases h4 with h|h
 ·exact .inl (by rw[<-h];exact hb')
 ·rw[h,hs]at hb';have:w.heap.size+1=b:=Option.some.inj hb';exact .inr (by omega)
set_option maxRecDepth 100000 in
theorem CR(r gP c n:Nat)(V:Nat->Prop)(P:List ByteArray)(NL:List (List Chg))(x:ByteArray)(w:World)(H:Wm w r gP V c P NL)(hn:n<P.length)(h1:P.length<=160)(hN:NL.length<=10000)(hl:∀l∈NL,l.length<=10000)(hpg:∀l∈NL,∀c∈l,0<=c.page/\c.page<(P.length:Int)) :
  Calls prog 24 #[.pointer (some ⟨r,0,none⟩),.int .i64 (n:Int),.string x] w fun e w'=>e=.returned (.tuple #[])/\Wm w' r gP (fun b=>V b\/w.heap.size<=b) c (P.set n x) (chgN P NL n)/\Kp V w w':=by
 obtain⟨cN,c2,_⟩:=H.c2;obtain⟨v,vs,d1,d2,d3,d4,d5,d6⟩:=H.c3;obtain⟨na,nc,hv,hvk⟩:=d2.open;rw[d4]at hv;have hni:(n:Int)<(P.length:Int):=by omega
 by_cases hN0:NL.length=0
 ·have e1:chgN P NL n=NL:=by unfold chgN;rw[if_pos hN0]
  rw[e1];obtain⟨g0,gf⟩:=H.pageAt n hn;obtain⟨p1,p2⟩:=H.putPage n x hn;have HF1:=hide (p1.mono (V':=fun b=>V b\/w.heap.size<=b) (fun _ _ h=>.inl h));have HF2:Hid (Kp V w (w.setCell ⟨gP,n,none⟩ (.string x))):=p2.mono (fun b _ e=>by have e':b=gP:=e;rw[e'];exact H.gg.2.1);rw[hN0]at hv;subst hv;obtain⟨ln,HL⟩:∃ln,Hid (P.length=ln):=⟨_,rfl⟩;rw[HL.out]at c2 hni;clear H p1 p2 d2 d3 d5 d6 hvk;go_enter func24,ntmps24;go_wp2;go_end0;exact⟨rfl,HF1.out,HF2.out⟩
 ·obtain⟨kk,HKK⟩:∃kk,Hid (NL.length - 1=kk):=⟨_,rfl⟩;have hk:kk<NL.length:=by have:=HKK.out;omega
  have hkv':kk<vs.length:=by omega
  obtain⟨gV,hna,_,hcv⟩:=hvk kk hkv';subst hna;subst hv;have hlast:lastC NL=NL[kk]:=by
   unfold lastC;rw[HKK.out,List.getD_eq_getElem?_getD,List.getElem?_eq_getElem hk];rfl
  have hOl:=(d5 kk hkv' hk).1;rw[<-hlast]at hOl;have hlm:=Ch hN0;have hll:=hl _ hlm;have hna:=Km _ (lastC NL) n _ w hOl.chs (by omega) (fun c hc=>by have:=hpg _ hlm c hc;omega);have hki:((NL.length:Int) - 1)=(kk:Int):=by have:=HKK.out;omega
  have hkl:(kk:Int)<(NL.length:Int):=by have:=HKK.out;omega
  have hO2:=fun (w1:World) (hk1:Kp none' w w1)=>KJ w1.drew 0 (vs[kk]'hkv') (lastC NL) ⟨(n:Int),P.getD n ⟨#[]⟩⟩ (hOl.keptN (hk1.then (Kp.drew none' w1))) (by omega) (Nat.zero_le _);have HOA:=hide hO2;clear hO2;have hOk:=hide hOl;obtain⟨ua,uc,huv,_⟩:=hOl.chs
  have HPP:Hid (∀(W:World) (V':Nat->Prop) (M:List (List Chg)),Wm W r gP V' c P M->(∃cN,W.cell? ⟨r,2,none⟩=some (.slice (some ⟨gP,0,none⟩) P.length cN))/\W.cell? ⟨gP,n,none⟩=some (.string (P.getD n ⟨#[]⟩))/\W.frozen? ⟨gP,n,none⟩=false/\Wm (W.setCell ⟨gP,n,none⟩ (.string x)) r gP V' c (P.set n x) M/\Kp V' W (W.setCell ⟨gP,n,none⟩ (.string x))):=fun W V' M hW=>by
   obtain⟨cN',q1,_⟩:=hW.c2;obtain⟨g0,gf⟩:=hW.pageAt n hn;obtain⟨p1,p2⟩:=hW.putPage n x hn;exact⟨⟨cN',q1⟩,g0,gf,p1,p2.mono (fun b _ e=>by have e':b=gP:=e;rw[e'];exact hW.gg.2.1)⟩
  have HNT:Hid (∀(w2:World) (u:Value) (l:List Chg),OwC 75 w2 0 u l->Kp (fun b=>(vs[kk]'hkv').ownBlock=some b) w w2->(∀b,u.ownBlock=some b->(vs[kk]'hkv').ownBlock=some b\/w.heap.size<=b)->Wm (w2.setCell ⟨gV,kk,none⟩ u) r gP (fun b=>V b\/w.heap.size<=b) c P (NL.set kk l)/\Kp V w (w2.setCell ⟨gV,kk,none⟩ u)):=fun w2 u l a1 a2 a3=>H.putNote d1 d2 d3 d4 d5 d6 kk hkv' a1 a2 a3;have hvb:¬(vs[kk]'hkv').ownBlock=some r/\¬(vs[kk]'hkv').ownBlock=some gV:=by
   have h5:=(d5 kk hkv' (by omega)).2;exact⟨fun e=>(h5 r e).2.1 rfl,fun e=>(h5 gV e).2.2.2 rfl⟩
  have hvp:¬(vs[kk]'hkv').ownBlock=some gP:=fun e=>(((d5 kk hkv' (by omega)).2 gP e).2.2.1) rfl;have hgr:¬only gV r/\¬only gV gP:=⟨fun e=>(d3 gV rfl).2.1 (Eq.symm e),fun e=>(d3 gV rfl).2.2 (Eq.symm e)⟩;have hgf:=(d2.cellAt kk hkv').2;have hrV:=H.gg;have hrf:=H.lt;have hgVlt:gV<w.heap.size:=(d2.lt gV rfl).2;have HH:=hide H;obtain⟨pn,HPN⟩:∃pn,Hid (P.getD n ⟨#[]⟩=pn):=⟨_,rfl⟩;have hpc:=(H.pageAt n hn).1;have HSZ:Hid (NL.length - 1=kk):=HKK;rw[HPN.out]at HOA HPP hpc
  have HCH:Hid (chgN P NL n=if Be (lastC NL) n then NL else NL.set kk (lastC NL++[⟨(n:Int),pn⟩])):=by
   show _=_;unfold chgN;rw[if_neg hN0,HKK.out,HPN.out]
  obtain⟨ln,HL⟩:∃ln,Hid (P.length=ln):=⟨_,rfl⟩;obtain⟨nl,HNL⟩:∃nl,Hid (NL.length=nl):=⟨_,rfl⟩;rw[HL.out]at c2 hni HPP;rw[HNL.out]at d1 hki hkl;obtain⟨lc,HLC⟩:∃lc,Hid (lastC NL=lc):=⟨_,rfl⟩;rw[HLC.out]at hna HOA huv HCH hOk;obtain⟨vk,HVK⟩:∃vk,Hid (vs[kk]'hkv'=vk):=⟨_,hide rfl⟩;rw[HVK.out]at hna HOA huv hcv HNT hvb hvp;have hnl:0<=(nl:Int) - 1/\(nl:Int) - 1<1000000:=by have:=HNL.out;omega
  clear H d2 d3 d5 d6 hvk hOl hlm hll hlast hOk;rw[HCH.out];cases hnm:Be lc n with
  | true =>
   rw[hnm]at hna;have HW1:Hid (∀w1,Kp none' w w1->Wm w1 r gP (fun b=>V b\/w.heap.size<=b) c P NL):=fun w1 h=>(HH.out.keptN h).mono (fun _ _ h=>.inl h);subst huv;go_enter func24,ntmps24;go_upto_region 3 with (first
    | (go_at_call 46;refine hna.mono ?_;rintro e w1 ⟨rfl,hk1⟩)
    | fail)
   obtain⟨⟨cN',q1⟩,q2,q3,q4,q5⟩:=HPP.out w1 _ _ (HW1.out w1 hk1);have HQ4:=hide q4;have HQ5:Hid (Kp V w (w1.setCell ⟨gP,n,none⟩ (.string x))):=hk1.trans q5 (fun _ _ h=>h.elim) (fun b hb h=>by rcases h with h|h;exact h;omega);clear q4 q5;go_wp2;go_end0;exact⟨rfl,HQ4.out,HQ5.out⟩
  | false =>
   rw[hnm]at hna;subst huv;go_enter func24,ntmps24;go_upto_region 2 with (first
    | (go_at_call 46;refine hna.mono ?_;rintro e w1 ⟨rfl,hk1⟩)
    | fail)
   obtain⟨v2,w2,hap,hO2,hk2,hv2⟩:=HOA.out w1 hk1;have k1d:Kp none' w w1.drew:=hk1.then (Kp.drew none' w1);have ka:=Kp.alloc none' w1.drew (.cells #[.int .i64 (n:Int),.string pn] 75);have kwa:=k1d.then ka;have kw2:=k1d.nThen hk2;have a3:=k1d.cell d1 (fun h=>h);have a2:=k1d.cell c2 (fun h=>h);have ap:=k1d.cell hpc (fun h=>h);have av:=k1d.cell hcv (fun h=>h);have b3:=kwa.cell d1 (fun h=>h);have b2:=kwa.cell c2 (fun h=>h);have bp:=kwa.cell hpc (fun h=>h)
   have f3:=(hk1.then (Kp.alloc none' w1 (.cells #[.int .i64 (n:Int),.string pn] 75))).cell d1 (fun h=>h);have fv:=(hk1.then (Kp.alloc none' w1 (.cells #[.int .i64 (n:Int),.string pn] 75))).cell hcv (fun h=>h);have e3:=kw2.cell d1 hvb.1;have e2:=kw2.cell c2 hvb.1;have ep:=kw2.cell hpc hvp;have ev:=kw2.cell hcv hvb.2;have ef:w2.frozen? ⟨gV,kk,none⟩=false:=by rw[kw2.frozen hgVlt hvb.2];exact hgf
   obtain⟨m1,m2⟩:=HNT.out w2 v2 _ hO2 kw2 (fun b hb=>by
    rcases hv2 b hb with h|h
    ·exact .inl h
    ·exact .inr (by have:=hk1.size;have e:w1.drew.heap.size=w1.heap.size:=rfl;omega))
   obtain⟨⟨cN',q1⟩,q2,q3,q4,q5⟩:=HPP.out _ _ _ m1;have s3:(w2.setCell ⟨gV,kk,none⟩ v2).cell? ⟨r,3,none⟩=some (.slice (some ⟨gV,0,none⟩) nl nc):=(Put.set w2 gV kk v2 _ ev).kp.cell e3 hgr.1;have s2:(w2.setCell ⟨gV,kk,none⟩ v2).cell? ⟨r,2,none⟩=some (.slice (some ⟨gP,0,none⟩) ln cN):=(Put.set w2 gV kk v2 _ ev).kp.cell e2 hgr.1;have sp:(w2.setCell ⟨gV,kk,none⟩ v2).cell? ⟨gP,n,none⟩=some (.string pn):=(Put.set w2 gV kk v2 _ ev).kp.cell ep hgr.2;have hv2s:=(hO2.chs).shape;obtain⟨va2,vc2,hv2e⟩:=hv2s
   obtain⟨L2,HL2⟩:∃L2,Hid ((lc++[(⟨(n:Int),pn⟩:Chg)]).length=L2):=⟨_,rfl⟩;rw[HL2.out]at hv2e;subst hv2e;have HQ4:=hide q4;have HQ5:Hid (Kp V w ((w2.setCell ⟨gV,kk,none⟩ (.slice va2 L2 vc2)).setCell ⟨gP,n,none⟩ (.string x))):=m2.trans q5 (fun _ _ h=>h) (fun b hb h=>by rcases h with h|h;exact h;omega);clear q4 q5 m1 m2 hO2 hk2 hv2 kw2 kwa ka
   refine wp_region_held_drew (S:=fun W=>W.cell? ⟨r,3,none⟩=some (.slice (some ⟨gV,0,none⟩) nl nc)/\W.cell? ⟨r,2,none⟩=some (.slice (some ⟨gP,0,none⟩) ln cN)/\W.cell? ⟨gP,n,none⟩=some (.string pn)) (by kernel_rfl) ⟨a3,a2,ap⟩ (fun hHeld=>?_);refine take_at (i:=0) (d:=27) (v:=?_) rfl rfl (by kernel_rfl) (by kernel_rfl) (by kernel_rfl) (fun _ _ _ h=>h) (Or.inl ⟨by rfl,?_⟩) (by assumption) ?_;rotate_left
   ·intro W hSW;try dsimp only at hSW
    go_simp;try with_reducible rfl
   simp only[Act.put,Qa,Qb,Qc];refine take_at (i:=1) (d:=28) (v:=?_) rfl rfl (by kernel_rfl) (by kernel_rfl) (by kernel_rfl) (fun _ _ _ h=>h) (Or.inl ⟨by rfl,?_⟩) (by assumption) ?_;rotate_left
   ·intro W hSW;try dsimp only at hSW
    go_simp;try with_reducible rfl
   simp only[Act.put,Qa,Qb,Qc];refine take_at (i:=2) (d:=29) (v:=?_) rfl rfl (by kernel_rfl) (by kernel_rfl) (by kernel_rfl) (fun _ _ _ h=>h) (Or.inl ⟨by rfl,?_⟩) (by assumption) ?_;rotate_left
   ·intro W hSW;try dsimp only at hSW
    go_simp;try with_reducible rfl
   simp only[Act.put,Qa,Qb,Qc];refine take_at (i:=3) (d:=30) (v:=?_) rfl rfl (by kernel_rfl) (by kernel_rfl) (by kernel_rfl) (fun _ _ _ h=>h) (Or.inl ⟨by rfl,?_⟩) (by assumption) ?_;rotate_left
   ·intro W hSW;try dsimp only at hSW
    go_simp;try with_reducible rfl
   simp only[Act.put,Qa,Qb,Qc];refine take_at (i:=4) (d:=31) (v:=?_) rfl rfl (by kernel_rfl) (by kernel_rfl) (by kernel_rfl) (fun _ _ _ h=>h) (Or.inl ⟨by rfl,?_⟩) (by assumption) ?_;rotate_left
   ·intro W hSW;try dsimp only at hSW
    go_simp;try with_reducible rfl
   simp only[Act.put,Qa,Qb,Qc];refine take_at (i:=5) (d:=32) (v:=?_) rfl rfl (by kernel_rfl) (by kernel_rfl) (by kernel_rfl) (fun _ _ _ h=>h) (Or.inl ⟨by rfl,?_⟩) (by assumption) ?_;rotate_left
   ·intro W hSW;try dsimp only at hSW
    go_simp;try with_reducible rfl
   simp only[Act.put,Qa,Qb,Qc];refine take_at (i:=6) (d:=33) (v:=?_) rfl rfl (by kernel_rfl) (by kernel_rfl) (by kernel_rfl) (fun _ _ _ h=>h) (Or.inl ⟨by rfl,?_⟩) (by assumption) ?_;rotate_left
   ·intro W hSW;try dsimp only at hSW
    go_simp;try with_reducible rfl
   simp only[Act.put,Qa,Qb,Qc];refine take_at (i:=7) (d:=34) (v:=?_) rfl rfl (by kernel_rfl) (by kernel_rfl) (by kernel_rfl) (fun _ _ _ h=>h) (Or.inl ⟨by rfl,?_⟩) (by assumption) ?_;rotate_left
   ·intro W hSW;try dsimp only at hSW
    go_simp;try with_reducible rfl
   simp only[Act.put,Qa,Qb,Qc];refine take_at (i:=8) (d:=35) (v:=?_) rfl rfl (by kernel_rfl) (by kernel_rfl) (by kernel_rfl) (fun _ _ _ h=>h) (Or.inl ⟨by rfl,?_⟩) (by assumption) ?_;rotate_left
   ·intro W hSW;try dsimp only at hSW
    go_simp;try with_reducible rfl
   simp only[Act.put,Qa,Qb,Qc];refine take_at (i:=9) (d:=36) (v:=?_) rfl rfl (by kernel_rfl) (by kernel_rfl) (by kernel_rfl) (fun _ _ _ h=>h) (Or.inl ⟨by rfl,?_⟩) (by assumption) ?_;rotate_left
   ·intro W hSW;try dsimp only at hSW
    go_simp;try with_reducible rfl
   simp only[Act.put,Qa,Qb,Qc];refine take_at (i:=10) (d:=37) (v:=?_) rfl rfl (by kernel_rfl) (by kernel_rfl) (by kernel_rfl) (fun _ _ _ h=>h) (Or.inl ⟨by rfl,?_⟩) (by assumption) ?_;rotate_left
   ·intro W hSW;try dsimp only at hSW
    go_simp;try with_reducible rfl
   simp only[Act.put,Qa,Qb,Qc];refine take_at (i:=12) (d:=39) (v:=?_) rfl rfl (by kernel_rfl) (by kernel_rfl) (by kernel_rfl) (fun _ _ _ h=>h) (Or.inl ⟨by rfl,?_⟩) (by assumption) ?_;rotate_left
   ·intro W hSW;try dsimp only at hSW
    go_simp;try with_reducible rfl
   simp only[Act.put,Qa,Qb,Qc];refine take_at (i:=13) (d:=40) (v:=?_) rfl rfl (by kernel_rfl) (by kernel_rfl) (by kernel_rfl) (fun _ _ _ h=>h) (Or.inl ⟨by rfl,?_⟩) (by assumption) ?_;rotate_left
   ·intro W hSW;try dsimp only at hSW
    go_simp;try with_reducible rfl
   simp only[Act.put,Qa,Qb,Qc];refine take_at (i:=14) (d:=41) (v:=?_) rfl rfl (by kernel_rfl) (by kernel_rfl) (by kernel_rfl) (fun _ _ _ h=>h) (Or.inl ⟨by rfl,?_⟩) (by assumption) ?_;rotate_left
   ·intro W hSW;try dsimp only at hSW
    go_simp;try with_reducible rfl
   simp only[Act.put,Qa,Qb,Qc];refine take_at (i:=15) (d:=42) (v:=?_) rfl rfl (by kernel_rfl) (by kernel_rfl) (by kernel_rfl) (fun _ _ _ h=>h) (Or.inl ⟨by rfl,?_⟩) (by assumption) ?_;rotate_left
   ·intro W hSW;try dsimp only at hSW
    go_simp;try with_reducible rfl
   simp only[Act.put,Qa,Qb,Qc];refine take_at (i:=16) (d:=43) (v:=?_) rfl rfl (by kernel_rfl) (by kernel_rfl) (by kernel_rfl) (fun _ _ _ h=>h) (Or.inl ⟨by rfl,?_⟩) (by assumption) ?_;rotate_left
   ·intro W hSW;try dsimp only at hSW
    go_simp;try with_reducible rfl
   simp only[Act.put,Qa,Qb,Qc];refine take_at (i:=17) (d:=44) (v:=?_) rfl rfl (by kernel_rfl) (by kernel_rfl) (by kernel_rfl) (fun _ _ _ h=>h) (Or.inl ⟨by rfl,?_⟩) (by assumption) ?_;rotate_left
   ·intro W hSW;try dsimp only at hSW
    go_simp;try with_reducible rfl
   simp only[Act.put,Qa,Qb,Qc];refine take_at (i:=18) (d:=45) (v:=?_) rfl rfl (by kernel_rfl) (by kernel_rfl) (by kernel_rfl) (fun _ _ _ h=>h) (Or.inl ⟨by rfl,?_⟩) (by assumption) ?_;rotate_left
   ·intro W hSW;try dsimp only at hSW
    go_simp;try with_reducible rfl
   simp only[Act.put,Qa,Qb,Qc];refine take_at (i:=19) (d:=46) (v:=?_) rfl rfl (by kernel_rfl) (by kernel_rfl) (by kernel_rfl) (fun _ _ _ h=>h) (Or.inl ⟨by rfl,?_⟩) (by assumption) ?_;rotate_left
   ·intro W hSW;try dsimp only at hSW
    go_simp;try with_reducible rfl
   simp only[Act.put,Qa,Qb,Qc];refine take_at (i:=20) (d:=47) (v:=?_) rfl rfl (by kernel_rfl) (by kernel_rfl) (by kernel_rfl) (fun _ _ _ h=>h) (Or.inl ⟨by rfl,?_⟩) (by assumption) ?_;rotate_left
   ·intro W hSW;try dsimp only at hSW
    go_simp;try with_reducible rfl
   simp only[Act.put,Qa,Qb,Qc];refine wpAnyH_ready (rs:=[11,21]) (by kernel_rfl) (by simp) ?_;refine AllReadyH.cons rfl (fun K hK=>?_) (AllReadyH.cons rfl (fun K hK=>?_) AllReadyH.nil)
   ·go_simp;refine hK.out _ _ ⟨a3,a2,ap⟩ (fun hHeld=>?_);clear hK K;refine wpAnyH_ready (rs:=[21]) (by kernel_rfl) (by simp) ?_;refine AllReadyH.cons rfl (fun K hK=>?_) AllReadyH.nil;go_simp;refine hK.out _ _ (⟨b3,b2,bp⟩) (fun hHeld=>?_);clear hK K;refine wpAnyH_ready (rs:=[22]) (by kernel_rfl) (by simp) ?_;refine AllReadyH.cons rfl (fun K hK=>?_) AllReadyH.nil;refine D4 (d:=49) (by rfl) (by rfl) (.tmp 38) (.tmp 48) 72 72 (by rfl) _ _ (by rfl) (by rfl) hap ?_
    refine hK.out _ _ ⟨e3,e2,ep⟩ (fun hHeld=>?_);clear hK K;simp only[Act.put,Qa,Qb,Qc];refine take_at (i:=23) (d:=50) (v:=?_) rfl rfl (by kernel_rfl) (by kernel_rfl) (by kernel_rfl) (fun _ _ _ h=>h) (Or.inl ⟨by rfl,?_⟩) (by assumption) ?_;rotate_left
    ·intro W hSW;try dsimp only at hSW
     go_simp;try with_reducible rfl
    simp only[Act.put,Qa,Qb,Qc];refine wpAnyH_ready (rs:=[24]) (by kernel_rfl) (by simp) ?_;refine AllReadyH.cons rfl (fun K hK=>?_) AllReadyH.nil;go_simp;refine hK.out _ _ ⟨s3,s2,sp⟩ (fun hHeld=>?_);clear hK K;refine wpAnyH_done (by kernel_rfl) ?_ _;go_wp2;go_end0;exact⟨rfl,HQ4.out,HQ5.out⟩
   ·go_simp;refine hK.out _ _ ⟨b3,b2,bp⟩ (fun hHeld=>?_);clear hK K;refine wpAnyH_ready (rs:=[11]) (by kernel_rfl) (by simp) ?_;refine AllReadyH.cons rfl (fun K hK=>?_) AllReadyH.nil;go_simp;refine hK.out _ _ (⟨b3,b2,bp⟩) (fun hHeld=>?_);clear hK K;refine wpAnyH_ready (rs:=[22]) (by kernel_rfl) (by simp) ?_;refine AllReadyH.cons rfl (fun K hK=>?_) AllReadyH.nil;refine D4 (d:=49) (by rfl) (by rfl) (.tmp 38) (.tmp 48) 72 72 (by rfl) _ _ (by rfl) (by rfl) hap ?_
    refine hK.out _ _ ⟨e3,e2,ep⟩ (fun hHeld=>?_);clear hK K;simp only[Act.put,Qa,Qb,Qc];refine take_at (i:=23) (d:=50) (v:=?_) rfl rfl (by kernel_rfl) (by kernel_rfl) (by kernel_rfl) (fun _ _ _ h=>h) (Or.inl ⟨by rfl,?_⟩) (by assumption) ?_;rotate_left
    ·intro W hSW;try dsimp only at hSW
     go_simp;try with_reducible rfl
    simp only[Act.put,Qa,Qb,Qc];refine wpAnyH_ready (rs:=[24]) (by kernel_rfl) (by simp) ?_;refine AllReadyH.cons rfl (fun K hK=>?_) AllReadyH.nil;go_simp;refine hK.out _ _ ⟨s3,s2,sp⟩ (fun hHeld=>?_);clear hK K;refine wpAnyH_done (by kernel_rfl) ?_ _;go_wp2;go_end0;exact⟨rfl,HQ4.out,HQ5.out⟩
def Wk(w:World)(r:Nat)(V:Nat->Prop)(c m:Nat)(S:Sw):Prop :=
 (S.over=true/\w.cell? ⟨r,1,none⟩=some (.bool true)/\V r)\/(S.over=false/\∃gP P NL,Wm w r gP V c P NL/\Ag P NL S/\NL.length<=m/\∀l∈NL,l.length<=m)
theorem Wk.mono{w:World}{r:Nat}{V V':Nat->Prop}{c m m':Nat}{S:Sw}(h:Wk w r V c m S)(hV:∀k,k<w.heap.size->V k->V' k)(hm:m<=m'):Wk w r V' c m' S:=by
 rcases h with ⟨h1,h2,h3⟩|⟨h1,gP,P,NL,h2,h3,h4,h5⟩
 ·exact .inl ⟨h1,h2,hV r (lt_of_cell h2) h3⟩
 ·exact .inr ⟨h1,gP,P,NL,h2.mono hV,h3,Nat.le_trans h4 hm,fun l hl=>Nat.le_trans (h5 l hl) hm⟩
theorem Wk.kept{w w':World}{r:Nat}{V S':Nat->Prop}{c m:Nat}{S:Sw}(h:Wk w r V c m S)(hk:Kp S' w w')(hS:∀k,k<w.heap.size->V k->¬S' k):Wk w' r V c m S:=by
 rcases h with ⟨h1,h2,h3⟩|⟨h1,gP,P,NL,h2,h3,h4,h5⟩
 ·exact .inl ⟨h1,hk.cell h2 (hS r (lt_of_cell h2) h3),h3⟩
 ·exact .inr ⟨h1,gP,P,NL,h2.kept hk hS,h3,h4,h5⟩
theorem Wk.keptN{w w':World}{r:Nat}{V:Nat->Prop}{c m:Nat}{S:Sw}(h:Wk w r V c m S)(hk:Kp none' w w'):Wk w' r V c m S:=h.kept hk (fun _ _ _ h=>h)
theorem BN{P:List ByteArray}{NL:List (List Chg)}{n m:Nat}(h:∀l∈NL,l.length<=m):∀l∈chgN P NL n,l.length<=m+1:=fun l hl=>by
 rcases E4 hl with h1|⟨h1,h2⟩
 ·exact Nat.le_succ_of_le (h l h1)
 ·rw[h2,List.length_append]
  exact Nat.succ_le_succ (h _ (Ch h1))
theorem Ep{l:List ByteArray}{z:Int}(h:AW l z=true):∃n:Nat,z=(n:Int)/\0<n/\n<l.length/\isU l n=true:=by
 unfold AW at h;rw[Bool.and_eq_true,decide_eq_true_iff]at h;refine⟨z.toNat,by omega,by omega,by omega,h.2⟩
set_option maxRecDepth 100000 in
theorem Mz(r:Nat)(z:Int)(V:Nat->Prop)(c m:Nat)(S:Sw)(w:World)(H:Wk w r V c m S) :
  Calls prog 98 #[.pointer (some ⟨r,0,none⟩),.int .i64 z] w fun e w'=>e=.returned (.tuple #[.string (S.read z).1,.int .i64 (S.read z).2])/\w'=w:=by
 rcases H with ⟨hov,c1,_⟩|⟨hov,gP,P,NL,hW,hA,_,_⟩
 ·have e1:S.read z=(⟨#[]⟩,13):=by unfold Sw.read;rw[hov];rfl
  rw[e1];have hr:=BF r z w c1;go_enter func98,ntmps98;go_wp2_with (first
   | (go_at_call 30;refine hr.mono ?_;rintro e w' ⟨rfl,rfl⟩)
   | fail)
  go_ret2;exact⟨rfl,rfl⟩
 ·have hr:=B6 r gP V c P NL z w hW (by rw[hA.a.len];exact hA.l0) (by rw[hA.a.len];exact hA.l1) hA.sP;rw[Dn hA.a hA.l0]at hr;cases ht:AW S.now z with
  | false =>
   have e1:S.read z=(⟨#[]⟩,7):=by unfold Sw.read;rw[hov,ht];rfl
   rw[e1];rw[ht]at hr;go_enter func98,ntmps98;go_wp2_with (first
    | (go_at_call 30;refine hr.mono ?_;rintro e w' ⟨rfl,rfl⟩)
    | fail)
   go_ret2;exact⟨rfl,rfl⟩
  | true =>
   rw[ht]at hr;obtain⟨n,rfl,hn0,hn,hu⟩:=Ep ht;have e1:S.read (n:Int)=(S.now.getD n ⟨#[]⟩,0):=by unfold Sw.read;rw[hov,ht,Int.toNat_natCast];rfl
   rw[e1];have hnP:n<P.length:=by rw[hA.a.len];exact hn
   have d0:=(hW.pageAt n hnP).1;rw[hA.a.us n hn hu]at d0;obtain⟨cN,c2,_⟩:=hW.c2;have hni:(n:Int)<(P.length:Int):=by omega
   obtain⟨ln,HL⟩:∃ln,Hid (P.length=ln):=⟨_,rfl⟩;rw[HL.out]at c2 hni;obtain⟨X,HX⟩:∃X,Hid (S.now.getD n ⟨#[]⟩=X):=⟨_,rfl⟩;rw[HX.out]at d0 |-;clear ht hu hW hA e1;go_enter func98,ntmps98;go_wp2_with (first
    | (go_at_call 30;refine hr.mono ?_;rintro e w' ⟨rfl,rfl⟩)
    | fail)
   go_ret2;exact⟨rfl,rfl⟩
set_option maxRecDepth 100000 in
theorem FR(r:Nat)(z:Int)(x:ByteArray)(V:Nat->Prop)(c m:Nat)(S:Sw)(w:World)(H:Wk w r V c m S)(hm:m<=5000)(hx:x.size<=1000) :
  Calls prog 8 #[.pointer (some ⟨r,0,none⟩),.int .i64 z,.string x] w fun e w'=>e=.returned (.int .i64 (S.writeE z x))/\Wk w' r (fun b=>V b\/w.heap.size<=b) c (m+1) (S.write z x)/\Kp V w w':=by
 have HS:Hid (Wk w r (fun b=>V b\/w.heap.size<=b) c (m+1) S):=H.mono (fun _ _ h=>.inl h) (by omega);rcases H with ⟨hov,c1,_⟩|⟨hov,gP,P,NL,hW,hA,hNm,hNl⟩
 ·have e1:S.writeE z x=13:=by unfold Sw.writeE;rw[hov];rfl
  have e2:S.write z x=S:=by unfold Sw.write;rw[e1];rfl
  rw[e1,e2];have hr:=BF r z w c1;go_enter func8,ntmps8;go_wp2_with (first
   | (go_at_call 30;refine hr.mono ?_;rintro e w' ⟨rfl,rfl⟩)
   | fail)
  go_ret;exact⟨rfl,HS.out,Kp.refl _ _⟩
 ·have hr:=B6 r gP V c P NL z w hW (by rw[hA.a.len];exact hA.l0) (by rw[hA.a.len];exact hA.l1) hA.sP;rw[Dn hA.a hA.l0]at hr;cases ht:AW S.now z with
  | false =>
   have e1:S.writeE z x=7:=by unfold Sw.writeE;rw[hov,ht];rfl
   have e2:S.write z x=S:=by unfold Sw.write;rw[e1];rfl
   rw[e1,e2];rw[ht]at hr;clear hW hA;go_enter func8,ntmps8;go_wp2_with (first
    | (go_at_call 30;refine hr.mono ?_;rintro e w' ⟨rfl,rfl⟩)
    | fail)
   go_ret;exact⟨rfl,HS.out,Kp.refl _ _⟩
  | true =>
   rw[ht]at hr;by_cases h256:x.size=256
   ·have e1:S.writeE z x=0:=by unfold Sw.writeE;rw[hov,ht,if_pos h256];rfl
    obtain⟨n,hzn,hn0,hn,hu⟩:=Ep ht;subst hzn;have e2:S.write (n:Int) x={ S with now:=S.now.set n x }:=by unfold Sw.write;rw[if_pos e1,Int.toNat_natCast]
    rw[e1,e2];have hnP:n<P.length:=by rw[hA.a.len];exact hn
    have hch:=CR r gP c n V P NL x w hW hnP (by rw[hA.a.len];exact hA.l1) (by omega) (fun l hl=>Nat.le_trans (hNl l hl) (by omega)) hA.g.pg;have HA2:=hide (hA.chg n x (S.now.set n x) hnP (by omega) (hA.a.put n x hn hn0) (BJ hA.sz h256));have HB2:Hid ((chgN P NL n).length<=m+1/\∀l∈chgN P NL n,l.length<=m+1):=⟨by rw[BO];omega,BN hNl⟩;have hxb:(((x.size:Nat):Int) != 256)=false:=by rw[h256];rfl
    have HOV:Hid (({ S with now:=S.now.set n x }:Sw).over=false):=hov;have HCH:=hide hch;clear hW hA hu ht e1 e2 h256 hch;go_enter func8,ntmps8;go_wp2_with (first
     | (go_at_call 30;refine hr.mono ?_;rintro e w' ⟨rfl,rfl⟩)
     | (go_at_call 24;refine HCH.out.mono ?_;rintro e w2 ⟨rfl,hW2,hk2⟩)
     | fail)
    go_ret;exact⟨rfl,.inr ⟨HOV.out,gP,_,_,hW2,HA2.out,HB2.out.1,HB2.out.2⟩,hk2⟩
   ·have e1:S.writeE z x=1:=by unfold Sw.writeE;rw[hov,ht,if_neg h256];rfl
    have e2:S.write z x=S:=by unfold Sw.write;rw[e1];rfl
    rw[e1,e2];have hxb:(((x.size:Nat):Int) != 256)=true:=by
     have:((x.size:Nat):Int)≠256:=by omega
     simpa using this
    clear hW hA h256;go_enter func8,ntmps8;go_wp2_with (first
     | (go_at_call 30;refine hr.mono ?_;rintro e w' ⟨rfl,rfl⟩)
     | fail)
    go_ret;exact⟨rfl,HS.out,Kp.refl _ _⟩
set_option maxRecDepth 100000 in
theorem GD(r gP c n:Nat)(V:Nat->Prop)(P:List ByteArray)(NL:List (List Chg))(w:World)(H:Wm w r gP V c P NL)(hn:n<160)(h0:0<P.length)(h1:P.length<=160)(hs:(pg0 P).size=256)(hN:NL.length<=10000)(hl:∀l∈NL,l.length<=10000)(hpg:∀l∈NL,∀c∈l,0<=c.page/\c.page<(P.length:Int)) :
  Calls prog 23 #[.pointer (some ⟨r,0,none⟩),.int .i64 (n:Int)] w fun e w'=>e=.returned (.tuple #[])/\Wm w' r gP (fun b=>V b\/w.heap.size<=b) c (turnL P n) (chgN P NL 0)/\Kp V w w':=by
 obtain⟨cN,c2,_⟩:=H.c2;have d0:=(H.pageAt 0 h0).1;have e0:P.getD 0 ⟨#[]⟩=pg0 P:=rfl;rw[e0]at d0;have hl0:(0:Int)<(P.length:Int):=by omega
 obtain⟨p,HP⟩:∃p,Hid (pg0 P=p):=⟨_,rfl⟩;have HT:Hid (turnL P n=P.set 0 (turnS p n)):=by show _=_;unfold turnL;rw[HP.out]
 rw[HP.out]at d0 hs;obtain⟨W1,cap,hcv,hcl,hfz,hk1,hsz1,hback⟩:=M3 p (n / 8) (AZ p (n / 8) ^^^ UInt8.ofNat (2 ^ (n%8))) (by omega) w;rw[hs]at hcv hback;obtain⟨B,HB⟩:∃B,Hid (w.heap.size=B):=⟨_,rfl⟩;rw[HB.out]at hcv hcl hfz hback hsz1;have hn8:((n:Int) / 8)<256:=by omega
 have HCH:Hid (∀(W:World) (x:ByteArray),Kp none' w W->Calls prog 24 #[.pointer (some ⟨r,0,none⟩),.int .i64 0,.string x] W fun e w'=>e=.returned (.tuple #[])/\Wm w' r gP (fun b=>V b\/w.heap.size<=b) c (P.set 0 x) (chgN P NL 0)/\Kp V w w'):=fun W x hk=>by
  refine(CR r gP c 0 V P NL x W (H.keptN hk) h0 h1 hN hl hpg).mono ?_;rintro e w' ⟨rfl,a1,a2⟩;exact⟨rfl,a1.mono (fun b _ h=>by rcases h with h|h;exact .inl h;exact .inr (Nat.le_trans hk.size h)),hk.nThen a2⟩
 obtain⟨ln,HL⟩:∃ln,Hid (P.length=ln):=⟨_,rfl⟩;rw[HL.out]at c2 hl0;clear H hpg;go_enter func23,ntmps23;go_upto_region 1 with fail;have p1:=Put.set W1 B (n / 8) (.int .u8 ((AZ p (n / 8) ^^^ UInt8.ofNat (2 ^ (n%8))).toNat:Int)) _ hcl;have HBX:=hide (MQ (AZ p (n / 8)) (n%8) (Nat.mod_lt _ (by omega)));have HTS:Hid (turnS p n=⟨(p.data.toList.set (n / 8) (AZ p (n / 8) ^^^ UInt8.ofNat (2 ^ (n%8)))).toArray⟩):=by show _=_;rfl
 have hb2:=hback _ (Kp.drew none' _);rw[<-HTS.out]at hb2;obtain⟨T,HTT⟩:∃T,Hid (turnS p n=T):=⟨_,rfl⟩;rw[HTT.out]at hb2 HT;have kw:Kp none' w (W1.setCell ⟨B,n / 8,none⟩ (.int .u8 ((AZ p (n / 8) ^^^ UInt8.ofNat (2 ^ (n%8))).toNat:Int))).drew:=(hk1.trans p1.kp (S'':=none') (fun _ _ h=>h) (fun k hk e=>absurd hk (by have e':k=B:=e;have:=HB.out;omega))).then (Kp.drew none' _);have hcd:W1.drew.cell? ⟨B,n / 8,none⟩=some (.int .u8 ((AZ p (n / 8)).toNat:Int)):=hcl
 have hfd:W1.drew.frozen? ⟨B,n / 8,none⟩=false:=hfz;have hcc:=HCH.out _ T kw;obtain⟨W2,H2⟩:∃W2,Hid ((W1.setCell ⟨B,n / 8,none⟩ (.int .u8 ((AZ p (n / 8) ^^^ UInt8.ofNat (2 ^ (n%8))).toNat:Int))).drew=W2):=⟨_,rfl⟩;rw[H2.out]at hcc hb2;clear p1 hback hcv kw;go_region;all_goals rw[HBX.out,H2.out]
 all_goals go_wp2_with (first
  | (go_at_call 24;refine hcc.mono ?_;rintro e w2 ⟨rfl,hW2,hk2⟩)
  | fail)
 all_goals first|go_end0|((try simp only[Exit.inBlock,Exit.then]);refine bodyPost_ret (results_none rfl _ _ _) rfl ?_)
 all_goals exact⟨rfl,by rw[HT.out];exact hW2,hk2⟩
theorem Ag.lens{P:List ByteArray}{NL:List (List Chg)}{S:Sw}(h:Ag P NL S):0<P.length/\P.length<=160:=⟨by rw[h.a.len];exact h.l0,by rw[h.a.len];exact h.l1⟩
set_option maxRecDepth 100000 in
theorem Gw(r:Nat)(z:Int)(V:Nat->Prop)(c m:Nat)(S:Sw)(w:World)(H:Wk w r V c m S)(hm:m<=5000) :
  Calls prog 97 #[.pointer (some ⟨r,0,none⟩),.int .i64 z] w fun e w'=>e=.returned (.int .i64 (S.dropE z))/\Wk w' r (fun b=>V b\/w.heap.size<=b) c (m+1) (S.drop z)/\Kp V w w':=by
 have HS:Hid (Wk w r (fun b=>V b\/w.heap.size<=b) c (m+1) S):=H.mono (fun _ _ h=>.inl h) (by omega);rcases H with ⟨hov,c1,_⟩|⟨hov,gP,P,NL,hW,hA,hNm,hNl⟩
 ·have e1:S.dropE z=13:=by unfold Sw.dropE;rw[hov];rfl
  have e2:S.drop z=S:=by unfold Sw.drop;rw[e1];rfl
  rw[e1,e2];have hr:=BF r z w c1;go_enter func97,ntmps97;go_wp2_with (first
   | (go_at_call 30;refine hr.mono ?_;rintro e w' ⟨rfl,hw'⟩;obtain rfl:=hw'.symm)
   | fail)
  go_ret;exact⟨rfl,HS.out,Kp.refl _ _⟩
 ·have hr:=B6 r gP V c P NL z w hW hA.lens.1 hA.lens.2 hA.sP;rw[Dn hA.a hA.l0]at hr;cases ht:AW S.now z with
  | false =>
   have e1:S.dropE z=7:=by unfold Sw.dropE;rw[hov,ht];rfl
   have e2:S.drop z=S:=by unfold Sw.drop;rw[e1];rfl
   rw[e1,e2];rw[ht]at hr;clear hW hA;go_enter func97,ntmps97;go_wp2_with (first
    | (go_at_call 30;refine hr.mono ?_;rintro e w' ⟨rfl,hw'⟩;obtain rfl:=hw'.symm)
    | fail)
   go_ret;exact⟨rfl,HS.out,Kp.refl _ _⟩
  | true =>
   rw[ht]at hr;have e1:S.dropE z=0:=by unfold Sw.dropE;rw[hov,ht];rfl
   obtain⟨n,hzn,hn0,hn,hu⟩:=Ep ht;subst hzn;have e2:S.drop (n:Int)={ S with now:=turnL S.now n }:=by unfold Sw.drop;rw[if_pos e1,Int.toNat_natCast]
   rw[e1,e2];have hl1:=hA.l1;have htu:=GD r gP c n V P NL w hW (by omega) hA.lens.1 hA.lens.2 hA.sP (by omega) (fun l hl=>Nat.le_trans (hNl l hl) (by omega)) hA.g.pg;have HA2:Hid (Ag (turnL P n) (chgN P NL 0) { S with now:=turnL S.now n }):=by
    have hT:(turnS (pg0 P) n).size=256:=by rw[BU];exact hA.sP
    exact hA.chg 0 (turnS (pg0 P) n) (turnL S.now n) hA.lens.1 (by omega) (hA.a.drop n hA.l0 hA.s0 (by omega) hu) (BJ hA.sz (by rw[BU];exact hA.s0))
   have HB2:Hid ((chgN P NL 0).length<=m+1/\∀l∈chgN P NL 0,l.length<=m+1):=⟨by rw[BO];omega,BN hNl⟩;have HOV:Hid (({ S with now:=turnL S.now n }:Sw).over=false):=hov;have HTU:=hide htu;clear hW hA hu ht e1 e2 htu;go_enter func97,ntmps97;go_wp2_with (first
    | (go_at_call 30;refine hr.mono ?_;rintro e w' ⟨rfl,hw'⟩;obtain rfl:=hw'.symm)
    | (go_at_call 23;refine HTU.out.mono ?_;rintro e w2 ⟨rfl,hW2,hk2⟩)
    | fail)
   go_ret;exact⟨rfl,.inr ⟨HOV.out,gP,_,_,hW2,HA2.out,HB2.out.1,HB2.out.2⟩,hk2⟩
set_option maxRecDepth 100000 in
theorem GC(r:Nat)(V:Nat->Prop)(c m:Nat)(S:Sw)(w:World)(H:Wk w r V c m S)(hm:m<=5000) :
  Calls prog 6 #[.pointer (some ⟨r,0,none⟩)] w fun e w'=>e=.returned (.tuple #[.int .i64 S.takeE.1,.int .i64 S.takeE.2])/\Wk w' r (fun b=>V b\/w.heap.size<=b) c (m+2) (S.take (fillB 0))/\Kp V w w':=by
 have HS:Hid (Wk w r (fun b=>V b\/w.heap.size<=b) c (m+2) S):=H.mono (fun _ _ h=>.inl h) (by omega);rcases H with ⟨hov,c1,_⟩|⟨hov,gP,P,NL,hW,hA,hNm,hNl⟩
 ·have e1:S.takeE=(0,13):=by unfold Sw.takeE;rw[hov];rfl
  have e2:S.take (fillB 0)=S:=by unfold Sw.take;rw[hov];rfl
  rw[e1,e2];have hr:=Bz r w c1;go_enter func6,ntmps6;go_wp2_with (first
   | (go_at_call 21;refine hr.mono ?_;rintro e w' ⟨rfl,hw'⟩;obtain rfl:=hw'.symm)
   | fail)
  go_ret2;exact⟨rfl,HS.out,Kp.refl _ _⟩
 ·have hr:=B1 r c w hW.c0 hW.c1;obtain⟨hl0,hl1⟩:=hA.lens;have HU:Hid (∀n,n<P.length->Calls prog 22 #[.pointer (some ⟨r,0,none⟩),.int .i64 (n:Int)] w fun e w'=>e=.returned (.bool (isU S.now n))/\w'=w):=fun n hn=>by
   have h:=Cr r gP V c P NL (n:Int) w hW hl0 hl1 hA.sP;have e:usedB P (n:Int)=isU S.now n:=by
    unfold usedB;rw[decide_eq_true ⟨by omega,by omega⟩,Bool.true_and,Int.toNat_natCast,hA.isU]
   rw[e]at h;exact h
  have HNO:Hid ((∀i,0<i->i<P.length->isU S.now i=true)->S.takeE=(0,8)/\S.take (fillB 0)=S):=fun h=>by
   have hf:S.free=none:=by
    unfold Sw.free;exact IK _ _ _ (fun i hi hin=>h i hi (by rw[hA.a.len];omega))
   exact⟨by unfold Sw.takeE;rw[hov,hf];rfl,by unfold Sw.take;rw[hov,hf];rfl⟩
  have HYES:Hid (∀k,k<P.length->(∀i,0<i->i<k->isU S.now i=true)->isU S.now k=false->0<k/\S.takeE=((k:Int),0)/\S.take (fillB 0)={ S with now:=(turnL S.now k).set k (fillB 0) }):=fun k hk h hu=>by
   have h0:0<k:=by
    rcases Nat.eq_zero_or_pos k with e|e
    ·subst e;cases hu
    ·exact e
   have hlen:=hA.a.len;have hf:S.free=some k:=by
    unfold Sw.free;exact Ey _ _ _ _ h0 (by omega) (fun i hi hik=>h i hi hik) hu
   exact⟨h0,by unfold Sw.takeE;rw[hov,hf];rfl,by unfold Sw.take;rw[hov,hf];rfl⟩
  have HTU:Hid (∀k,k<P.length->0<k->Calls prog 23 #[.pointer (some ⟨r,0,none⟩),.int .i64 (k:Int)] w fun e w'=>e=.returned (.tuple #[])/\Wm w' r gP (fun b=>V b\/w.heap.size<=b) c (turnL P k) (chgN P NL 0)/\Kp V w w'):=fun k hk h0 =>
   GD r gP c k V P NL w hW (by omega) hl0 hl1 hA.sP (by omega) (fun l hl=>Nat.le_trans (hNl l hl) (by omega)) hA.g.pg
  have hpg0:(P.getD 0 ⟨#[]⟩).size<=256:=Ef hA.ps 0;have hg1:=hA.g.chg 0 (turnS (pg0 P) 0) hl0 hpg0;have HG1:Hid (∀k,AgN (turnL P k) (chgN P NL 0) S):=fun k=>hA.g.chg 0 (turnS (pg0 P) k) hl0 hpg0
  have HCH:Hid (∀k (w1:World) (V':Nat->Prop),k<P.length->Wm w1 r gP V' c (turnL P k) (chgN P NL 0)->Calls prog 24 #[.pointer (some ⟨r,0,none⟩),.int .i64 (k:Int),.string (fillB 0)] w1 fun e w'=>e=.returned (.tuple #[])/\Wm w' r gP (fun b=>V' b\/w1.heap.size<=b) c ((turnL P k).set k (fillB 0)) (chgN (turnL P k) (chgN P NL 0) k)/\Kp V' w1 w'):=fun k w1 V' hk hW1 =>
   CR r gP c k V' (turnL P k) (chgN P NL 0) (fillB 0) w1 hW1 (by rw[Bv];exact hk) (by rw[Bv];exact hl1) (by rw[BO];omega) (fun l hl=>Nat.le_trans (BN hNl l hl) (by omega)) (HG1.out k).pg
  have HA2:Hid (∀k,k<P.length->0<k->Ag ((turnL P k).set k (fillB 0)) (chgN (turnL P k) (chgN P NL 0) k) { S with now:=(turnL S.now k).set k (fillB 0) }):=fun k hk h0=>by
   have hlen:=hA.a.len;have hT:∀x∈turnL P k,x.size<=256:=Dr hA.ps (by rw[BU,hA.sP];exact Nat.le_refl _);have hg2:=(HG1.out k).chg k (fillB 0) (by rw[Bv];exact hk) (Ef hT k);have hsz:∀x∈turnL S.now k,x.size=256:=BJ hA.sz (by rw[BU];exact hA.s0);have hl:((turnL S.now k).set k (fillB 0)).length=S.now.length:=by rw[List.length_set,Bv]
   exact⟨hA.a.take k (fillB 0) hA.l0 hA.s0 (by omega) h0 hA.l1,⟨hg2.n,hg2.b,hg2.pg,hg2.sz⟩,by show 0<((turnL S.now k).set k (fillB 0)).length;rw[hl];exact hA.l0,by show ((turnL S.now k).set k (fillB 0)).length<=160;rw[hl];exact hA.l1,BJ hsz (A8 0),Dr hT (Nat.le_of_eq (A8 0)),by show S.base.length=((turnL S.now k).set k (fillB 0)).length;rw[hl];exact hA.bl,hA.nt⟩
  have HB2:Hid (∀k,(chgN (turnL P k) (chgN P NL 0) k).length<=m+2/\∀l∈chgN (turnL P k) (chgN P NL 0) k,l.length<=m+2):=fun k=>⟨by rw[BO,BO];omega,BN (BN hNl)⟩;obtain⟨cN,c2,_⟩:=hW.c2;obtain⟨Z,HZ⟩:∃Z,Hid (fillB 0=Z):=⟨_,rfl⟩;have HZR:Hid (∀w1:World,Calls prog 25 #[.int .i64 256] w1 fun e w'=>e=.returned (.string Z)/\Kp none' w1 w'):=fun w1=>by
   have:=Ku 256 w1 (by omega);rw[KE,HZ.out]at this;exact this
  rw[HZ.out]at HNO HYES HCH HA2 |-;obtain⟨ln,HL⟩:∃ln,Hid (P.length=ln):=⟨_,rfl⟩;rw[HL.out]at c2 HU HNO HYES HTU HCH HA2;have hl1':ln<=160:=by rw[<-HL.out];exact hl1
  have HOV:=hide hov;clear hW hA hg1 hpg0 hl0 hl1 hov HG1;go_enter func6,ntmps6;go_wp2_with (first
   | (go_at_call 21;refine hr.mono ?_;rintro e w' ⟨rfl,hw'⟩;obtain rfl:=hw'.symm)
   | fail)
  go_loopw [16] (fun t wr=>w=wr/\∃k:Nat,k<=ln/\t=.int .i64 k/\Hid (∀i,0<i->i<k->isU S.now i=true)) (fun t _=>ln - (intOf t).toNat)
  case atStart=>exact⟨rfl,0,Nat.zero_le _,rfl,fun i _ h=>by omega⟩
  case round =>
   obtain⟨rfl,k,hk,rfl,hall⟩:=hrel;by_cases hlt:k<ln
   ·have hki:(k:Int)<(ln:Int):=by omega
    have hu:=HU.out k hlt;cases hU:isU S.now k with
    | true =>
     rw[hU]at hu;have HALL:Hid (∀i,0<i->i<k+1->isU S.now i=true):=fun i h0 h1=>by
      by_cases e:i=k
      ·subst e;exact hU
      ·exact hall.out i h0 (by omega)
     clear hU;go_wp2_with (first
      | (go_at_call 22;refine hu.mono ?_;rintro e w' ⟨rfl,hw'⟩;obtain rfl:=hw'.symm)
      | fail)
     go_roundw
     case rel=>exact⟨by first|trivial|rfl,k+1,by omega,by go_num,HALL⟩
     case measure=>simp[intOf];omega
    | false =>
     rw[hU]at hu;obtain⟨h0,e1,e2⟩:=HYES.out k hlt hall.out hU;have HE2:=hide e2;have HE1:=hide e1;have htu:=hide (HTU.out k hlt h0);clear hU e1 e2;go_wp2_with (first
      | (go_at_call 22;refine hu.mono ?_;rintro e w' ⟨rfl,hw'⟩;obtain rfl:=hw'.symm)
      | (go_at_call 23;refine htu.out.mono ?_;rintro e w1 ⟨rfl,hW1,hk1⟩)
      | (go_at_call 25;refine(HZR.out _).mono ?_;rintro e w2 ⟨rfl,hk2⟩)
      | (go_at_call 24;refine(HCH.out k w2 _ hlt (hW1.keptN hk2)).mono ?_;rintro e w3 ⟨rfl,hW3,hk3⟩)
      | fail)
     go_ret2;refine⟨by rw[HE1.out];rfl,?_,?_⟩
     ·rw[HE2.out];exact .inr ⟨HOV.out,gP,_,_,hW3.mono (fun b _ h=>by
       rcases h with (h|h)|h
       ·exact .inl h
       ·exact .inr h
       ·exact .inr (by have:=hk1.size;have:=hk2.size;omega)),HA2.out k hlt h0,(HB2.out k).1,(HB2.out k).2⟩
     ·exact(hk1.thenN hk2).trans hk3 (fun _ _ h=>h) (fun b hb h=>by
       rcases h with h|h
       ·exact h
       ·omega)
   ·obtain rfl:k=ln:=by omega
    obtain⟨e1,e2⟩:=HNO.out hall.out;have HE2:=hide e2;have HE1:=hide e1;clear e1 e2;go_wp2;go_ret2;exact⟨by rw[HE1.out];rfl,by rw[HE2.out];exact HS.out,Kp.refl _ _⟩
set_option maxRecDepth 100000 in
theorem Ks(r:Nat)(V:Nat->Prop)(c m:Nat)(S:Sw)(w:World)(H:Wk w r V c m S) :
  Calls prog 9 #[.pointer (some ⟨r,0,none⟩)] w fun e w'=>e=.returned (.int .i64 (S.usedN:Int))/\w'=w:=by
 rcases H with ⟨hov,c1,_⟩|⟨hov,gP,P,NL,hW,hA,hNm,hNl⟩
 ·have e1:S.usedN=0:=by unfold Sw.usedN;rw[hov];rfl
  rw[e1];have hr:=Bz r w c1;go_enter func9,ntmps9;go_wp2_with (first
   | (go_at_call 21;refine hr.mono ?_;rintro e w' ⟨rfl,hw'⟩;obtain rfl:=hw'.symm)
   | fail)
  go_ret;exact⟨rfl,rfl⟩
 ·have hr:=B1 r c w hW.c0 hW.c1;obtain⟨hl0,hl1⟩:=hA.lens;have HU:Hid (∀n,n<P.length->Calls prog 22 #[.pointer (some ⟨r,0,none⟩),.int .i64 (n:Int)] w fun e w'=>e=.returned (.bool (isU S.now n))/\w'=w):=fun n hn=>by
   have h:=Cr r gP V c P NL (n:Int) w hW hl0 hl1 hA.sP;have e:usedB P (n:Int)=isU S.now n:=by
    unfold usedB;rw[decide_eq_true ⟨by omega,by omega⟩,Bool.true_and,Int.toNat_natCast,hA.isU]
   rw[e]at h;exact h
  obtain⟨cN,c2,_⟩:=hW.c2;have HE:Hid (S.usedN=((List.range P.length).filter (isU S.now)).length):=by show _=_;unfold Sw.usedN;rw[hov,hA.a.len];rfl
  obtain⟨ln,HL⟩:∃ln,Hid (P.length=ln):=⟨_,rfl⟩;rw[HL.out]at c2 HU HE hl1;rw[HE.out];clear hW hA hl0 hov;go_enter func9,ntmps9;go_wp2_with (first
   | (go_at_call 21;refine hr.mono ?_;rintro e w' ⟨rfl,hw'⟩;obtain rfl:=hw'.symm)
   | fail)
  go_loopw [3,13] (fun u t wr=>w=wr/\∃k:Nat,k<=ln/\t=.int .i64 k/\∃q:Nat,u=.int .i64 q/\q<=k/\Hid (((List.range k).filter (isU S.now)).length=q)) (fun _ t _=>ln - (intOf t).toNat)
  case atStart=>exact⟨rfl,0,Nat.zero_le _,rfl,0,rfl,Nat.le_refl _,by show _=_;simp⟩
  case round =>
   obtain⟨rfl,k,hk,rfl,q,rfl,hqk,hq⟩:=hrel;by_cases hlt:k<ln
   ·have hki:(k:Int)<(ln:Int):=by omega
    have hiu:=HU.out k hlt;have HM:Hid (((List.range (k+1)).filter (isU S.now)).length=q+(if isU S.now k then 1 else 0)):=by
     show _=_;rw[List.range_succ,List.filter_append,List.length_append,hq.out];cases hx:isU S.now k<;>simp[hx]
    cases hu:isU S.now k with
    | true =>
     rw[hu]at hiu HM;have HM2:Hid (((List.range (k+1)).filter (isU S.now)).length=q+1):=HM;clear hq hu HM;go_wp2_with (first
      | (go_at_call 22;refine hiu.mono ?_;rintro e w' ⟨rfl,hw'⟩;obtain rfl:=hw'.symm)
      | fail)
     go_roundw
     case rel=>exact⟨by first|trivial|rfl,k+1,by omega,by go_num,q+1,by go_num,by omega,HM2⟩
     case measure=>simp[intOf];omega
    | false =>
     rw[hu]at hiu HM;have HM2:Hid (((List.range (k+1)).filter (isU S.now)).length=q):=HM;clear hq hu HM;go_wp2_with (first
      | (go_at_call 22;refine hiu.mono ?_;rintro e w' ⟨rfl,hw'⟩;obtain rfl:=hw'.symm)
      | fail)
     go_roundw
     case rel=>exact⟨by first|trivial|rfl,k+1,by omega,by go_num,q,rfl,by omega,HM2⟩
     case measure=>simp[intOf];omega
   ·have hkl:ln=k:=by omega
    subst hkl;go_wp2;go_ret;exact⟨by rw[hq.out];rfl,rfl⟩
def chgCK(b l:List ByteArray)(k:Nat):List Chg:=chgC l ((List.range k).filter (fun i=>isU l i&&decide (l.getD i ⟨#[]⟩≠b.getD i ⟨#[]⟩)))
theorem JH(b l:List ByteArray)(k:Nat):chgCK b l (k+1)=chgCK b l k++(if (isU l k&&decide (l.getD k ⟨#[]⟩≠b.getD k ⟨#[]⟩))=true then [⟨(k:Int),l.getD k ⟨#[]⟩⟩] else []):=by
 unfold chgCK chgC;rw[List.range_succ,List.filter_append,List.map_append];congr 1;by_cases h:(isU l k&&decide (l.getD k ⟨#[]⟩≠b.getD k ⟨#[]⟩))=true
 ·rw[if_pos h];simp only[List.filter_cons,h,if_true,List.filter_nil,List.map_cons,List.map_nil]
 ·rw[if_neg h];have h':(isU l k&&decide (l.getD k ⟨#[]⟩≠b.getD k ⟨#[]⟩))=false:=by simpa using h
  simp only[List.filter_cons,h',if_false,List.filter_nil,List.map_nil,Bool.false_eq_true]
theorem Ga(b l:List ByteArray)(k:Nat):(chgCK b l k).length<=k:=by
 unfold chgCK;rw[MX];exact Nat.le_trans (List.length_filter_le _ _) (by simp)
theorem F9(b l:List ByteArray):chgCK b l l.length=chgC l (chgs b l):=rfl
theorem St.use_le(sz n:Nat)(s:St)(z:Int):(s.use sz n z).h+(s.use sz n z).m<=s.h+s.m+1:=by
 have:=St.sum (sz:=sz) (n:=n) s z;split at this<;>omega
structure Cz (w w':World) (q:Cq) (F F':Nat->Prop) (D:Dv) (Q:Nat->ByteArray) (M cm:Int) (s:St) (n:Nat) (s':St):Prop where
 c:Cst w' q F' D Q M cm s'
 f:∀k,F' k->F k\/w.heap.size<=k
 k:Kp F w w'
 b:s'.h+s'.m<=s.h+s.m+n
theorem Cz.refl{w:World}{q:Cq}{F:Nat->Prop}{D:Dv}{Q:Nat->ByteArray}{M cm:Int}{s:St}(h:Cst w q F D Q M cm s):Cz w w q F F D Q M cm s 0 s:=⟨h,fun _ h=>.inl h,Kp.refl _ _,Nat.le_refl _⟩
theorem Cz.thenN{w w1 w2:World}{q:Cq}{F F':Nat->Prop}{D:Dv}{Q:Nat->ByteArray}{M cm:Int}{s s':St}{n:Nat}(h:Cz w w1 q F F' D Q M cm s n s')(hk:Kp none' w1 w2):Cz w w2 q F F' D Q M cm s n s':=⟨Cas.keptN h.c hk,h.f,h.k.thenN hk,h.b⟩
theorem Cz.own{w w1 w2:World}{q:Cq}{F F' T:Nat->Prop}{D:Dv}{Q:Nat->ByteArray}{M cm:Int}{s s':St}{n:Nat}(h:Cz w w1 q F F' D Q M cm s n s')(hk:Kp T w1 w2)(hT:∀k,T k->w.heap.size<=k/\¬F' k):Cz w w2 q F F' D Q M cm s n s' :=
 ⟨Cas.kept h.c hk (fun k _ hf ht=>(hT k ht).2 hf),h.f,h.k.trans hk (fun _ _ h=>h) (fun k hk ht=>absurd (hT k ht).1 (by omega)),h.b⟩
theorem Cz.read{w w1:World}{q:Cq}{F F':Nat->Prop}{D:Dv}{Q:Nat->ByteArray}{M cm:Int}{s s':St}{n:Nat}(h:Cz w w1 q F F' D Q M cm s n s')(hb:s.h+s.m+n<=1000000000)(z:Int) :
  Calls prog 43 #[.pointer (some ⟨q.c,0,none⟩),.int .i64 z] w1 fun e w2=>e=.returned (.tuple #[.string (rdCS q.n Q z),.int .i64 (rdCE q.n z)])/\∃F'' s'',Cz w w2 q F F'' D Q M cm s (n+1) s''/\(∀k,k<w1.heap.size->F'' k->F' k)/\(∀k,F'' k->k<w2.heap.size)/\Kp F' w1 w2:=by
 refine(LJ h.c (Nat.le_trans h.b hb) z).mono ?_;rintro e w2 ⟨rfl,hC,hk⟩;refine⟨rfl,fun j=>(F' j\/w1.heap.size<=j)/\j<w2.heap.size,_,⟨Cas.mono hC (fun k hk h=>⟨h,hk⟩),fun k hk=>?_,h.k.trans hk (fun _ _ h=>h) (fun k hk hf=>?_),?_⟩,fun k hk hf=>?_,fun k hk=>hk.2,hk⟩
 ·rcases hk.1 with h1|h1
  ·exact h.f k h1
  ·exact .inr (Nat.le_trans h.k.size h1)
 ·rcases h.f k hf with h1|h1
  ·exact h1
  ·omega
 ·have:=St.use_le q.sz q.n s' z;have:=h.b;omega
 ·rcases hf.1 with h1|h1
  ·exact h1
  ·omega
set_option maxRecDepth 100000 in
theorem H5{w:World}{r gP:Nat}{V:Nat->Prop}{q:Cq}{F:Nat->Prop}{D:Dv}{Q:Nat->ByteArray}{M cm:Int}{s:St}{P:List ByteArray}{NL:List (List Chg)}{S:Sw}(hW:Wm w r gP V q.c P NL)(hA:Ag P NL S)(hC:Cst w q F D Q M cm s)(hn:q.n=P.length)(hd:∀k,k<w.heap.size->V k->¬F k)(hQ:∀i,i<P.length->S.base.getD i ⟨#[]⟩=Q i)(hb:s.h+s.m<=900000000) :
  Calls prog 31 #[.pointer (some ⟨r,0,none⟩)] w fun e w'=>∃v F' s',e=.returned v/\OwC 75 w' w.heap.size v (chgC S.now (chgs S.base S.now))/\Cz w w' q F F' D Q M cm s P.length s'/\(∀k,v.ownBlock=some k->¬F' k):=by
 obtain⟨hl0,hl1⟩:=hA.lens;obtain⟨cN,c2,_⟩:=hW.c2;have c0:=hW.c0;have HF:Hid (∀k,k<w.heap.size->V k->∀F':Nat->Prop,(∀k,F' k->F k\/w.heap.size<=k)->¬F' k):=fun k hk hv F' hf h=>by
  rcases hf k h with h1|h1
  ·exact hd k hk hv h1
  ·omega
 have HU:Hid (∀n (W:World),n<P.length->Kp F w W->Calls prog 22 #[.pointer (some ⟨r,0,none⟩),.int .i64 (n:Int)] W fun e w'=>e=.returned (.bool (isU S.now n))/\w'=W):=fun n W hn hk=>by
  have h:=Cr r gP V q.c P NL (n:Int) W (hW.kept hk hd) hl0 hl1 hA.sP;have e:usedB P (n:Int)=isU S.now n:=by
   unfold usedB;rw[decide_eq_true ⟨by omega,by omega⟩,Bool.true_and,Int.toNat_natCast,hA.isU]
  rw[e]at h;exact h
 have HPA:Hid (∀n (W:World),n<P.length->Kp F w W->W.cell? ⟨gP,n,none⟩=some (.string (P.getD n ⟨#[]⟩))):=fun n W hn hk=>((hW.kept hk hd).pageAt n hn).1;have HAG:Hid (∀n,n<P.length->isU S.now n=true->P.getD n ⟨#[]⟩=S.now.getD n ⟨#[]⟩):=fun n hn hu=>hA.a.us n (by rw[<-hA.a.len];exact hn) hu;have HLAST:Hid (chgCK S.base S.now P.length=chgC S.now (chgs S.base S.now)):=by show _=_;rw[hA.a.len];exact F9 _ _
 have hrV:¬F r:=hd r hW.lt hW.gg.1;have HZ0:=hide (Cz.refl hC);have HQ:=hide hQ;rw[<-HLAST.out];obtain⟨ln,HL⟩:∃ln,Hid (P.length=ln):=⟨_,rfl⟩;rw[HL.out]at c2 HU HPA HAG hn hl1 HQ |-;clear hW hA hd hC hQ hl0;go_enter func31,ntmps31;go_wp2;go_loopw [3,13] (fun u t wr=>∃k:Nat,k<=ln/\t=.int .i64 k/\∃F' s',OwC 75 wr w.heap.size u (chgCK S.base S.now k)/\Cz w wr q F F' D Q M cm s k s'/\∀j,u.ownBlock=some j->¬F' j) (fun _ t _=>ln - (intOf t).toNat)
 case atStart=>exact⟨0,Nat.zero_le _,rfl,F,s,(show OwC _ _ _ _ [] from OwC.nil _ _ _),HZ0.out,(fun j h=>by cases h)⟩
 case round =>
  obtain⟨k,hk,rfl,F',s',hO,hZ,hu3⟩:=hrel;clear HZ0;by_cases hlt:k<ln
  ·have hki:(k:Int)<(ln:Int):=by omega
   have hiu:=HU.out k wr hlt hZ.k;have hpa:=HPA.out k wr hlt hZ.k;have e2:=hZ.k.cell c2 hrV;have e0:=hZ.k.cell c0 hrV;have HSU:=hide (JH S.base S.now k);rw[HQ.out k hlt]at HSU;have hqu:=HQ.out k hlt;have hag:=HAG.out k hlt;have hrd:=hZ.read (by omega) (k:Int);have hin:inR q.n (k:Int)=true:=EO.2 ⟨by omega,by rw[hn];exact hki⟩;have er1:rdCS q.n Q (k:Int)=Q k:=by unfold rdCS;rw[if_pos hin,Int.toNat_natCast]
   have er2:rdCE q.n (k:Int)=0:=by unfold rdCE;rw[if_pos hin]
   rw[er1,er2]at hrd;have HZ:=hide hZ;have HOK:=hide hO;have HU3:=hide hu3;obtain⟨X,HX⟩:∃X,Hid (P.getD k ⟨#[]⟩=X):=⟨_,rfl⟩;rw[HX.out]at hpa hag;obtain⟨Y,HY⟩:∃Y,Hid (Q k=Y):=⟨_,rfl⟩;rw[HY.out]at hrd HSU;obtain⟨U,HUU⟩:∃U,Hid (isU S.now k=U):=⟨_,rfl⟩;rw[HUU.out]at hiu HSU hag;have hlen:=Ga S.base S.now k;have HRD:=hide hrd;clear hqu hin er1 er2 hZ hO hu3 hrd;cases U with
   | false =>
    have HS2:Hid (chgCK S.base S.now (k+1)=chgCK S.base S.now k):=by show _=_;rw[HSU.out];simp
    clear hag;go_wp2_with (first
     | (go_at_call 22;refine hiu.mono ?_;rintro e w' ⟨rfl,hw'⟩;obtain rfl:=hw'.symm)
     | fail)
    go_roundw
    case rel=>exact⟨k+1,by omega,by go_num,F',s',by rw[HS2.out];exact HOK.out,⟨HZ.out.c,HZ.out.f,HZ.out.k,by have:=HZ.out.b;omega⟩,HU3.out⟩
    case measure=>simp[intOf];omega
   | true =>
    rw[<-hag rfl]at HSU;clear hag;by_cases hxy:X=Y
    ·subst hxy;have HS2:Hid (chgCK S.base S.now (k+1)=chgCK S.base S.now k):=by show _=_;rw[HSU.out];simp
     have hxx:(X.toList==X.toList)=true:=by simp
     go_wp2_with (first
      | (go_at_call 22;refine hiu.mono ?_;rintro e w' ⟨rfl,hw'⟩;obtain rfl:=hw'.symm)
      | (go_at_call 43;refine HRD.out.mono ?_;rintro e w2 ⟨rfl,F2,s2,hZ2,hf2,hf2',hk2⟩)
      | fail)
     go_roundw
     case rel=>exact⟨k+1,by omega,by go_num,F2,s2,by rw[HS2.out];exact HOK.out.kept hk2 (fun j hj h=>HU3.out j hj h),hZ2,fun j hj h=>HU3.out j hj (hf2 j (HOK.out.lt j hj).2 h)⟩
     case measure=>simp[intOf];omega
    ·have HS2:Hid (chgCK S.base S.now (k+1)=chgCK S.base S.now k++[⟨(k:Int),X⟩]):=by show _=_;rw[HSU.out];simp[hxy]
     have hxx:=IH (fun e=>hxy (Eq.symm e):Y≠X);have hws:w.heap.size<=wr.heap.size:=HZ.out.k.size;go_upto_region 8 with (first
      | (go_at_call 22;refine hiu.mono ?_;rintro e w' ⟨rfl,hw'⟩;obtain rfl:=hw'.symm)
      | (go_at_call 43;refine HRD.out.mono ?_;rintro e w2 ⟨rfl,F2,s2,hZ2,hf2,hf2',hk2⟩)
      | fail)
     have hO2:=HOK.out.kept hk2 (fun j hj h=>HU3.out j hj h);have hs2:=hk2.size;obtain⟨v4,w4,hap,hO4,hk4,hv4⟩:=KJ w2 w.heap.size u3 (chgCK S.base S.now k) ⟨(k:Int),X⟩ hO2 (by omega) (by omega);have hb3:∀j,u3.ownBlock=some j->w.heap.size<=j/\¬F2 j:=fun j hj=>⟨(hO2.lt j hj).1,fun h=>HU3.out j hj (hf2 j (HOK.out.lt j hj).2 h)⟩;have hZ4:=hZ2.own hk4 hb3;have HFIN:Hid (OwC 75 w4 w.heap.size v4 (chgCK S.base S.now (k+1))/\Cz w w4 q F F2 D Q M cm s (k+1) s2/\∀j,v4.ownBlock=some j->¬F2 j):=by
      refine⟨by rw[HS2.out];exact hO4,hZ4,fun j hj h=>?_⟩;rcases hv4 j hj with e|e
      ·exact(hb3 j e).2 h
      ·have:=hf2' j h;omega
     clear hO4 hk4 hv4 hZ4 hb3 hO2 hZ2;go_wp2_with (first
      | (at_builtin;refine CQ rfl (.tmp 34) (.tmp 38) 72 72 rfl _ _ rfl rfl hap ?_)
      | fail)
     go_roundw
     case rel=>exact⟨k+1,by omega,by go_num,F2,s2,HFIN.out⟩
     case measure=>simp[intOf];omega
  ·have hkl:ln=k:=by omega
   subst hkl;go_wp2;go_ret;exact⟨_,F',s',rfl,hO,hZ,hu3⟩
theorem Cz.more{w w':World}{q:Cq}{F F':Nat->Prop}{D:Dv}{Q:Nat->ByteArray}{M cm:Int}{s s':St}{n n':Nat}(h:Cz w w' q F F' D Q M cm s n s')(hn:n<=n'):Cz w w' q F F' D Q M cm s n' s':=⟨h.c,h.f,h.k,Nat.le_trans h.b (by omega)⟩
theorem Cz.bound{w w':World}{q:Cq}{F F':Nat->Prop}{D:Dv}{Q:Nat->ByteArray}{M cm:Int}{s s':St}{n:Nat}(h:Cz w w' q F F' D Q M cm s n s'):Cz w w' q F (fun k=>F' k/\k<w'.heap.size) D Q M cm s n s':=⟨Cas.mono h.c (fun k hk hf=>⟨hf,hk⟩),fun k hk=>h.f k hk.1,h.k,h.b⟩
theorem Io(b l:List ByteArray):(chgC l (chgs b l)).map Chg.page=chgK b l l.length:=by
 rw[JI];rfl
set_option maxRecDepth 100000 in
theorem Hy{w:World}{r:Nat}{V:Nat->Prop}{q:Cq}{F:Nat->Prop}{D:Dv}{Q:Nat->ByteArray}{M cm:Int}{s:St}{m:Nat}{S:Sw}(H:Wk w r V q.c m S)(hC:Cst w q F D Q M cm s)(hd:∀k,k<w.heap.size->V k->¬F k)(hQ:S.over=false->q.n=S.now.length/\∀i,i<S.now.length->S.base.getD i ⟨#[]⟩=Q i)(hb:s.h+s.m<=900000000) :
  Calls prog 10 #[.pointer (some ⟨r,0,none⟩)] w fun e w'=>∃v F' s',e=.returned v/\Ow (Value.int .i64) 3 w' w.heap.size v (if S.over then [] else chgK S.base S.now S.now.length)/\Cz w w' q F F' D Q M cm s 160 s'/\(∀k,v.ownBlock=some k->¬F' k):=by
 rcases H with ⟨hov,c1,_⟩|⟨hov,gP,P,NL,hW,hA,hNm,hNl⟩
 ·have hr:=Bz r w c1;rw[hov];have HZ:=hide ((Cz.refl hC).more (Nat.zero_le 160));clear hC;go_enter func10,ntmps10;go_wp2_with (first
   | (go_at_call 21;refine hr.mono ?_;rintro e w' ⟨rfl,hw'⟩;obtain rfl:=hw'.symm)
   | fail)
  go_ret;first|exact⟨_,F,s,rfl,Ow.nil _ _ _ _,HZ.out,(fun k h=>by cases h)⟩|exact⟨_,rfl,Ow.nil _ _ _ _,F,⟨s,HZ.out⟩,(fun k h=>by cases h)⟩|exact⟨_,rfl,Ow.nil _ _ _ _,F,s,HZ.out,(fun k h=>by cases h)⟩
 ·have hr:=B1 r q.c w hW.c0 hW.c1;rw[hov];have hlen:=hA.a.len;have hch:=H5 hW hA hC (by rw[(hQ hov).1,hlen]) hd (fun i hi=>(hQ hov).2 i (by rw[<-hlen];exact hi)) hb;have HPG:=hide (Io S.base S.now);have hl160:(chgC S.now (chgs S.base S.now)).length<=160:=by
   rw[<-F9];exact Nat.le_trans (Ga _ _ _) hA.l1
  have hPl:=hA.lens.2;obtain⟨L,HL⟩:∃L,Hid (chgC S.now (chgs S.base S.now)=L):=⟨_,rfl⟩;rw[HL.out]at hch HPG hl160;have HE:Hid ((if false=true then [] else chgK S.base S.now S.now.length)=L.map Chg.page):=by show _=_;rw[HPG.out];rfl
  rw[HE.out];have HCH:=hide hch;obtain⟨i0,hi,hz0,hz1,hz2⟩:=info_parts infoI;clear hW hA hC hch hd hQ;go_enter func10,ntmps10;go_wp2_with (first
   | (go_at_call 21;refine hr.mono ?_;rintro e w' ⟨rfl,hw'⟩;obtain rfl:=hw'.symm)
   | (go_at_call 31;refine HCH.out.mono ?_;rintro e w1 ⟨v,F',s',rfl,hO,hZ,hv⟩;obtain⟨va,vc,rfl⟩:=(hO.chs).shape)
   | fail)
  have HO:=hide hO;have hZb:=hZ.bound;obtain⟨FB,HFBE⟩:∃FB:Nat->Prop,Hid ((fun k=>F' k/\k<w1.heap.size)=FB):=⟨_,rfl⟩;have HFB:Hid (∀j,FB j->j<w1.heap.size):=fun j h=>by rw[<-HFBE.out]at h;exact h.2
  rw[HFBE.out]at hZb;have HZ1:=hide hZb;clear hO hv hZ hZb;go_loopw [3,12] (fun u t wr=>∃k:Nat,k<=L.length/\t=.int .i64 k/\Ow (Value.int .i64) 3 wr w.heap.size u ((L.take k).map Chg.page)/\OwC 75 wr w.heap.size (.slice va L.length vc) L/\Cz w wr q F FB D Q M cm s P.length s'/\w1.heap.size<=wr.heap.size/\(∀j,u.ownBlock=some j->¬FB j/\¬(Value.slice va L.length vc).ownBlock=some j)) (fun _ t _=>L.length - (intOf t).toNat)
  case atStart=>exact⟨0,Nat.zero_le _,rfl,(show Ow _ _ _ _ _ [] from Ow.nil _ _ _ _),HO.out,HZ1.out,Nat.le_refl _,(fun j h=>by cases h)⟩
  case round =>
   obtain⟨k,hk,rfl,hU,hO,hZ,hw1,hj⟩:=hrel;clear HO HZ1;by_cases hlt:k<L.length
   ·have hki:(k:Int)<(L.length:Int):=by omega
    obtain⟨a',c',he,_,_,hcells⟩:=hO.chs;cases he
    obtain⟨b,off,hba,_,hbl2,q0,q1⟩:=hcells k hlt;have hv:=GL wr L[k] 75;have HT:Hid ((L.take (k+1)).map Chg.page=(L.take k).map Chg.page++[L[k].page]):=by show _=_;rw[List.take_succ_eq_append_getElem hlt,List.map_append];rfl
    obtain⟨x,HX⟩:∃x,Hid (L[k]=x):=⟨_,hide rfl⟩;rw[HX.out]at q0 q1 hv HT;obtain⟨pg,dt⟩:=x;dsimp only at q0 q1 hv HT;have k5:=Kp.alloc none' wr (.cells #[.int .i64 pg,.string dt] 75);have k6:=Kp.alloc none' (wr.alloc (.cells #[.int .i64 pg,.string dt] 75)) (.cells #[.int .i64 pg] 3);have hU6:=(hU.keptN k5).keptN k6;have hO6:=(hO.keptN k5).keptN k6;have hZ6:=(hZ.thenN k5).thenN k6
    have hsrc:=Ou (wr.alloc (.cells #[.int .i64 pg,.string dt] 75)) 33 3 underlying33 (.int .i64 pg) rfl (wr.alloc (.cells #[.int .i64 pg,.string dt] 75)).heap.size rfl;have hwsz:w.heap.size<=((wr.alloc (.cells #[.int .i64 pg,.string dt] 75)).alloc (.cells #[.int .i64 pg] 3)).heap.size:=Nat.le_trans hZ.k.size (Nat.le_trans k5.size k6.size)
    obtain⟨v4,w4,hap,hO4,hg4,hv4⟩:=OK (Value.int .i64) 33 3 33 _ 8 underlying33 infoI (by rfl) (by omega) _ w.heap.size u3 ((L.take k).map Chg.page) _ [pg] hU6 hsrc hwsz (by rw[List.length_map,List.length_take];simp only[List.length_cons,List.length_nil];omega);have hk4:Kp (fun j=>u3.ownBlock=some j) _ w4:=Kp.ofGrown hg4 (fun j he _=>he);have hZ4:=hZ6.own hk4 (fun j h=>⟨(hU.lt j h).1,(hj j h).1⟩);have hO44:=hO6.kept hk4 (fun j h1 h2=>(hj j h2).2 h1)
    have HFIN:Hid (Ow (Value.int .i64) 3 w4 w.heap.size v4 ((L.take (k+1)).map Chg.page)/\OwC 75 w4 w.heap.size (.slice va L.length vc) L/\Cz w w4 q F FB D Q M cm s P.length s'/\w1.heap.size<=w4.heap.size/\(∀j,v4.ownBlock=some j->¬FB j/\¬(Value.slice va L.length vc).ownBlock=some j)):=by
     refine⟨by rw[HT.out];exact hO4,hO44,hZ4,Nat.le_trans hw1 (Nat.le_trans k5.size (Nat.le_trans k6.size hk4.size)),fun j hj4=>?_⟩;rcases hv4 with e|e
     ·exact hj j (by rw[<-e];exact hj4)
     ·rw[e]at hj4;have hj5:=Option.some.inj hj4;have k56:=k5.size;have k66:=k6.size;refine⟨fun h=>?_,fun h=>?_⟩
      ·have:=HFB.out j h;omega
      ·have:=(hO.lt j h).2;omega
    have he5:(wr.alloc (.cells #[.int .i64 pg,.string dt] 75)).heap.size=wr.heap.size+1:=by simp
    obtain⟨v0,v1⟩:=hv;subst hba;rw[he5]at hap;clear hO4 hg4 hv4 hk4 hZ4 hO44 hU6 hO6 hZ6 hsrc hcells hO hZ;go_wp2_with (first
     | (at_builtin;refine CQ rfl (.tmp 16) (.tmp 19) 33 33 rfl _ _ rfl rfl hap ?_)
     | fail)
    go_roundw
    case rel=>exact⟨k+1,by omega,by go_num,HFIN.out⟩
    case measure=>simp[intOf];omega
   ·obtain rfl:k=L.length:=by omega
    rw[List.take_length]at hU;go_wp2;go_ret;exact⟨_,FB,s',rfl,hU,hZ.more hPl,fun j h=>(hj j h).1⟩
end Go.Proofs.YtgcgacjhkhjhmaaGreatDoor
