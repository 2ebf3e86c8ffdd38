/- Part of the proof: contracts over the turned program. -/
import Derived.Test.YtgcgacjhkhjhmaaGreatDoorX34
set_option linter.unusedVariables false
set_option maxHeartbeats 4000000
open Go.Proofs.Tryz
namespace Go.Proofs.YtgcgacjhkhjhmaaGreatDoor
open Go Go.RowKit
def restB(kid:Nat)(nab:Nd)(j:Nat):List Nat:=if j=0 then bts kid nab else if j=1 then (if kid<nab.ks.length then [kid] else []) else []
structure GaSt (b r c mm:Nat) (o1:Nat->Nat) (V:Nat->Prop) (C:Cg) (wv tv sv:Value) (xs:List SpV) (nab:Nd) (w1 W:World) (oW:Nat->Nat) (kz:Nat) (q:Option (Nat × Nd)) (v:Value):Prop where
 cm:Cm W b r oW { C with k:=kz } wv tv sv xs
 wk:Wk W r V c mm C.S
 old:∀k,k<w1.heap.size->oW k=o1 k
 kp:Kp (only b) w1 W
 gr:Gre W w1.heap.size oW nab q v
def GrQ(nab:Nd)(q:Option (Nat × Nd)):Prop:=∀p,q=some p->p.1<nab.ks.length/\p.2.ps.length<=1048576/\p.2.ks.length<=1048576/\p.2.kd.length<=1048576/\p.2.size<=4194304
theorem LH{C:Cg}{kid bt:Nat}{n nab:Nd}(h:(C.coN (coZ kid bt nab)).leaf=n.leaf)(hnl:nab.leaf=false)(hnz:nab.size<=100000)(hp:n.ps.length<=100000)(hkk:n.ks.length<=100000)(hd:n.kd.length<=100000)(hsz:n.size<=1000000):(C.coJ kid bt n nab).ps.length<=1048576/\(C.coJ kid bt n nab).ks.length<=1048576/\(C.coJ kid bt n nab).kd.length<=1048576/\(C.coJ kid bt n nab).size<=4194304:=by
 have h1:=Ec C (coZ kid bt nab);have h2:=Fh nab hnl bt;unfold Cg.coJ;split
 ·have:=Dc n (C.coN (coZ kid bt nab)) (nab.ks.getD bt ⟨#[]⟩) h.symm;omega
 ·have:=Dc (C.coN (coZ kid bt nab)) n (nab.ks.getD bt ⟨#[]⟩) h;omega
theorem EM(kid:Nat)(zb:Int)(h:-1<=zb)(h':zb<=(kid:Int))(hw:wrap64 (zb+1)=zb+1):kid+2 - (intOf (.int .i64 (wrap64 (zb+1)))+1).toNat<kid+2 - (intOf (.int .i64 zb)+1).toNat:=by
 rw[hw];simp only[intOf];omega
theorem EN{kid j:Nat}{zb:Int}(h:(kid:Int) - 1+(j:Int)=zb)(hw:wrap64 (zb+1)=zb+1):Value.int .i64 (wrap64 (zb+1))=.int .i64 ((kid:Int) - 1+((j+1:Nat):Int)):=by
 rw[hw,show (kid:Int) - 1+((j+1:Nat):Int)=zb+1 by omega]
set_option maxRecDepth 100000 in
theorem JU(b r c mm g m cap i rb base:Nat)(o:Nat->Nat)(V:Nat->Prop)(C:Cg)(wv tv sv:Value)(xs xa:List SpV)(s x:SpV)(n nab:Nd)(kid:Nat)(w:World)(hC:Cm w b r o C wv tv sv xs)(hWk:Wk w r V c mm C.S)(hV:∀k,V k->o k=5/\k<w.heap.size)(hk:C.k<=80000)(hl:C.ws.length<=80000)(hs:C.sp.length<=80000)
  (hN:Nv w.heap.size w s.node n) (hso:∀k,s.own k->k<w.heap.size/\(o k=0\/6<=o k)) (hA:AbM w o g m cap i rb base xa x nab) (hkid:x.kid=(kid:Int)) (hkl:kid<=nab.ks.length) (hks:nab.kd.length=nab.ks.length+1) (hn6:nab.kd.length<=1000) (hnl:nab.leaf=false) (hnz:nab.size<=100000) (hp:n.ps.length<=100000) (hkk:n.ks.length<=100000) (hd:n.kd.length<=100000) (hsz:n.size<=1000000) :
  Calls prog 129 #[.pointer (some ⟨b,0,none⟩),.agg #[.int .i64 s.pg,.bool s.l,.slice s.a1 s.n1 s.c1,.slice s.a2 s.n2 s.c2,.slice s.a3 s.n3 s.c3,.int .i64 s.kid,.int .i64 s.was],.pointer (some ⟨g,i*7,none⟩)] w fun e w'=>e=.returned (.tuple #[.bool (C.gather s.pg n kid nab).go,.int .i64 (C.gather s.pg n kid nab).e])/\BV b r c mm g m cap i rb base o (C.gather s.pg n kid nab) xa x w w':=by
 have HN3:=hide hN.kidN;have HKID:=hide hkid;have HKS:=hide hks;have HKL:=hide hkl;have HN6:=hide hn6;have HNZ:=hide hnz;have HP:=hide hp;have HKK:=hide hkk;have HD:=hide hd;have HSZ:=hide hsz;have HK:=hide hk;have HL:=hide hl;have HS:=hide hs;clear hkid hks hkl hn6 hnz hp hkk hd hsz hk hl hs;have hKA:Kp none' w (w.alloc (.cells #[.int .i64 s.pg,.bool s.l,.slice s.a1 s.n1 s.c1,.slice s.a2 s.n2 s.c2,.slice s.a3 s.n3 s.c3,.int .i64 s.kid,.int .i64 s.was] 85)):=Kp.alloc _ _ _
 have cell:=Am w #[.int .i64 s.pg,.bool s.l,.slice s.a1 s.n1 s.c1,.slice s.a2 s.n2 s.c2,.slice s.a3 s.n3 s.c3,.int .i64 s.kid,.int .i64 s.was] 85;have q0:=cell 0 _ rfl
 have HQ:Hid (∀j u,(#[.int .i64 s.pg,.bool s.l,.slice s.a1 s.n1 s.c1,.slice s.a2 s.n2 s.c2,.slice s.a3 s.n3 s.c3,.int .i64 s.kid,.int .i64 s.was]:Array Value)[j]?=some u->(w.alloc (.cells #[.int .i64 s.pg,.bool s.l,.slice s.a1 s.n1 s.c1,.slice s.a2 s.n2 s.c2,.slice s.a3 s.n3 s.c3,.int .i64 s.kid,.int .i64 s.was] 85)).cell? ⟨w.heap.size,j,none⟩=some u):=fun j u h=>cell j u h;have hold:∀k,k<w.heap.size->lab o w.heap.size 9 k=o k:=fun k hk=>Ad hk
 have HC1:=hide (hC.kept (o':=lab o w.heap.size 9) hKA (fun _ _ _ h=>h) hold);have HW1:=hide (hWk.keptN hKA);have HV1:Hid (∀k,V k->lab o w.heap.size 9 k=5/\k<(w.alloc (.cells #[.int .i64 s.pg,.bool s.l,.slice s.a1 s.n1 s.c1,.slice s.a2 s.n2 s.c2,.slice s.a3 s.n3 s.c3,.int .i64 s.kid,.int .i64 s.was] 85)).heap.size):=fun k e=>⟨by rw[hold k (hV k e).2];exact(hV k e).1,Qd (hV k e).2 hKA.size⟩;have hA1:=hA.kept (o':=lab o w.heap.size 9) hKA (fun _ _ _ h=>h) hold
 have HN1:=hide (hN.keptO hKA (fun _ _ h=>h));have HSO:Hid (∀k,s.own k->k<w.heap.size/\(lab o w.heap.size 9 k=0\/6<=lab o w.heap.size 9 k)):=fun k e=>by rw[hold k (hso k e).1];exact hso k e
 have HOG:Hid (lab o w.heap.size 9 w.heap.size=9):=Ap (Nat.le_refl _);have HKA:=hide hKA;have HO1:=hide hold;have HGW:=hide (lt_of_cell q0);obtain⟨R,HR⟩:∃q,Hid (C.gather s.pg n kid nab=q):=⟨_,hide rfl⟩;rw[HR.out];have HBL:Hid (b<w.heap.size/\o b=1):=⟨hC.hd.lt,hC.ob⟩;have HV0:Hid (∀k,V k->o k=5):=fun k e=>(hV k e).1;have HAX:Hid ((∀k,x.own k->o k=6)/\¬x.own g):=⟨hA.ox,hA.hg⟩;clear cell hC hN hWk hV hKA hold hso hA q0;go_enter func129,ntmps129;go_upto_region 1 with fail
 generalize w.alloc (.cells #[.int .i64 s.pg,.bool s.l,.slice s.a1 s.n1 s.c1,.slice s.a2 s.n2 s.c2,.slice s.a3 s.n3 s.c3,.int .i64 s.kid,.int .i64 s.was] 85)=w1 at *;obtain⟨gb,Hgb⟩:∃q,Hid (w.heap.size=q):=⟨_,rfl⟩;obtain⟨o1,Ho1⟩:∃q,Hid (lab o w.heap.size 9=q):=⟨_,rfl⟩;rw[Ho1.out]at HC1 HO1 HV1 HSO HOG hA1;rw[Hgb.out]at HOG HQ HSO |-;obtain⟨ka,kc,ek,_⟩:=hA1.nd.toM.k.open;have kS:w1.cell? ⟨g,i*7+1+2,none⟩=some (.slice ka nab.ks.length kc):=(row_step hA1.row i hA1.hi 3 _ (by rw[hA1.hx,<-ek];rfl)).1
 have kI:w1.cell? ⟨g,i*7+5,none⟩=some (.int .i64 (kid:Int)):=(row_step hA1.row i hA1.hi 5 _ (by rw[hA1.hx,<-HKID.out];rfl)).1;have HA1:=hide hA1;clear hA1 ek;go_upto_region 3 with fail
 go_loopw [8,9,10,11,12,13,14] (fun t8 t9 _ _ _ _ _ wr=>∃(j kz:Nat) (q:Option (Nat × Nd)) (oW:Nat->Nat),j<=2/\t9=.int .i64 ((kid:Int) - 1+j)/\Hid (kz<=C.k+j)/\Hid (gathG s.pg n nab kid (restB kid nab j) q { C with k:=kz }=R)/\Hid (GaSt b r c mm o1 V C wv tv sv xs nab w1 wr oW kz q t8)/\Hid (∀n gg cc,t8=.slice (some ⟨gg,0,none⟩) (n+1) cc->n+1<=j)/\Hid (GrQ nab q)) (fun _ t9 _ _ _ _ _ _=>(kid+2 - (intOf t9+1).toNat))
 case atStart=>exact⟨0,C.k,none,o1,by omega,by rw[show wrap64 ((kid:Int) - 1)=(kid:Int) - 1+((0:Nat):Int) by unfold wrap64;have:=HKL.out;have:=HN6.out;have:=HKS.out;omega],hide (Nat.le_refl _),HR,hide ⟨HC1.out,HW1.out,fun _ _=>rfl,Kp.refl _ _,rfl⟩,hide (fun n gg cc e=>by cases e),hide (fun p h=>by cases h)⟩
 case round =>
  obtain⟨j,kz,q,oW,hj,rfl,HKZ,HG,HST,HGN,HGQ⟩:=hrel;have hgb:∀k,o1 k≠1->¬only b k:=fun k e e'=>by unfold only at e';subst e';exact e HC1.out.ob
  have HGB:=hide hgb;replace kS:=HST.out.kp.cell kS (hgb g (by rw[HA1.out.og];omega));replace kI:=HST.out.kp.cell kI (hgb g (by rw[HA1.out.og];omega));have HQW:Hid (∀j u,(#[.int .i64 s.pg,.bool s.l,.slice s.a1 s.n1 s.c1,.slice s.a2 s.n2 s.c2,.slice s.a3 s.n3 s.c3,.int .i64 s.kid,.int .i64 s.was]:Array Value)[j]?=some u->wr.cell? ⟨gb,j,none⟩=some u):=fun j u h=>HST.out.kp.cell (HQ.out j u h) (hgb gb (by rw[HOG.out];omega));have q0:=HQW.out 0 _ rfl;have q1:=HQW.out 1 _ rfl;have q2:=HQW.out 2 _ rfl
  have q3:=HQW.out 3 _ rfl;have q4:=HQW.out 4 _ rfl;have q5:=HQW.out 5 _ rfl;have q6:=HQW.out 6 _ rfl;have p2:wr.cell? ⟨gb,1+1,none⟩=some (.slice s.a1 s.n1 s.c1):=q2;have p3:wr.cell? ⟨gb,1+2,none⟩=some (.slice s.a2 s.n2 s.c2):=q3;have p4:wr.cell? ⟨gb,1+3,none⟩=some (.slice s.a3 s.n3 s.c3):=q4;obtain⟨zb,Hzb⟩:∃z,Hid ((kid:Int) - 1+(j:Int)=z):=⟨_,hide rfl⟩;rw[Hzb.out];obtain⟨lk,Hlk⟩:∃z,Hid (nab.ks.length=z):=⟨_,hide rfl⟩;rw[Hlk.out]at kS;clear hgb;have HJ:=hide hj
  have HZW:Hid (wrap64 (zb+1)=zb+1/\-1<=zb):=by
   have h1:=Hzb.out;have h2:=HKL.out;have h3:=HN6.out;have h4:=HKS.out;exact⟨by unfold wrap64;omega,by omega⟩
  have HKPW:Hid (∀W,Kp (only b) w1 W->Kp (fun k=>1<=o k/\o k<=6) w W):=fun W h=>HKA.out.trans h (fun _ _ h=>by cases h) (fun k _ e=>by unfold only at e;subst e;have:=HBL.out.2;omega);have HAW:Hid (AbM wr oW g m cap i rb base xa x nab):=HA1.out.kept HST.out.kp (fun k _ e=>HGB.out k (by omega)) HST.out.old;have HNW:Hid (Nv wr.heap.size wr s.node n):=HN1.out.keptO HST.out.kp (fun k e=>HGB.out k (by have:=(HSO.out k e).2;omega))
  have HGWL:Hid (gb<w1.heap.size):=by have:=HGW.out;rw[Hgb.out]at this;exact this
  have HSW:Hid (∀k,s.own k->k<wr.heap.size/\(oW k=0\/6<=oW k)):=fun k e=>by
   have h1:=HSO.out k e;have h2:=HGWL.out;exact⟨Qd (Nat.lt_trans h1.1 h2) HST.out.kp.size,by rw[HST.out.old k (Nat.lt_trans h1.1 h2)];exact h1.2⟩
  have HVW:Hid (∀k,V k->oW k=5/\k<wr.heap.size):=fun k e=>⟨by rw[HST.out.old k (HV1.out k e).2];exact(HV1.out k e).1,Qd (HV1.out k e).2 HST.out.kp.size⟩;by_cases hj2:j=2
  ·have hle:¬zb<=(kid:Int):=by have:=Hzb.out;omega
   have HGF:Hid (Cg.gathF { C with k:=kz } s.pg n nab q=R):=by
    have h:=HG.out;rw[hj2]at h;exact h
   clear hj hj2 HG;have hsz:∀k,k<w.heap.size->k<w1.heap.size:=fun k h=>Nat.lt_trans h HGW.out;have hex:∃o6:Nat->Nat,(∀k,s.own k->o6 k=0)/\(∀k,¬s.own k->o6 k=oW k):=by
    classical
    exact⟨fun k=>if s.own k then 0 else oW k,fun k h=>if_pos h,fun k h=>if_neg h⟩
   obtain⟨o6,h60,h61⟩:=hex;have h65:∀k,oW k<=5->o6 k=oW k:=fun k h=>by
    by_cases e:s.own k
    ·rw[h60 k e];have:=(HSW.out k e).2;omega
    ·exact h61 k e
   have HWRT:=hide (A0 b r o6 { C with k:=kz } wv tv sv xs ⟨s.pg,s.l,s.a1,s.n1,s.c1,s.a2,s.n2,s.c2,s.a3,s.n3,s.c3,0,0⟩ n wr (HST.out.cm.relabel (fun k h=>h65 k (by omega))) ⟨rfl,HNW.out,fun k e=>⟨(HSW.out k e).1,h60 k e⟩⟩ rfl rfl (by show C.ws.length<=100000;have:=HL.out;omega))
   have HWEND:Hid (∀xs' w7 wv7 o7,Cm w7 b r o7 (Cg.write { C with k:=kz } s.pg n) wv7 tv sv xs'->Kp (fun k=>o6 k=1\/o6 k=2) wr w7->(∀k,k<wr.heap.size->o7 k=o6 k)->BV b r c mm g m cap i rb base o ⟨Cg.write { C with k:=kz } s.pg n,nab,false,0⟩ xa x w w7):=by
    intro xs' w7 wv7 o7 hC7 hk7 ho7;have hV6:∀k,V k->o6 k=5:=fun k e=>by rw[h65 k (by have:=(HVW.out k e).1;omega)];exact(HVW.out k e).1
    refine⟨o7,V,wv7,tv,sv,xs',hC7,HST.out.wk.kept hk7 (fun k _ e e'=>by have:=hV6 k e;omega),fun k e=>⟨by rw[ho7 k (HVW.out k e).2];exact hV6 k e,Qd (HVW.out k e).2 hk7.size⟩,?_,fun h=>(by cases h),fun _=>Ao HAW.out.row hk7 (fun k e e'=>by have e1:g=k:=Option.some.inj e;subst e1;by_cases hg:s.own g;(have:=h60 g hg;omega);(have h1:=h61 g hg;have h2:=HAW.out.og;omega)),fun k e _=>HV0.out k e⟩
    refine(HKPW.out _ HST.out.kp).trans hk7 (fun _ _ h=>h) (fun k h e=>?_);have hn:¬s.own k:=fun e'=>by have:=h60 k e';omega
    rw[h61 k hn,HST.out.old k (hsz k h),HO1.out k h]at e;omega
   have HSS:=hide hsz;clear h60 h61 h65 hsz;cases q with
   | none =>
    have hu8:u8=.slice none 0 0:=HST.out.gr;subst hu8;by_cases h1:s.n3=1
    ·have hn1:((s.n3:Int)==1)=true:=by rw[h1];rfl
     clear h1;have HRE:Hid (R=⟨Cg.write { C with k:=kz } s.pg n,nab,false,0⟩):=by
      show _=_;rw[<-HGF.out];rfl
     go_wp2_with (first
      | (go_at_call 130;refine HWRT.out.mono ?_;rintro e w7 ⟨rfl,o7,wv7,ho7,hC7,hk7⟩)
      | fail)
     go_ret2;rw[HRE.out];exact⟨rfl,HWEND.out _ w7 wv7 o7 hC7 hk7 ho7⟩
    ·have hn1:((s.n3:Int)==1)=false:=by rw[beq_eq_false_iff_ne];omega
     clear h1;have HRE:Hid (R=⟨Cg.write { C with k:=kz } s.pg n,nab,false,0⟩):=by
      show _=_;rw[<-HGF.out];rfl
     go_wp2_with (first
      | (go_at_call 130;refine HWRT.out.mono ?_;rintro e w7 ⟨rfl,o7,wv7,ho7,hC7,hk7⟩)
      | fail)
     go_ret2;rw[HRE.out];exact⟨rfl,HWEND.out _ w7 wv7 o7 hC7 hk7 ho7⟩
   | some p =>
    obtain⟨y,nn,gg,cc,rest,hu8,hrow,hn5,hyp,hyk,hyw,hyW,hg8⟩:=HST.out.gr;subst hu8;have hpos:(0:Int)<((nn+1:Nat):Int):=by omega
    have HYP:=hide hyp;have HYW:=hide hyW;have HROW:=hide hrow;clear hyp hyk hyw hyW hrow hg8;by_cases h1:s.n3=1
    ·have hn1:((s.n3:Int)==1)=true:=by rw[h1];rfl
     obtain⟨pb,pj⟩:=p;have HQ2:=hide (HGQ.out (pb,pj) rfl);have HRE:Hid (R=⟨(Cg.write { C with k:=kz } (nab.kd.getD pb 0) pj.fst).write (nab.kd.getD (pb+1) 0) pj.snd,{ nab with ks:=nab.ks.set pb pj.mid },true,0⟩):=by
      show _=_;rw[<-HGF.out];show (if n.kd.length=1 then _ else _)=_;rw[if_pos (by rw[<-HN3.out];exact h1)]
     clear h1;have c0:=(AO HROW.out 0 (.int .i64 y.pg) rfl).1;have c1:=(AO HROW.out 1 (.int .i64 (nab.kd.getD (pb+1) 0)) rfl).1;have c2:=(AO HROW.out 2 (.int .i64 (pb:Int)) rfl).1;have c3:=(AO HROW.out 3 (.bool y.l) rfl).1;have c4:=(AO HROW.out 4 (.slice y.a1 y.n1 y.c1) rfl).1;have c5:=(AO HROW.out 5 (.slice y.a2 y.n2 y.c2) rfl).1;have c6:=(AO HROW.out 6 (.slice y.a3 y.n3 y.c3) rfl).1
     have HSH:=hide (Mu b r g m cap i rb base oW { C with k:=kz } wv tv sv xs xa y x pj nab (nab.kd.getD (pb+1) 0) pb wr HST.out.cm HYW.out.nd HAW.out HQ2.out.1 HKS.out (by have:=HN6.out;omega) (by show C.ws.length<=90000;have:=HL.out;omega) HQ2.out.2.1 HQ2.out.2.2.1 HQ2.out.2.2.2.1 HQ2.out.2.2.2.2);obtain⟨rt,Hrt⟩:∃q,Hid (nab.kd.getD (pb+1) 0=q):=⟨_,hide rfl⟩;rw[Hrt.out]at HSH c1 HRE;go_wp2_with (first
      | (go_at_call 157;refine HSH.out.mono ?_;rintro e w6 ⟨rfl,o6',wv6,y6,z6,ho6,hC6,⟨x',hx1,hx2,hx3,hx4⟩,hk6⟩)
      | fail)
     go_ret2;rw[HRE.out];have hszr:∀k,k<w1.heap.size->k<wr.heap.size:=fun k h=>Qd h HST.out.kp.size;have hoo:∀k,k<w.heap.size->o6' k=o k:=fun k h=>by rw[ho6 k (hszr k (HSS.out k h)),HST.out.old k (HSS.out k h),HO1.out k h]
     refine⟨rfl,o6',V,wv6,tv,sv,_,by rw[<-HYP.out];exact hC6,HST.out.wk.kept hk6 (fun k _ e e'=>by have:=(HVW.out k e).1;omega),fun k e=>⟨by rw[ho6 k (HVW.out k e).2];exact(HVW.out k e).1,Qd (HVW.out k e).2 hk6.size⟩,?_,fun _ _=>⟨hoo,x',hx1,hx2,hx3,fun k e=>⟨.inl (HAX.out.1 k (hx4 k e)),?_⟩,fun e=>HAX.out.2 (hx4 g e)⟩,fun h=>(by cases h),fun k e _=>HV0.out k e⟩
     ·refine(HKPW.out _ HST.out.kp).trans hk6 (fun _ _ h=>h) (fun k h e=>?_);rw[HST.out.old k (HSS.out k h),HO1.out k h]at e;omega
     ·have h1:=HAW.out.ox k (hx4 k e);rw[ho6 k (HAW.out.nd.blocks k (hx4 k e)).2];omega
    ·have hn1:((s.n3:Int)==1)=false:=by rw[beq_eq_false_iff_ne];omega
     have hkd1:¬n.kd.length=1:=by rw[<-HN3.out];exact h1
     have HKD1:=hide hkd1;clear h1 hkd1;have HRE:Hid (R=⟨Cg.write { C with k:=kz } s.pg n,nab,false,0⟩):=by
      show _=_;rw[<-HGF.out];show (if n.kd.length=1 then _ else _)=_;rw[if_neg HKD1.out]
     go_wp2_with (first
      | (go_at_call 130;refine HWRT.out.mono ?_;rintro e w7 ⟨rfl,o7,wv7,ho7,hC7,hk7⟩)
      | fail)
     go_ret2;rw[HRE.out];exact⟨rfl,HWEND.out _ w7 wv7 o7 hC7 hk7 ho7⟩
  ·have hle:zb<=(kid:Int):=by have:=Hzb.out;omega
   have HLE:=hide hle;by_cases hval:0<=zb/\zb<(lk:Int)
   ·obtain⟨bt,Hbt⟩:∃bt:Nat,Hid (zb=(bt:Int)):=⟨zb.toNat,hide (by omega)⟩;have hrest:restB kid nab j=bt::restB kid nab (j+1):=by
     have h1:=Hzb.out;have h2:=Hlk.out;have h3:=HKL.out;have h4:=Hbt.out;rcases Nat.eq_zero_or_pos j with e|e
     ·subst e;show bts kid nab=bt::(if kid<nab.ks.length then [kid] else []);unfold bts;rw[if_pos (by omega),show kid - 1=bt by omega];rfl
     ·have e1:j=1:=by omega
      subst e1;show (if kid<nab.ks.length then [kid] else [])=[bt];rw[if_pos (by omega),show kid=bt by omega]
    rw[hrest]at HG;have hbl:bt<nab.ks.length:=by have h2:=Hlk.out;have h4:=Hbt.out;omega
    have HBT:=hide hbl;have e:=Hbt.out;subst e;have h0:¬(bt:Int)<0:=by omega
    have hlt:¬(lk:Int)<=(bt:Int):=by omega
    have HCO:=hide (JM b r c mm g m cap i rb base oW V { C with k:=kz } wv tv sv xs xa s x n nab kid bt wr HST.out.cm HST.out.wk HVW.out (by show kz<=90000;have:=HKZ.out;have:=HK.out;have:=HJ.out;omega) HNW.out HSW.out (HAW.out.toS (fun e=>by have:=HKS.out;rw[e]at this;simp at this)).1 HKID.out hbl HKS.out (by have:=HN6.out;omega) (by have:=HP.out;omega) (by have:=HKK.out;omega) (by have:=HD.out;omega) (by have:=Ec { C with k:=kz } (coZ kid bt nab);omega))
    obtain⟨C',HC'⟩:∃q:Cg,Hid (({ C with k:=kz }:Cg)=q):=⟨_,hide rfl⟩;rw[HC'.out]at HCO HG;obtain⟨z,Hz⟩:∃q,Hid (coZ kid bt nab=q):=⟨_,hide rfl⟩;clear hrest hj hj2 hbl hval;obtain⟨E,HE⟩:∃q,Hid (C'.coE z=q):=⟨_,hide rfl⟩;have HCOK:Hid (C'.co z={ C with k:=(C'.co z).k }/\(C'.co z).k<=kz+1):=by
     rw[<-HC'.out];exact⟨rfl,Ky _ _ _⟩
    by_cases hE:E=0
    ·have hEb:(E != 0)=false:=by rw[hE];rfl
     by_cases hlf:(C'.coN z).leaf=n.leaf
     ·obtain⟨J,HJJ⟩:∃q,Hid (C'.coJ kid bt n nab=q):=⟨_,hide rfl⟩
      have HCE:Hid (Calls prog 155 #[.pointer (some ⟨b,0,none⟩),.agg #[.int .i64 s.pg,.bool s.l,.slice s.a1 s.n1 s.c1,.slice s.a2 s.n2 s.c2,.slice s.a3 s.n3 s.c3,.int .i64 s.kid,.int .i64 s.was],.pointer (some ⟨g,i*7,none⟩),.int .i64 (bt:Int)] wr fun e w'=>∃y:SpV,e=.returned (.tuple #[.agg #[.int .i64 y.pg,.int .i64 (nab.kd.getD (bt+1) 0),.int .i64 (bt:Int),.bool y.l,.slice y.a1 y.n1 y.c1,.slice y.a2 y.n2 y.c2,.slice y.a3 y.n3 y.c3],.bool true,.int .i64 0])/\y.pg=nab.kd.getD bt 0/\y.kid=0/\y.was=0/\∃o',(∀k,k<wr.heap.size->o' k=oW k)/\Cm w' b r o' (C'.co z) wv tv sv xs/\Wk w' r V c mm C'.S/\Kp (only b) wr w'/\WrIs w' o' y (y.pg,J)):=HCO.out.mono (fun e w' h=>by
       obtain⟨o',h1,h2,h3,h4,h5⟩:=h;unfold CoupV at h5;rw[Hz.out,HE.out,if_pos hE,if_pos hlf]at h5;rw[Hz.out]at h2;rw[HJJ.out]at h5;obtain⟨y,a1,a2,a3,a4,a5⟩:=h5;exact⟨y,a5,a1,a2,a3,o',h1,h2,h3,h4,a4⟩)
      obtain⟨rt,Hrt⟩:∃q,Hid (nab.kd.getD (bt+1) 0=q):=⟨_,hide rfl⟩;rw[Hrt.out]at HCE;have HLF:=hide hlf;have HE0:=hide hE;clear HCO hE hlf;go_upto_region 7 with (first
       | (go_at_call 155;refine HCE.out.mono ?_;rintro e w3 ⟨y,rfl,hyp,hyk,hyw,o3,ho3,hC3,hW3,hk3,hy3⟩;have HYP:=hide hyp;have HYK:=hide hyk;have HYW:=hide hyw;clear hyp hyk hyw)
       | fail)
      have hka:Kp none' w3 (w3.alloc (.cells #[.int .i64 y.pg,.int .i64 rt,.int .i64 (bt:Int),.bool y.l,.slice y.a1 y.n1 y.c1,.slice y.a2 y.n2 y.c2,.slice y.a3 y.n3 y.c3] 216)):=Kp.alloc _ _ _;have cell:=Am w3 #[.int .i64 y.pg,.int .i64 rt,.int .i64 (bt:Int),.bool y.l,.slice y.a1 y.n1 y.c1,.slice y.a2 y.n2 y.c2,.slice y.a3 y.n3 y.c3] 216
      have HU:Hid (∀W,Kp none' (w3.alloc (.cells #[.int .i64 y.pg,.int .i64 rt,.int .i64 (bt:Int),.bool y.l,.slice y.a1 y.n1 y.c1,.slice y.a2 y.n2 y.c2,.slice y.a3 y.n3 y.c3] 216)) W->∀j u,(#[.int .i64 y.pg,.int .i64 rt,.int .i64 (bt:Int),.bool y.l,.slice y.a1 y.n1 y.c1,.slice y.a2 y.n2 y.c2,.slice y.a3 y.n3 y.c3]:Array Value)[j]?=some u->W.cell? ⟨w3.heap.size,j,none⟩=some u):=fun W hk j u h=>hk.cell (cell j u h) (fun h=>h)
      have HC4:=hide (hC3.kept (o':=lab o3 w3.heap.size 9) hka (fun _ _ _ h=>h) (fun k h=>Ad h));have HW4:=hide (hW3.keptN hka);have HY4:=hide (hy3.kept (o':=lab o3 w3.heap.size 9) hka (fun _ _ _ h=>h) (fun k h=>Ad h));have hob:∀k,oW k≠1->¬only b k:=fun k e e'=>by unfold only at e';subst e';exact e HST.out.cm.ob
      have HA4:=hide ((HAW.out.kept hk3 (fun k _ e=>hob k (by omega)) ho3).kept (o':=lab o3 w3.heap.size 9) hka (fun _ _ _ h=>h) (fun k h=>Ad h));have HGR4:=hide ((HST.out.gr.kept hk3 (fun k _ e=>hob k (by omega)) ho3).kept (o':=lab o3 w3.heap.size 9) hka (fun _ _ _ h=>h) (fun k h=>Ad h));have HO4:Hid (∀k,k<w1.heap.size->lab o3 w3.heap.size 9 k=o1 k):=fun k h=>by
       have h1:=Qd h HST.out.kp.size;rw[Ad (Qd h1 hk3.size),ho3 k h1,HST.out.old k h]
      have HK14:=hide ((HST.out.kp.then hk3).thenN hka);have HV4:Hid (∀k,V k->lab o3 w3.heap.size 9 k=5):=fun k e=>by
       rw[HO4.out k (HV1.out k e).2];exact(HV1.out k e).1
      have HG9:Hid (lab o3 w3.heap.size 9 w3.heap.size=9):=Ap (Nat.le_refl _);clear cell hC3 hW3 hy3 hk3 hka hob ho3;generalize w3.alloc (.cells #[.int .i64 y.pg,.int .i64 rt,.int .i64 (bt:Int),.bool y.l,.slice y.a1 y.n1 y.c1,.slice y.a2 y.n2 y.c2,.slice y.a3 y.n3 y.c3] 216)=w4 at *;obtain⟨o4,Ho4⟩:∃q,Hid (lab o3 w3.heap.size 9=q):=⟨_,hide rfl⟩;rw[Ho4.out]at HC4 HY4 HA4 HGR4 HO4 HV4 HG9;obtain⟨gc,Hgc⟩:∃q,Hid (w3.heap.size=q):=⟨_,hide rfl⟩;rw[Hgc.out]at HU HG9 |-
      have HJS:=hide (LH (C:=C') (kid:=kid) (bt:=bt) (by rw[Hz.out];exact HLF.out) hnl HNZ.out HP.out HKK.out HD.out HSZ.out);rw[HJJ.out]at HJS;have HWR:=hide (Dm y.node J _ w4 HY4.out.nd (Nat.le_refl _) (by have:=HJS.out.1;omega) (by have:=HJS.out.2.1;omega));unfold SpV.node at HWR;obtain⟨jw,Hjw⟩:∃q,Hid (J.write=q):=⟨_,hide rfl⟩;obtain⟨je,Hje⟩:∃q,Hid (J.writeE=q):=⟨_,hide rfl⟩;rw[Hjw.out,Hje.out]at HWR;have u0:=HU.out w4 (Kp.refl _ _) 0 _ rfl;have u3:=HU.out w4 (Kp.refl _ _) 3 _ rfl
      have u4:w4.cell? ⟨gc,3+1,none⟩=some (.slice y.a1 y.n1 y.c1):=HU.out w4 (Kp.refl _ _) 4 _ rfl;have u5:w4.cell? ⟨gc,3+2,none⟩=some (.slice y.a2 y.n2 y.c2):=HU.out w4 (Kp.refl _ _) 5 _ rfl;have u6':w4.cell? ⟨gc,3+3,none⟩=some (.slice y.a3 y.n3 y.c3):=HU.out w4 (Kp.refl _ _) 6 _ rfl;by_cases hwe:je=0
      ·have hwb:(je==0)=true:=by rw[hwe];rfl
       have HRE:Hid (R=⟨{ (C'.co z).write (nab.kd.getD bt 0) J with sp:=C'.sp++[rt] },nab.lose (bt+1),true,0⟩):=by
        show _=_;rw[<-HG.out,gathG,Hz.out,HE.out,if_pos HE0.out,if_pos HLF.out,HJJ.out,Hje.out,if_pos hwe,Hrt.out]
       clear hwe HG;go_upto_region 12 with (first
        | (go_at_call 7;refine HWR.out.mono ?_;rintro e w5 ⟨rfl,hk5⟩)
        | fail)
       have v0:=HU.out w5 hk5 0 _ rfl;have v1:=HU.out w5 hk5 1 _ rfl;have v2:=HU.out w5 hk5 2 _ rfl;have v3:=HU.out w5 hk5 3 _ rfl;have v4:=HU.out w5 hk5 4 _ rfl;have v5:=HU.out w5 hk5 5 _ rfl;have v6:=HU.out w5 hk5 6 _ rfl
       have HMG:=hide (L7 b r g m cap i rb base o4 (C'.co z) wv tv sv xs xa y x J nab rt bt w5 (HC4.out.kept hk5 (fun _ _ _ h=>h) (fun _ _=>rfl)) (HY4.out.kept hk5 (fun _ _ _ h=>h) (fun _ _=>rfl)) HYK.out HYW.out (HA4.out.kept hk5 (fun _ _ _ h=>h) (fun _ _=>rfl)) (by have:=HBT.out;have:=HKS.out;omega) HKS.out (by have:=HN6.out;omega) (by rw[HCOK.out.1];show C.ws.length<=100000;have:=HL.out;omega) (by rw[HCOK.out.1];show C.sp.length<=100000;have:=HS.out;omega));clear u0 u3 u4 u5 u6'
       go_wp2_with (first
        | (go_at_call 156;refine HMG.out.mono ?_;rintro e w6 ⟨rfl,o6,wv6,sv6,ho6,hC6,⟨x',hx1,hx2,hx3,hx4⟩,hk6⟩)
        | fail)
       go_ret2;rw[HRE.out];have hsz:∀k,k<w.heap.size->k<w1.heap.size:=fun k h=>Nat.lt_trans h HGW.out;have hsz5:∀k,k<w1.heap.size->k<w5.heap.size:=fun k h=>Qd h (Nat.le_trans HK14.out.size hk5.size);have hoo:∀k,k<w.heap.size->o6 k=o k:=fun k h=>by rw[ho6 k (hsz5 k (hsz k h)),HO4.out k (hsz k h),HO1.out k h]
       have hSS:(C'.co z).S=C'.S:=rfl;have hW6:=(HW4.out.keptN hk5).kept hk6 (fun k _ e e'=>by have:=HV4.out k e;omega);refine⟨rfl,o6,V,wv6,tv,sv6,_,by rw[<-HYP.out];exact hC6,hW6,fun k e=>?_,?_,fun _ _=>⟨hoo,x',hx1,hx2,hx3,fun k e=>⟨.inl (HAX.out.1 k (hx4 k e)),?_⟩,fun e=>HAX.out.2 (hx4 g e)⟩,fun h=>(by cases h),fun k e _=>HV0.out k e⟩
       ·have h1:=(HV1.out k e).2;exact⟨by rw[ho6 k (hsz5 k h1)];exact HV4.out k e,Qd (hsz5 k h1) hk6.size⟩
       ·refine((HKPW.out _ (HK14.out.thenN hk5))).trans hk6 (fun _ _ h=>h) (fun k h e=>?_);rw[HO4.out k (hsz k h),HO1.out k h]at e;omega
       ·have h1:=HA1.out.ox k (hx4 k e);have h2:=(HA1.out.nd.blocks k (hx4 k e)).2;rw[ho6 k (hsz5 k h2),HO4.out k h2];omega
      ·have hwb:(je==0)=false:=by rw[beq_eq_false_iff_ne];exact hwe
       have HG2:Hid (gathG s.pg n nab kid (restB kid nab (j+1)) (q.or (some (bt,J))) (C'.co z)=R):=by
        show _=_;rw[<-HG.out];conv=>rhs;unfold gathG
        rw[Hz.out,HE.out,if_pos HE0.out,if_pos HLF.out,HJJ.out,Hje.out,if_neg hwe]
       clear hwe HG;go_upto_region 14 with (first
        | (go_at_call 7;refine HWR.out.mono ?_;rintro e w5 ⟨rfl,hk5⟩)
        | fail)
       have v0:=HU.out w5 hk5 0 _ rfl;have v1:=HU.out w5 hk5 1 _ rfl;have v2:=HU.out w5 hk5 2 _ rfl;have v3:=HU.out w5 hk5 3 _ rfl;have v4:=HU.out w5 hk5 4 _ rfl;have v5:=HU.out w5 hk5 5 _ rfl;have v6:=HU.out w5 hk5 6 _ rfl
       obtain⟨gg,nn,cc,w6,hq,hgr6,hk6,hnn⟩:=Gre.app (HGR4.out.kept (o':=o4) hk5 (fun _ _ _ h=>h) (fun _ _=>rfl)) (Nat.le_trans HK14.out.size hk5.size) bt J y HYP.out HYK.out HYW.out (HY4.out.kept hk5 (fun _ _ _ h=>h) (fun _ _=>rfl)) (fun n gg cc e=>by have:=HGN.out n gg cc e;have:=HJ.out;omega);rw[Hrt.out]at hq;have HGR6:=hide hgr6;have HK6:=hide hk6;have HNN:=hide (hnn j HGN.out);clear hnn hgr6 hk6 u0 u3 u4 u5 u6';go_wp2_with (first
        | (at_builtin;refine Ak rfl (.tmp 66) (.tmp 68) 214 214 rfl _ _ rfl rfl hq ?_)
        | fail)
       go_roundw
       case rel =>
        rw[HCOK.out.1]at HG2;have hSS:C'.S=C.S:=by rw[<-HC'.out]
        have hC5:=HC4.out;rw[HCOK.out.1]at hC5;have hW4:=HW4.out;rw[hSS]at hW4;have hsz5:w1.heap.size<=w5.heap.size:=Nat.le_trans HK14.out.size hk5.size;have hold6:∀k,k<w5.heap.size->lab o4 w5.heap.size 8 k=o4 k:=fun k h=>Ad h;have hC6:=(hC5.kept (o':=o4) hk5 (fun _ _ _ h=>h) (fun _ _=>rfl)).kept (o':=lab o4 w5.heap.size 8) HK6.out (fun k _ e e'=>by omega) hold6;have hW6:=(hW4.keptN hk5).kept HK6.out (fun k _ e e'=>by have:=HV4.out k e;omega);have hkp:=HK14.out.thenN hk5
        refine⟨j+1,(C'.co z).k,_,lab o4 w5.heap.size 8,by have:=Hzb.out;have:=HLE.out;omega,EN Hzb.out HZW.out.1,hide (by have:=HKZ.out;have:=HCOK.out.2;omega),HG2,hide ⟨hC6,hW6,fun k h=>?_,?_,HGR6.out⟩,hide (fun n' gg' cc' e=>?_),hide (fun p hp=>?_)⟩
        ·rw[hold6 k (Qd h hsz5)];exact HO4.out k h
        ·refine hkp.trans HK6.out (fun _ _ h=>h) (fun k h e=>?_);have:=e.2;omega
        ·have e1:nn=n'+1:=by simp only[Value.slice.injEq]at e;exact e.2.1
         have:=HNN.out;omega
        ·cases q with
         | some p' =>
          have:p'=p:=by simpa using hp
          subst this;exact HGQ.out p' rfl
         | none =>
          have:(bt,J)=p:=by simpa using hp
          subst this;exact⟨HBT.out,HJS.out⟩
       case measure=>exact EM kid _ HZW.out.2 HLE.out HZW.out.1
     ·have HCE:Hid (Calls prog 155 #[.pointer (some ⟨b,0,none⟩),.agg #[.int .i64 s.pg,.bool s.l,.slice s.a1 s.n1 s.c1,.slice s.a2 s.n2 s.c2,.slice s.a3 s.n3 s.c3,.int .i64 s.kid,.int .i64 s.was],.pointer (some ⟨g,i*7,none⟩),.int .i64 (bt:Int)] wr fun e w'=>e=.returned (.tuple #[.agg #[.int .i64 0,.int .i64 0,.int .i64 0,.bool false,.slice none 0 0,.slice none 0 0,.slice none 0 0],.bool false,.int .i64 0])/\∃o',(∀k,k<wr.heap.size->o' k=oW k)/\Cm w' b r o' (C'.co z) wv tv sv xs/\Wk w' r V c mm C'.S/\Kp (only b) wr w'):=HCO.out.mono (fun e w' h=>by
       obtain⟨o',h1,h2,h3,h4,h5⟩:=h;unfold CoupV at h5;rw[Hz.out,HE.out,if_pos hE,if_neg hlf]at h5;rw[Hz.out]at h2;exact⟨h5,o',h1,h2,h3,h4⟩)
      have HG2:Hid (gathG s.pg n nab kid (restB kid nab (j+1)) q (C'.co z)=R):=by
       show _=_;rw[<-HG.out];conv=>rhs;unfold gathG
       rw[Hz.out,HE.out,if_pos hE,if_neg hlf]
      clear HCO HG hE hlf;go_wp2_with (first
       | (go_at_call 155;refine HCE.out.mono ?_;rintro e w3 ⟨rfl,o3,ho3,hC3,hW3,hk3⟩)
       | fail)
      go_roundw
      case rel =>
       have hka:Kp none' w3 (w3.alloc (.cells #[.int .i64 0,.int .i64 0,.int .i64 0,.bool false,.slice none 0 0,.slice none 0 0,.slice none 0 0] 216)):=Kp.alloc _ _ _;rw[HCOK.out.1]at hC3 HG2;have hSS:C'.S=C.S:=by rw[<-HC'.out]
       rw[hSS]at hW3;have hk13:=(HST.out.kp.then hk3).thenN hka;have hgr:=(HST.out.gr.kept hk3 (fun k _ e e'=>by unfold only at e';subst e';have:=HST.out.cm.ob;omega) ho3).kept (o':=lab o3 w3.heap.size 9) hka (fun _ _ _ h=>h) (fun k h=>Ad h)
       refine⟨j+1,(C'.co z).k,q,lab o3 w3.heap.size 9,by have:=Hzb.out;have:=HLE.out;omega,EN Hzb.out HZW.out.1,hide (by have:=HKZ.out;have:=HCOK.out.2;omega),HG2,hide ⟨hC3.kept hka (fun _ _ _ h=>h) (fun k h=>Ad h),hW3.keptN hka,fun k h=>?_,hk13,hgr⟩,hide (fun n gg cc e=>Nat.le_succ_of_le (HGN.out n gg cc e)),HGQ⟩;have h1:=Qd h HST.out.kp.size;rw[Ad (Qd h1 hk3.size),ho3 k h1,HST.out.old k h]
      case measure=>exact EM kid _ HZW.out.2 HLE.out HZW.out.1
    ·have hEb:(E != 0)=true:=by rw[bne_iff_ne];exact hE
     have HCE:Hid (Calls prog 155 #[.pointer (some ⟨b,0,none⟩),.agg #[.int .i64 s.pg,.bool s.l,.slice s.a1 s.n1 s.c1,.slice s.a2 s.n2 s.c2,.slice s.a3 s.n3 s.c3,.int .i64 s.kid,.int .i64 s.was],.pointer (some ⟨g,i*7,none⟩),.int .i64 (bt:Int)] wr fun e w'=>e=.returned (.tuple #[.agg #[.int .i64 0,.int .i64 0,.int .i64 0,.bool false,.slice none 0 0,.slice none 0 0,.slice none 0 0],.bool false,.int .i64 E])/\∃o',(∀k,k<wr.heap.size->o' k=oW k)/\Cm w' b r o' (C'.co z) wv tv sv xs/\Wk w' r V c mm C'.S/\Kp (only b) wr w'):=HCO.out.mono (fun e w' h=>by
      obtain⟨o',h1,h2,h3,h4,h5⟩:=h;unfold CoupV at h5;rw[Hz.out,HE.out,if_neg hE]at h5;rw[Hz.out]at h2;exact⟨h5,o',h1,h2,h3,h4⟩)
     have HRE:Hid (R=⟨C'.co z,nab,false,E⟩):=by
      show _=_;rw[<-HG.out,gathG,Hz.out,HE.out,if_neg hE]
     clear HCO HG hE;go_wp2_with (first
      | (go_at_call 155;refine HCE.out.mono ?_;rintro e w3 ⟨rfl,o3,ho3,hC3,hW3,hk3⟩)
      | fail)
     go_ret2;rw[HRE.out];have hka:Kp none' w3 (w3.alloc (.cells #[.int .i64 0,.int .i64 0,.int .i64 0,.bool false,.slice none 0 0,.slice none 0 0,.slice none 0 0] 216)):=Kp.alloc _ _ _;have hSS:(C'.co z).S=C'.S:=rfl
     refine⟨rfl,lab o3 w3.heap.size 9,V,wv,tv,sv,xs,hC3.kept hka (fun _ _ _ h=>h) (fun k h=>Ad h),hW3.keptN hka,fun k e=>?_,HKPW.out _ ((HST.out.kp.then hk3).thenN hka),fun h=>(by cases h),fun _=>Ao (Ao HAW.out.row hk3 (fun k e e'=>by have e1:g=k:=Option.some.inj e;unfold only at e';have h1:=HAW.out.og;have h2:=HST.out.cm.ob;rw[e1,e']at h1;omega)) hka (fun _ _ h=>h),fun k e _=>HV0.out k e⟩;have h1:=HVW.out k e
     exact⟨by rw[Ad (Qd h1.2 hk3.size),ho3 k h1.2];exact h1.1,Qd h1.2 (Nat.le_trans hk3.size hka.size)⟩
   ·have hrest:restB kid nab j=restB kid nab (j+1):=by
     have h1:=Hzb.out;have h2:=Hlk.out;have h3:=HKL.out;rcases Nat.eq_zero_or_pos j with e|e
     ·subst e;show bts kid nab=if kid<nab.ks.length then [kid] else []
      unfold bts;rw[if_neg (by omega),List.nil_append]
     ·have e1:j=1:=by omega
      subst e1;show (if kid<nab.ks.length then [kid] else [])=[];rw[if_neg (by omega)]
    rw[hrest]at HG;clear hrest hj hj2;by_cases h0:zb<0
    ·clear hval;go_wp2;go_roundw
     case rel=>exact⟨j+1,kz,q,oW,by have:=Hzb.out;have:=HLE.out;omega,EN Hzb.out HZW.out.1,hide (by have:=HKZ.out;omega),HG,HST,hide (fun n gg cc e=>Nat.le_succ_of_le (HGN.out n gg cc e)),HGQ⟩
     case measure=>exact EM kid zb HZW.out.2 HLE.out HZW.out.1
    ·have h1:(lk:Int)<=zb:=by omega
     clear hval;go_wp2;go_roundw
     case rel=>exact⟨j+1,kz,q,oW,by have:=Hzb.out;have:=HLE.out;omega,EN Hzb.out HZW.out.1,hide (by have:=HKZ.out;omega),HG,HST,hide (fun n gg cc e=>Nat.le_succ_of_le (HGN.out n gg cc e)),HGQ⟩
     case measure=>exact EM kid zb HZW.out.2 HLE.out HZW.out.1
set_option maxRecDepth 100000 in
theorem EH(b r c mm g m cap i rb base:Nat)(o:Nat->Nat)(V:Nat->Prop)(C:Cg)(wv tv sv:Value)(xs xa:List SpV)(s x:SpV)(n nab:Nd)(kid skid was:Nat)(w:World)(hC:Cm w b r o C wv tv sv xs)(hWk:Wk w r V c mm C.S)(hV:∀k,V k->o k=5/\k<w.heap.size)(hm:mm<=4000)(hk:C.k<=80000)(hl:C.ws.length<=80000)(hs:C.sp.length<=80000)(ht:C.tk.length<=80000)(hz:-9223372036854775808<=C.takeZ.1/\C.takeZ.1<9223372036854775808)
  (hN:Nv w.heap.size w s.node n) (hso:∀k,s.own k->k<w.heap.size/\(o k=0\/6<=o k)) (hwas:s.was=(was:Int)) (hA:AbM w o g m cap i rb base xa x nab) (hb:base<=w.heap.size) (hkid:x.kid=(kid:Int)) (hkl:kid<=nab.ks.length) (hks:nab.kd.length=nab.ks.length+1) (hn6:nab.kd.length<=1000) (hnl:nab.leaf=false) (hnz:nab.size<=100000) (hp:n.ps.length<=100000) (hkk:n.ks.length<=100000) (hd:n.kd.length<=100000) (hsz:n.size<=1000000) :
  Calls prog 94 #[.pointer (some ⟨b,0,none⟩),.agg #[.int .i64 s.pg,.bool s.l,.slice s.a1 s.n1 s.c1,.slice s.a2 s.n2 s.c2,.slice s.a3 s.n3 s.c3,.int .i64 s.kid,.int .i64 s.was],.pointer (some ⟨g,i*7,none⟩)] w fun e w'=>e=.returned (.tuple #[.bool (C.below ⟨s.pg,n,skid,was⟩ kid nab).go,.int .i64 (C.below ⟨s.pg,n,skid,was⟩ kid nab).e])/\BV b r c (mm+2) g m cap i rb base o (C.below ⟨s.pg,n,skid,was⟩ kid nab) xa x w w':=by
 have HWAS:=hide hwas;have HKID:=hide hkid;have HKS:=hide hks;have HKL:=hide hkl;have HN6:=hide hn6;have HNZ:=hide hnz;have HP:=hide hp;have HKK:=hide hkk;have HD:=hide hd;have HSZ:=hide hsz;have HK:=hide hk;have HL:=hide hl;have HS:=hide hs;have HT:=hide ht;have HM:=hide hm;have HZ:=hide hz;have HB:=hide hb;clear hwas hkid hks hkl hn6 hnz hp hkk hd hsz hk hl hs ht hm hz hb
 have hKA:Kp none' w (w.alloc (.cells #[.int .i64 s.pg,.bool s.l,.slice s.a1 s.n1 s.c1,.slice s.a2 s.n2 s.c2,.slice s.a3 s.n3 s.c3,.int .i64 s.kid,.int .i64 s.was] 85)):=Kp.alloc _ _ _;have cell:=Am w #[.int .i64 s.pg,.bool s.l,.slice s.a1 s.n1 s.c1,.slice s.a2 s.n2 s.c2,.slice s.a3 s.n3 s.c3,.int .i64 s.kid,.int .i64 s.was] 85;have q0:=cell 0 _ rfl
 have HQ:Hid (∀W,Kp none' (w.alloc (.cells #[.int .i64 s.pg,.bool s.l,.slice s.a1 s.n1 s.c1,.slice s.a2 s.n2 s.c2,.slice s.a3 s.n3 s.c3,.int .i64 s.kid,.int .i64 s.was] 85)) W->∀j u,(#[.int .i64 s.pg,.bool s.l,.slice s.a1 s.n1 s.c1,.slice s.a2 s.n2 s.c2,.slice s.a3 s.n3 s.c3,.int .i64 s.kid,.int .i64 s.was]:Array Value)[j]?=some u->W.cell? ⟨w.heap.size,j,none⟩=some u):=fun W hk j u h=>hk.cell (cell j u h) (fun h=>h);have hold:∀k,k<w.heap.size->lab o w.heap.size 9 k=o k:=fun k hk=>Ad hk
 have HC1:=hide (hC.kept (o':=lab o w.heap.size 9) hKA (fun _ _ _ h=>h) hold);have HW1:=hide (hWk.keptN hKA);have HV1:Hid (∀k,V k->lab o w.heap.size 9 k=5/\k<(w.alloc (.cells #[.int .i64 s.pg,.bool s.l,.slice s.a1 s.n1 s.c1,.slice s.a2 s.n2 s.c2,.slice s.a3 s.n3 s.c3,.int .i64 s.kid,.int .i64 s.was] 85)).heap.size):=fun k e=>⟨by rw[hold k (hV k e).2];exact(hV k e).1,Qd (hV k e).2 hKA.size⟩;have HA1:=hide (hA.kept (o':=lab o w.heap.size 9) hKA (fun _ _ _ h=>h) hold)
 have HN1:=hide (hN.keptO hKA (fun _ _ h=>h));have HSO:Hid (∀k,s.own k->k<w.heap.size/\(lab o w.heap.size 9 k=0\/6<=lab o w.heap.size 9 k)):=fun k e=>by rw[hold k (hso k e).1];exact hso k e
 have HOG:Hid (lab o w.heap.size 9 w.heap.size=9):=Ap (Nat.le_refl _);have HKA:=hide hKA;have HO1:=hide hold;have HGW:=hide (lt_of_cell q0);have HSI:=hide (Cj s.node n _ _ (hN.keptO hKA (fun _ _ h=>h)));rw[show wrap64 (n.size:Int)=(n.size:Int) by unfold wrap64;have:=HSZ.out;omega]at HSI
 have HWO:Hid (∀W,Kp none' (w.alloc (.cells #[.int .i64 s.pg,.bool s.l,.slice s.a1 s.n1 s.c1,.slice s.a2 s.n2 s.c2,.slice s.a3 s.n3 s.c3,.int .i64 s.kid,.int .i64 s.was] 85)) W->Calls prog 126 #[s.node] W fun e w'=>e=.returned (.bool n.without)/\Kp none' W w'):=fun W hk=>EE s.node n _ W ((hN.keptO hKA (fun _ _ h=>h)).keptO hk (fun _ _ h=>h));unfold SpV.node at HSI HWO;obtain⟨R,HR⟩:∃q,Hid (C.below ⟨s.pg,n,skid,was⟩ kid nab=q):=⟨_,hide rfl⟩;rw[HR.out]
 have HV0:Hid (∀k,V k->o k=5):=fun k e=>(hV k e).1;have HAX:Hid ((∀k,x.own k->o k=6)/\¬x.own g):=⟨hA.ox,hA.hg⟩;clear cell hC hN hWk hV hKA hold hso hA q0;go_enter func94,ntmps94;go_upto_region 1 with fail;generalize w.alloc (.cells #[.int .i64 s.pg,.bool s.l,.slice s.a1 s.n1 s.c1,.slice s.a2 s.n2 s.c2,.slice s.a3 s.n3 s.c3,.int .i64 s.kid,.int .i64 s.was] 85)=w1 at *;obtain⟨gb,Hgb⟩:∃q,Hid (w.heap.size=q):=⟨_,rfl⟩;obtain⟨o1,Ho1⟩:∃q,Hid (lab o w.heap.size 9=q):=⟨_,rfl⟩
 rw[Ho1.out]at HC1 HO1 HV1 HSO HOG HA1;rw[Hgb.out]at HOG HQ HSO |-;obtain⟨wo,Hwo⟩:∃q,Hid (n.without=q):=⟨_,hide rfl⟩;rw[Hwo.out]at HWO;obtain⟨nz,Hnz⟩:∃q,Hid (n.size=q):=⟨_,hide rfl⟩;rw[Hnz.out]at HSI;have q1:=HQ.out w1 (Kp.refl _ _) 1 _ rfl;have p2:w1.cell? ⟨gb,1+1,none⟩=some (.slice s.a1 s.n1 s.c1):=HQ.out w1 (Kp.refl _ _) 2 _ rfl;have p3:w1.cell? ⟨gb,1+2,none⟩=some (.slice s.a2 s.n2 s.c2):=HQ.out w1 (Kp.refl _ _) 3 _ rfl
 have p4:w1.cell? ⟨gb,1+3,none⟩=some (.slice s.a3 s.n3 s.c3):=HQ.out w1 (Kp.refl _ _) 4 _ rfl;go_upto_region 2 with (first
  | (go_at_call 27;refine HSI.out.mono ?_;rintro e w2 ⟨rfl,hk2⟩)
  | fail)
 replace q1:=hk2.cell q1 (fun h=>h);replace p2:=hk2.cell p2 (fun h=>h);replace p3:=hk2.cell p3 (fun h=>h);replace p4:=hk2.cell p4 (fun h=>h);have HWO2:=hide (HWO.out w2 hk2);have HK2:=hide hk2;clear hk2 HSI HWO;go_upto_if 12 with (first
  | (go_at_call 126;refine HWO2.out.mono ?_;rintro e w3 ⟨rfl,hk3⟩)
  | fail)
 have hk13:=HK2.out.thenN hk3;have q0:=HQ.out w3 hk13 0 _ rfl;replace q1:=HQ.out w3 hk13 1 _ rfl;have q2:=HQ.out w3 hk13 2 _ rfl;have q3:=HQ.out w3 hk13 3 _ rfl;have q4:=HQ.out w3 hk13 4 _ rfl;have q5:=HQ.out w3 hk13 5 _ rfl;have q6:=HQ.out w3 hk13 6 _ rfl;replace p2:w3.cell? ⟨gb,1+1,none⟩=some (.slice s.a1 s.n1 s.c1):=q2;replace p3:w3.cell? ⟨gb,1+2,none⟩=some (.slice s.a2 s.n2 s.c2):=q3;replace p4:w3.cell? ⟨gb,1+3,none⟩=some (.slice s.a3 s.n3 s.c3):=q4
 have HC3:=hide (HC1.out.kept (o':=o1) hk13 (fun _ _ _ h=>h) (fun _ _=>rfl));have HW3:=hide (HW1.out.keptN hk13);have HV3:Hid (∀k,V k->o1 k=5/\k<w3.heap.size):=fun k e=>⟨(HV1.out k e).1,Qd (HV1.out k e).2 hk13.size⟩;have HN3:=hide (HN1.out.keptO hk13 (fun _ _ h=>h));have HA3:=hide (HA1.out.kept (o':=o1) hk13 (fun _ _ _ h=>h) (fun _ _=>rfl));have HSG:Hid (¬s.own gb):=fun e=>by have:=(HSO.out gb e).1;omega
 have HSZ3:Hid (∀k,k<w.heap.size->k<w3.heap.size):=fun k h=>Qd (Nat.lt_trans h HGW.out) hk13.size;have HSO3:Hid (∀k,s.own k->k<w3.heap.size/\(o1 k=0\/6<=o1 k)):=fun k e=>⟨HSZ3.out k (by rw[Hgb.out];exact(HSO.out k e).1),(HSO.out k e).2⟩;have HK3:Hid (Kp (fun k=>1<=o k/\o k<=6) w w3):=(HKA.out.thenN hk13).mono (fun _ _ h=>by cases h);have HGL:Hid (g<w.heap.size\/True):=.inr trivial;clear HC1 HW1 HV1 HN1 HSO hk3 hk13 HKA HWO2 HK2 HA1;cases wo with
 | true =>
  have HRE:Hid (R=⟨{ C with sp:=C.sp++[s.pg] },nab.lose kid,true,0⟩):=by
   show _=_;rw[<-HR.out];unfold Cg.below;rw[if_pos Hwo.out]
  have dr:Kp none' w3 w3.drew:=Kp.drew _ _;have hCd:=HC3.out.kept (o':=o1) dr (fun _ _ _ h=>h) (fun _ _=>rfl);obtain⟨aq,nq,cq,a4,n4,c4,w4,esv,y4,hq,y4',f4,hC5,hk5⟩:=Cm.appSp s.pg hCd (by have:=HS.out;omega);have q0d:w3.drew.cell? ⟨gb,0,none⟩=some (.int .i64 s.pg):=q0;have q0a:∀oo,(w3.alloc oo).cell? ⟨gb,0,none⟩=some (.int .i64 s.pg):=fun oo=>(Kp.alloc none' w3 oo).cell q0 (fun h=>h);have y4n:w3.cell? ⟨b,4,none⟩=some (.slice aq nq cq):=y4
  have y4a:∀oo,(w3.alloc oo).cell? ⟨b,4,none⟩=some (.slice aq nq cq):=fun oo=>(Kp.alloc none' w3 oo).cell y4n (fun h=>h);have hA5:=(HA3.out.kept (o':=o1) dr (fun _ _ _ h=>h) (fun _ _=>rfl)).kept (o':=lab o1 w3.drew.heap.size 4) hk5 (fun k _ e e'=>by omega) (fun k h=>Ad h);have HA5:=hide hA5;have HC5:=hide hC5;have HW5:=hide ((HW3.out.keptN dr).kept hk5 (fun k _ e e'=>by have:=(HV3.out k e).1;omega))
  have HKK5:Hid (Kp (fun k=>1<=o k/\o k<=6) w (w4.setCell ⟨b,4,none⟩ (.slice a4 n4 c4))/\(∀k,k<w3.heap.size->lab o1 w3.drew.heap.size 4 k=o1 k)/\w3.heap.size<=(w4.setCell ⟨b,4,none⟩ (.slice a4 n4 c4)).heap.size):=⟨(HK3.out.thenN dr).trans hk5 (fun _ _ h=>h) (fun k e e'=>by rw[HO1.out k e]at e';omega),fun k h=>Ad h,hk5.size⟩;obtain⟨o5,Ho5⟩:∃q,Hid (lab o1 w3.drew.heap.size 4=q):=⟨_,hide rfl⟩;rw[Ho5.out]at HA5 HC5 HKK5;clear hCd hC5 hk5 esv y4 dr q1 q2 q3 q4 q5 q6 p2 p3 p4 hA5
  go_upto_region 3 with fail;go_region_law (first
   | (refine A9 (by rfl) (.tmp 20) (.tmp 23) 33 33 (by rfl) _ _ (by rfl) (by rfl) hq ?_)
   | fail)
  all_goals (
   generalize w4.setCell ⟨b,4,none⟩ (.slice a4 n4 c4)=w5 at *;have kI:w5.cell? ⟨g,i*7+5,none⟩=some (.int .i64 (kid:Int)):=(row_step HA5.out.row i HA5.out.hi 5 _ (by rw[HA5.out.hx,<-HKID.out];rfl)).1;have HLS:=hide (IJ g cap m i rb base xa x nab kid w5 HA5.out.row HA5.out.hi HA5.out.hx HA5.out.nd HA5.out.hg HA5.out.hp (by have:=HKL.out;have:=HKS.out;omega) HKS.out (by have:=HN6.out;omega));clear hq y4n y4a q0d q0a q0 y4' f4;go_wp2_with (first
    | (go_at_call 127;refine HLS.out.mono ?_;rintro e w6 ⟨rfl,x',hrow',hN',hf',ho',hk6⟩)
    | fail)
   go_ret2;rw[HRE.out];have hlab:∀k,(k=g\/x.own k)->o5 k=6:=fun k e=>by rcases e with e|e;(rw[e];exact HA5.out.og);exact HA5.out.ox k e
   have hoo:∀k,k<w.heap.size->o5 k=o k:=fun k h=>by rw[HKK5.out.2.1 k (HSZ3.out k h),HO1.out k h]
   have hV5:∀k,V k->o5 k=5/\k<w5.heap.size:=fun k e=>⟨by rw[HKK5.out.2.1 k (HV3.out k e).2];exact(HV3.out k e).1,Qd (HV3.out k e).2 HKK5.out.2.2⟩
   refine⟨rfl,o5,V,wv,tv,_,xs,HC5.out.kept hk6 (fun k _ h1 h2=>by have:=hlab k h2;omega) (fun _ _=>rfl),(HW5.out.kept hk6 (fun k _ e e'=>by have:=(hV5 k e).1;have:=hlab k e';omega)).mono (fun _ _ h=>h) (by omega),fun k e=>⟨(hV5 k e).1,Qd (hV5 k e).2 hk6.size⟩,HKK5.out.1.trans hk6 (fun _ _ h=>h) (fun k h e=>by have:=hlab k e;rw[hoo k h]at this;omega),fun _ _=>⟨hoo,x',hrow',hN',hf',fun k e=>⟨.inl (HAX.out.1 k (ho' k e)),by rw[hlab k (.inr (ho' k e))];omega⟩,fun e=>HAX.out.2 (ho' g e)⟩,fun h=>(by cases h),fun k e _=>HV0.out k e⟩)
 | false =>
  have hwf:¬(n.without=true):=by rw[Hwo.out];simp
  by_cases h2:256<nz
  ·have HRE:Hid (R=⟨C.split s.pg n,C.splitAb kid n nab,true,C.takeZ.2⟩):=by
    show _=_;rw[<-HR.out];unfold Cg.below;rw[if_neg hwf,Hnz.out,if_pos h2]
   have hg2:(256:Int)<(nz:Int):=by omega
   obtain⟨hS,t2,t3⟩:=HA3.out.toS (fun e=>by have:=HKS.out;rw[e]at this;simp at this)
   have HSP:=hide (E5 b r c mm g m cap i rb base o1 V C wv tv sv xs xa s x n nab kid w3 HC3.out HW3.out HV3.out (by have:=HM.out;omega) (by have:=HT.out;omega) (by have:=HS.out;omega) (by have:=HL.out;omega) HN3.out HSO3.out hS (Nat.le_trans HB.out (Nat.le_of_lt_succ (Nat.lt_succ_of_le (HK3.out.size)))) HKID.out HKL.out (by have:=HKL.out;have:=HKS.out;omega) (fun _=>t2) (fun _=>t3) (by have:=HKS.out;have:=HN6.out;omega) (by have:=HN6.out;omega) HZ.out (by have:=HP.out;omega) (by have:=HKK.out;omega) (by have:=HD.out;omega) (by have:=HSZ.out;omega))
   obtain⟨te,Hte⟩:∃q,Hid (C.takeZ.2=q):=⟨_,hide rfl⟩;rw[Hte.out]at HSP HRE;clear hwf h2 hS t2 t3;go_wp2_with (first
    | (go_at_call 128;refine HSP.out.mono ?_;rintro e w4 ⟨rfl,o4,V4,wv4,tv4,sv4,xs4,x',hSt,hf⟩)
    | fail)
   go_ret2;rw[HRE.out];have hoo:∀k,k<w.heap.size->o4 k=o k:=fun k h=>by rw[hSt.old k (HSZ3.out k h),HO1.out k h]
   refine⟨rfl,o4,V4,wv4,tv4,sv4,xs4,hSt.cm,hSt.wk,hSt.hv,HK3.out.trans hSt.kp (fun _ _ h=>h) (fun k h e=>by rw[HO1.out k h]at e;exact e),fun _ _=>⟨hoo,x',hSt.ab.row,hSt.ab.nd,hf,fun k e=>⟨?_,by rw[hSt.ab.ox k e];omega⟩,hSt.ab.hg⟩,fun h=>(by cases h),fun k e h=>by rw[<-hoo k h];exact(hSt.hv k e).1⟩;rcases Nat.lt_or_ge k w.heap.size with h|h
   ·left;rw[<-hoo k h];exact hSt.ab.ox k e
   ·exact .inr h
  ·have hg2:¬(256:Int)<(nz:Int):=by omega
   by_cases h3:nz<128/\nz<was
   ·have HRE:Hid (R=C.gather s.pg n kid nab):=by
     show _=_;rw[<-HR.out];unfold Cg.below;rw[if_neg hwf,Hnz.out,if_neg h2,if_pos h3]
    have hg3:(nz:Int)<128:=by omega
    have hg4:(nz:Int)<s.was:=by have:=HWAS.out;omega
    have HGA:=hide (JU b r c mm g m cap i rb base o1 V C wv tv sv xs xa s x n nab kid w3 HC3.out HW3.out HV3.out HK.out HL.out HS.out HN3.out HSO3.out HA3.out HKID.out HKL.out HKS.out HN6.out hnl HNZ.out HP.out HKK.out HD.out HSZ.out);obtain⟨G,HG⟩:∃q,Hid (C.gather s.pg n kid nab=q):=⟨_,hide rfl⟩;rw[HG.out]at HGA HRE;obtain⟨Gg,HGg⟩:∃q,Hid (G.go=q):=⟨_,hide rfl⟩;obtain⟨Ge,HGe⟩:∃q,Hid (G.e=q):=⟨_,hide rfl⟩;rw[HGg.out,HGe.out]at HGA;clear hwf h2 h3;go_wp2_with (first
     | (go_at_call 129;refine HGA.out.mono ?_;rintro e w4 ⟨rfl,o4,V4,wv4,tv4,sv4,xs4,hC4,hW4,hV4,hk4,hx4,hr4,hvo4⟩)
     | fail)
    go_ret2;rw[HRE.out,HGg.out,HGe.out];have hSG:G.C.S=G.C.S:=rfl;refine⟨rfl,o4,V4,wv4,tv4,sv4,xs4,hC4,hW4.mono (fun _ _ h=>h) (by omega),hV4,HK3.out.trans hk4 (fun _ _ h=>h) (fun k h e=>by rw[HO1.out k h]at e;exact e),fun e1 e2=>?_,hr4,fun k e h=>by rw[<-HO1.out k h];exact hvo4 k e (HSZ3.out k h)⟩;obtain⟨h5,x',h6,h7,h8,h9,h10⟩:=hx4 e1 e2;refine⟨fun k h=>by rw[h5 k (HSZ3.out k h),HO1.out k h],x',h6,h7,h8,fun k e=>⟨?_,(h9 k e).2⟩,h10⟩;rcases Nat.lt_or_ge k w.heap.size with h|h
    ·left;rcases (h9 k e).1 with e'|e'
     ·rw[<-HO1.out k h];exact e'
     ·have:=HSZ3.out k h;omega
    ·exact .inr h
   ·have HRE:Hid (R=⟨C.write s.pg n,nab,false,0⟩):=by
     show _=_;rw[<-HR.out];unfold Cg.below;rw[if_neg hwf,Hnz.out,if_neg h2,if_neg h3]
    have hex:∃o6:Nat->Nat,(∀k,s.own k->o6 k=0)/\(∀k,¬s.own k->o6 k=o1 k):=by
     classical
     exact⟨fun k=>if s.own k then 0 else o1 k,fun k h=>if_pos h,fun k h=>if_neg h⟩
    obtain⟨o6,h60,h61⟩:=hex;have h65:∀k,o1 k<=5->o6 k=o1 k:=fun k h=>by
     by_cases e:s.own k
     ·rw[h60 k e];have:=(HSO3.out k e).2;omega
     ·exact h61 k e
    have HWRT:=hide (A0 b r o6 C wv tv sv xs ⟨s.pg,s.l,s.a1,s.n1,s.c1,s.a2,s.n2,s.c2,s.a3,s.n3,s.c3,0,0⟩ n w3 (HC3.out.relabel (fun k h=>h65 k (by omega))) ⟨rfl,HN3.out,fun k e=>⟨(HSO3.out k e).1,h60 k e⟩⟩ rfl rfl (by have:=HL.out;omega));have HWEND:Hid (∀xs' w7 wv7 o7,Cm w7 b r o7 (C.write s.pg n) wv7 tv sv xs'->Kp (fun k=>o6 k=1\/o6 k=2) w3 w7->(∀k,k<w3.heap.size->o7 k=o6 k)->BV b r c (mm+2) g m cap i rb base o ⟨C.write s.pg n,nab,false,0⟩ xa x w w7):=by
     intro xs' w7 wv7 o7 hC7 hk7 ho7;have hV6:∀k,V k->o6 k=5:=fun k e=>by rw[h65 k (by have:=(HV3.out k e).1;omega)];exact(HV3.out k e).1
     refine⟨o7,V,wv7,tv,sv,xs',hC7,(HW3.out.kept hk7 (fun k _ e e'=>by have:=hV6 k e;omega)).mono (fun _ _ h=>h) (by omega),fun k e=>⟨by rw[ho7 k (HV3.out k e).2];exact hV6 k e,Qd (HV3.out k e).2 hk7.size⟩,?_,fun h=>(by cases h),fun _=>Ao HA3.out.row hk7 (fun k e e'=>by have e1:g=k:=Option.some.inj e;subst e1;by_cases hg:s.own g;(have:=h60 g hg;omega);(have h1:=h61 g hg;have h2:=HA3.out.og;omega)),fun k e _=>HV0.out k e⟩
     refine HK3.out.trans hk7 (fun _ _ h=>h) (fun k h e=>?_);have hn:¬s.own k:=fun e'=>by have:=h60 k e';omega
     rw[h61 k hn,HO1.out k h]at e;omega
    clear h60 h61 h65 hwf h2;by_cases h4:nz<128
    ·have hg3:(nz:Int)<128:=by omega
     have hg4:¬(nz:Int)<s.was:=by have:=HWAS.out;omega
     clear h3 h4;go_wp2_with (first
      | (go_at_call 130;refine HWRT.out.mono ?_;rintro e w7 ⟨rfl,o7,wv7,ho7,hC7,hk7⟩)
      | fail)
     go_ret2;rw[HRE.out];exact⟨rfl,HWEND.out _ w7 wv7 o7 hC7 hk7 ho7⟩
    ·have hg3:¬(nz:Int)<128:=by omega
     clear h3 h4;go_wp2_with (first
      | (go_at_call 130;refine HWRT.out.mono ?_;rintro e w7 ⟨rfl,o7,wv7,ho7,hC7,hk7⟩)
      | fail)
     go_ret2;rw[HRE.out];exact⟨rfl,HWEND.out _ w7 wv7 o7 hC7 hk7 ho7⟩
end Go.Proofs.YtgcgacjhkhjhmaaGreatDoor
