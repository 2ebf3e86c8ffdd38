/- Part of the proof: contracts over the turned program. -/
import Derived.Test.YtgcgacjhkhjhmaaGreatDoorX26
set_option linter.unusedVariables false
set_option maxHeartbeats 4000000
open Go.Proofs.Tryz
namespace Go.Proofs.YtgcgacjhkhjhmaaGreatDoor
open Go Go.RowKit
theorem Cm.appTk{W:World}{b r:Nat}{o:Nat->Nat}{C:Cg}{wv tv sv:Value}{xs:List SpV}(z:Int)(h:Cm W b r o C wv tv sv xs)(hl:C.tk.length<=1000000):∃aq nq cq a4 n4 c4 w4,tv=.slice aq nq cq/\W.cell? ⟨b,3,none⟩=some (.slice aq nq cq) /\
  (Builtin.append_ #[33,33] 33 #[.slice aq nq cq,.slice (some ⟨W.heap.size,0,none⟩) 1 1]).run prog (W.alloc (.cells #[.int .i64 z] 3))=.ok (.slice a4 n4 c4) w4 /\
  w4.cell? ⟨b,3,none⟩=some (.slice aq nq cq)/\w4.frozen? ⟨b,3,none⟩=false/\Cm (w4.setCell ⟨b,3,none⟩ (.slice a4 n4 c4)) b r (lab o W.heap.size 3) { C with tk:=C.tk++[z] } wv (.slice a4 n4 c4) sv xs/\Kp (fun k=>o k=1\/o k=3) W (w4.setCell ⟨b,3,none⟩ (.slice a4 n4 c4)):=by
 obtain⟨aq,cq,e,_⟩:=h.tk.open;have hO:=h.tk;rw[e]at hO;have hKA:Kp none' W (W.alloc (.cells #[.int .i64 z] 3)):=Kp.alloc _ _ _;have hbl:=h.hd.lt;obtain⟨v3,w3,hq3,hO3,hg3,hv3⟩:=appI (W.alloc (.cells #[.int .i64 z] 3)) 0 (.slice aq C.tk.length cq) (.slice (some ⟨W.heap.size,0,none⟩) 1 1) C.tk [z] (hO.keptN hKA) (src1 W 33 3 underlying33 _ rfl _ rfl) (Nat.zero_le _) (by simp;omega)
 have hob:∀k,(Value.slice aq C.tk.length cq).ownBlock=some k->o k=3/\k<W.heap.size:=fun k hk=>⟨h.to' k (by rw[e];exact hk),(hO.lt k hk).2⟩;have hk3:Kp (fun k=>(Value.slice aq C.tk.length cq).ownBlock=some k) W w3:=hKA.nThen (Kp.ofGrown hg3 (fun k hk _=>hk));have h3:W.heap.size<(W.alloc (.cells #[.int .i64 z] 3)).heap.size:=by simp
 have hnew:∀k,v3.ownBlock=some k->lab o W.heap.size 3 k=3/\k≠b:=by
  intro k hk;rcases hv3 with e'|e'
  ·rw[e']at hk;have:=hob k hk;exact⟨by rw[Ad this.2];exact this.1,fun e1=>by have:=h.ob;rw[<-e1]at this;omega⟩
  ·rw[e']at hk;have h2:=Option.some.inj hk;exact⟨Ap (by omega),by omega⟩
 have hold:∀k,k<W.heap.size->lab o W.heap.size 3 k=o k:=fun k hk=>Ad hk;obtain⟨a4,c4,e4⟩:∃a c,v3=.slice a (C.tk++[z]).length c:=by obtain⟨a,c,h1,_⟩:=hO3.open;exact⟨a,c,h1⟩
 subst e4;have hW3:=h.hd.kept hk3 (fun e'=>by have:=(hob b e').1;have:=h.ob;omega);have hst:Kp (only b) w3 (w3.setCell ⟨b,3,none⟩ (.slice a4 (C.tk++[z]).length c4)):=Kp.setCell _ _ _ _ rfl;have hW4:=hW3.setX 1 (.slice a4 (C.tk++[z]).length c4);have d3:W.cell? ⟨b,3,none⟩=_:=h.hd.cx 1;have d3':w3.cell? ⟨b,3,none⟩=_:=hW3.cx 1
 have hK:Kp (fun k=>o k=1\/o k=3) W (w3.setCell ⟨b,3,none⟩ (.slice a4 (C.tk++[z]).length c4)):=(hk3.mono (fun k _ e'=>.inr (hob k e').1)).trans hst (fun _ _ h=>h) (fun k _ e'=>.inl (by unfold only at e';rw[e'];exact h.ob));have far:∀k,k<W.heap.size->o k≠1->o k≠3->¬(o k=1\/o k=3):=fun k _ h1 h2 e'=>by rcases e' with e'|e';exact h1 e';exact h2 e'
 rw[e]at d3 d3';refine⟨aq,C.tk.length,cq,a4,_,c4,w3,e,d3,hq3,d3',hW3.fz 3,?_,hK⟩
 refine⟨hW4,by rw[hold b hbl];exact h.ob,Ao h.ws hK (fun k e'=>far k (World.ownsRow.lt h.ws k e').2 (by rw[h.wo k e'];omega) (by rw[h.wo k e'];omega)),fun k e'=>by rw[hold k (World.ownsRow.lt h.ws k e').2];exact h.wo k e',h.wl,fun i a c=>(h.wi i a c).kept hK (fun k hk' e'=>far k hk' (by omega) (by omega)) hold,hO3.kept hst (fun k hk e'=>by unfold only at e';exact(hnew k hk).2 e'),fun k hk=>(hnew k hk).1,h.sp.kept hK (fun k e'=>far k (h.sp.lt k e').2 (by rw[h.so k e'];omega) (by rw[h.so k e'];omega)),fun k e'=>by rw[hold k (h.sp.lt k e').2];exact h.so k e'⟩
theorem Cm.appSp{W:World}{b r:Nat}{o:Nat->Nat}{C:Cg}{wv tv sv:Value}{xs:List SpV}(z:Int)(h:Cm W b r o C wv tv sv xs)(hl:C.sp.length<=1000000):∃aq nq cq a4 n4 c4 w4,sv=.slice aq nq cq/\W.cell? ⟨b,4,none⟩=some (.slice aq nq cq) /\
  (Builtin.append_ #[33,33] 33 #[.slice aq nq cq,.slice (some ⟨W.heap.size,0,none⟩) 1 1]).run prog (W.alloc (.cells #[.int .i64 z] 3))=.ok (.slice a4 n4 c4) w4 /\
  w4.cell? ⟨b,4,none⟩=some (.slice aq nq cq)/\w4.frozen? ⟨b,4,none⟩=false/\Cm (w4.setCell ⟨b,4,none⟩ (.slice a4 n4 c4)) b r (lab o W.heap.size 4) { C with sp:=C.sp++[z] } wv tv (.slice a4 n4 c4) xs/\Kp (fun k=>o k=1\/o k=4) W (w4.setCell ⟨b,4,none⟩ (.slice a4 n4 c4)):=by
 obtain⟨aq,cq,e,_⟩:=h.sp.open;have hO:=h.sp;rw[e]at hO;have hKA:Kp none' W (W.alloc (.cells #[.int .i64 z] 3)):=Kp.alloc _ _ _;have hbl:=h.hd.lt;obtain⟨v3,w3,hq3,hO3,hg3,hv3⟩:=appI (W.alloc (.cells #[.int .i64 z] 3)) 0 (.slice aq C.sp.length cq) (.slice (some ⟨W.heap.size,0,none⟩) 1 1) C.sp [z] (hO.keptN hKA) (src1 W 33 3 underlying33 _ rfl _ rfl) (Nat.zero_le _) (by simp;omega)
 have hob:∀k,(Value.slice aq C.sp.length cq).ownBlock=some k->o k=4/\k<W.heap.size:=fun k hk=>⟨h.so k (by rw[e];exact hk),(hO.lt k hk).2⟩;have hk3:Kp (fun k=>(Value.slice aq C.sp.length cq).ownBlock=some k) W w3:=hKA.nThen (Kp.ofGrown hg3 (fun k hk _=>hk));have h3:W.heap.size<(W.alloc (.cells #[.int .i64 z] 3)).heap.size:=by simp
 have hnew:∀k,v3.ownBlock=some k->lab o W.heap.size 4 k=4/\k≠b:=by
  intro k hk;rcases hv3 with e'|e'
  ·rw[e']at hk;have:=hob k hk;exact⟨by rw[Ad this.2];exact this.1,fun e1=>by have:=h.ob;rw[<-e1]at this;omega⟩
  ·rw[e']at hk;have h2:=Option.some.inj hk;exact⟨Ap (by omega),by omega⟩
 have hold:∀k,k<W.heap.size->lab o W.heap.size 4 k=o k:=fun k hk=>Ad hk;obtain⟨a4,c4,e4⟩:∃a c,v3=.slice a (C.sp++[z]).length c:=by obtain⟨a,c,h1,_⟩:=hO3.open;exact⟨a,c,h1⟩
 subst e4;have hW3:=h.hd.kept hk3 (fun e'=>by have:=(hob b e').1;have:=h.ob;omega);have hst:Kp (only b) w3 (w3.setCell ⟨b,4,none⟩ (.slice a4 (C.sp++[z]).length c4)):=Kp.setCell _ _ _ _ rfl;have hW4:=hW3.setX 2 (.slice a4 (C.sp++[z]).length c4);have d3:W.cell? ⟨b,4,none⟩=_:=h.hd.cx 2;have d3':w3.cell? ⟨b,4,none⟩=_:=hW3.cx 2
 have hK:Kp (fun k=>o k=1\/o k=4) W (w3.setCell ⟨b,4,none⟩ (.slice a4 (C.sp++[z]).length c4)):=(hk3.mono (fun k _ e'=>.inr (hob k e').1)).trans hst (fun _ _ h=>h) (fun k _ e'=>.inl (by unfold only at e';rw[e'];exact h.ob));have far:∀k,k<W.heap.size->o k≠1->o k≠4->¬(o k=1\/o k=4):=fun k _ h1 h2 e'=>by rcases e' with e'|e';exact h1 e';exact h2 e'
 rw[e]at d3 d3';refine⟨aq,C.sp.length,cq,a4,_,c4,w3,e,d3,hq3,d3',hW3.fz 4,?_,hK⟩
 refine⟨hW4,by rw[hold b hbl];exact h.ob,Ao h.ws hK (fun k e'=>far k (World.ownsRow.lt h.ws k e').2 (by rw[h.wo k e'];omega) (by rw[h.wo k e'];omega)),fun k e'=>by rw[hold k (World.ownsRow.lt h.ws k e').2];exact h.wo k e',h.wl,fun i a c=>(h.wi i a c).kept hK (fun k hk' e'=>far k hk' (by omega) (by omega)) hold,h.tk.kept hK (fun k e'=>far k (h.tk.lt k e').2 (by rw[h.to' k e'];omega) (by rw[h.to' k e'];omega)),fun k e'=>by rw[hold k (h.tk.lt k e').2];exact h.to' k e',hO3.kept hst (fun k hk e'=>by unfold only at e';exact(hnew k hk).2 e'),fun k hk=>(hnew k hk).1⟩
def EW(b r c m:Nat)(o:Nat->Nat)(C':Cg)(wv:Value)(xs:List SpV)(w w':World):Prop:=∃(o':Nat->Nat) (V':Nat->Prop) (tv' sv':Value),(∀k,k<w.heap.size->o' k=o k)/\Cm w' b r o' C' wv tv' sv' xs/\Wk w' r V' c (m+2) C'.S/\(∀k,V' k->o' k=5/\k<w'.heap.size)/\Kp (fun k=>o k=1\/o k=3\/o k=4\/o k=5) w w'
set_option maxRecDepth 100000 in
theorem Ed(b r c m:Nat)(o:Nat->Nat)(V:Nat->Prop)(C:Cg)(wv tv sv:Value)(xs:List SpV)(w:World)(hC:Cm w b r o C wv tv sv xs)(hWk:Wk w r V c m C.S)(hV:∀k,V k->o k=5/\k<w.heap.size)(hm:m<=5000)(ht:C.tk.length<=100000)(hs:C.sp.length<=100000) :
  Calls prog 62 #[.pointer (some ⟨b,0,none⟩)] w fun e w'=>e=.returned (.tuple #[.int .i64 C.takeZ.1,.int .i64 C.takeZ.2])/\EW b r c m o C.take wv xs w w':=by
 obtain⟨sa,sc,hsv,hcells⟩:=hC.sp.open;subst hsv;have q4:w.cell? ⟨b,4,none⟩=some (.slice sa C.sp.length sc):=hC.hd.cx 2;have q0:=hC.hd.c0;obtain⟨ls,Hls⟩:∃q,Hid (C.sp.length=q):=⟨_,rfl⟩;by_cases h0:C.sp.length=0
 ·have e1:C.takeZ=C.S.takeE:=by unfold Cg.takeZ;rw[if_pos h0]
  have e2:C.take={ C with S:=C.S.take (fillB 0),tk:=if C.S.takeE.2=0 then C.tk++[C.S.takeE.1] else C.tk }:=by unfold Cg.take;rw[if_pos h0]
  have hT:=GC r V c m C.S w hWk hm;rw[h0]at q4;rw[e1,e2];obtain⟨te,hte⟩:∃q,C.S.takeE=q:=⟨_,rfl⟩;rw[hte]at hT |-;obtain⟨pg,er⟩:=te;dsimp only at hT |-;have HC:=hide hC;have HV:=hide hV
  have HK5:Hid (∀W:World,Kp V w W->Wk W r (fun k=>V k\/w.heap.size<=k) c (m+2) (C.S.take (fillB 0))->Cm W b r (lab o w.heap.size 5) { C with S:=C.S.take (fillB 0) } wv tv (.slice sa C.sp.length sc) xs/\Wk W r (fun k=>(V k\/w.heap.size<=k)/\k<W.heap.size) c (m+2) (C.S.take (fillB 0))/\(∀k,(V k\/w.heap.size<=k)/\k<W.heap.size->lab o w.heap.size 5 k=5)/\Kp (fun k=>o k=1\/o k=3\/o k=4\/o k=5) w W):=by
   intro W hk hwk;refine⟨?_,hwk.mono (fun k hk e=>⟨e,hk⟩) (Nat.le_refl _),fun k e=>?_,hk.mono (fun k _ e=>.inr (.inr (.inr (HV.out k e).1)))⟩
   ·have:=HC.out.kept (o':=lab o w.heap.size 5) hk (fun k _ h1 h2=>by have:=(HV.out k h2).1;omega) (fun k hk=>Ad hk);exact⟨this.hd,this.ob,this.ws,this.wo,this.wl,this.wi,this.tk,this.to',this.sp,this.so⟩
   ·rcases e.1 with e1|e1
    ·rw[Ad (HV.out k e1).2];exact(HV.out k e1).1
    ·exact Ap e1
  obtain⟨C',HC'⟩:∃q:Cg,Hid (({ C with S:=C.S.take (fillB 0),tk:=if er=0 then C.tk++[pg] else C.tk }:Cg)=q):=⟨_,rfl⟩;rw[HC'.out];clear e1 e2 h0 hcells Hls hte hC hV hWk;go_enter func62,ntmps62;go_upto_region 7 with (first
   | (go_at_call 6;refine hT.mono ?_;rintro e w1 ⟨rfl,hWk1,hk1⟩)
   | fail)
  obtain⟨hC1,hWk2,hV1,hKp1⟩:=HK5.out w1 hk1 hWk1;by_cases her:er=0
  ·subst her;rw[if_pos rfl]at HC';obtain⟨aq,nq,cq,a4,n4,c4,w4,etv,y3,hq,y3',f3,hC4,hk4⟩:=Cm.appTk pg hC1 (by show C.tk.length<=_;omega);have HEND:Hid (EW b r c m o C' wv xs w (w4.setCell ⟨b,3,none⟩ (.slice a4 n4 c4))):=by
    rw[<-HC'.out];refine⟨_,_,_,_,fun k hk=>?_,hC4,hWk2.kept hk4 (fun k hk e=>?_),fun k e=>?_,hKp1.trans hk4 (fun _ _ h=>h) (fun k hk e=>?_)⟩
    ·rw[Ad (Qd hk hk1.size),Ad hk]
    ·have:=hV1 k e;omega
    ·exact⟨by rw[Ad e.2];exact hV1 k e,Qd e.2 hk4.size⟩
    ·rw[Ad hk]at e;rcases e with e|e;exact .inl e;exact .inr (.inl e)
   clear hC4 hk4 hC1 hWk2 hV1 hKp1 hk1 hWk1 HK5 HC' etv;go_wp2_with (first
    | (at_builtin;refine Ak rfl (.tmp 48) (.tmp 50) 33 33 rfl _ _ rfl rfl hq ?_)
    | fail)
   go_ret2;exact⟨rfl,HEND.out⟩
  ·have herb:(er==0)=false:=by simp[her]
   rw[if_neg her]at HC';clear her;go_wp2;go_ret2;rw[<-HC'.out];exact⟨rfl,_,_,_,_,fun k hk=>Ad hk,hC1,hWk2,fun k e=>⟨hV1 k e,e.2⟩,hKp1⟩
 ·have e1:C.takeZ=(C.sp.getD (C.sp.length - 1) 0,0):=by unfold Cg.takeZ;rw[if_neg h0]
  have e2:C.take={ C with sp:=C.sp.take (C.sp.length - 1) }:=by unfold Cg.take;rw[if_neg h0]
  obtain⟨l1,Hl1⟩:∃q,Hid (C.sp.length=q+1):=⟨C.sp.length - 1,hide (by omega)⟩;have hl1:l1<C.sp.length:=by have:=Hl1.out;omega
  obtain⟨gs,rfl,_,hcs⟩:=hcells l1 hl1;have eg:C.sp.getD (C.sp.length - 1) 0=C.sp[l1]:=by rw[List.getD_eq_getElem?_getD,show C.sp.length - 1=l1 by have:=Hl1.out;omega,List.getElem?_eq_getElem hl1];rfl
  rw[e1,e2,eg,show C.sp.length - 1=l1 by have:=Hl1.out;omega];have hcap:C.sp.length<=sc:=by
   rcases hC.sp.2 with ⟨h1,_⟩|⟨g',cap,cur,h1,_,_,h2,_⟩
   ·cases h1
   ·cases h1;exact h2
  have hsh:=hC.sp.shrink l1 (by omega) (by omega);have hgs:gs≠b:=fun e=>by have h1:=hC.so gs rfl;have h2:=hC.ob;rw[<-e]at h2;omega
  have HEND:Hid (EW b r c m o { C with sp:=C.sp.take l1 } wv xs w (w.setCell ⟨b,4,none⟩ (.slice (some ⟨gs,0,none⟩) l1 sc))):=by
   have hst:Kp (only b) w (w.setCell ⟨b,4,none⟩ (.slice (some ⟨gs,0,none⟩) l1 sc)):=Kp.setCell _ _ _ _ rfl;have hW4:=hC.hd.setX 2 (.slice (some ⟨gs,0,none⟩) l1 sc);have nb:∀k,o k≠1->¬only b k:=fun k h e=>by unfold only at e;rw[e]at h;exact h hC.ob
   refine⟨o,V,tv,.slice (some ⟨gs,0,none⟩) l1 sc,fun _ _=>rfl,⟨hW4,hC.ob,Ao hC.ws hst (fun k e=>nb k (by rw[hC.wo k e];omega)),hC.wo,hC.wl,fun i a c=>(hC.wi i a c).kept hst (fun k _ e=>nb k (by omega)) (fun _ _=>rfl),hC.tk.kept hst (fun k e=>nb k (by rw[hC.to' k e];omega)),hC.to',hsh.kept hst (fun k e=>nb k (by have:=hC.so k e;omega)),fun k e=>hC.so k e⟩,(hWk.kept hst (fun k _ e=>nb k (by have:=(hV k e).1;omega))).mono (fun _ _ h=>h) (by omega),fun k e=>⟨(hV k e).1,Qd (hV k e).2 hst.size⟩,hst.mono (fun k _ e=>.inl (by unfold only at e;rw[e];exact hC.ob))⟩
  obtain⟨C',HC'⟩:∃q:Cg,Hid (({ C with sp:=C.sp.take l1 }:Cg)=q):=⟨_,rfl⟩;rw[HC'.out]at HEND |-;have f4:=hC.hd.fz 4;have hlw:(ls:Int) - 1=(l1:Int):=by have:=Hls.out;have:=Hl1.out;omega
  have hl2:(l1:Int)<(ls:Int):=by omega
  have hl3:l1<ls:=by omega
  have hl4:(l1:Int)<=(sc:Int):=by have:=Hls.out;omega
  have hl5:l1<=sc:=by omega
  have hlb:ls<=100000:=by rw[<-Hls.out];exact hs
  rw[Hls.out]at q4;generalize C.sp[l1]=z at *;clear e1 e2 eg hcells hsh hC hWk hV h0 hl1 hcap ht hs;go_enter func62,ntmps62;go_wp2;go_ret2;exact⟨rfl,HEND.out⟩
theorem Cm.appW{W:World}{b r:Nat}{o:Nat->Nat}{C:Cg}{wv tv sv:Value}{xs:List SpV}(y:SpV)(n:Nd)(h:Cm W b r o C wv tv sv xs)(hl:C.ws.length<=1000000)(hy:WrIs W o y (y.pg,n)):∃aq nq cq a4 n4 c4 w4,wv=.slice aq nq cq/\W.cell? ⟨b,2,none⟩=some (.slice aq nq cq) /\
  (Builtin.append_ #[78,78] 78 #[.slice aq nq cq,.slice (some ⟨W.heap.size,0,none⟩) 1 1]).run prog (W.alloc (.cells #[.int .i64 y.pg,.bool y.l,.slice y.a1 y.n1 y.c1,.slice y.a2 y.n2 y.c2,.slice y.a3 y.n3 y.c3,.int .i64 y.kid,.int .i64 y.was] 85))=.ok (.slice a4 n4 c4) w4 /\
  w4.cell? ⟨b,2,none⟩=some (.slice aq nq cq)/\w4.frozen? ⟨b,2,none⟩=false/\Cm (w4.setCell ⟨b,2,none⟩ (.slice a4 n4 c4)) b r (lab o W.heap.size 2) (C.write y.pg n) (.slice a4 n4 c4) tv sv (xs++[y])/\Kp (fun k=>o k=1\/o k=2) W (w4.setCell ⟨b,2,none⟩ (.slice a4 n4 c4)):=by
 have hbl:=h.hd.lt;obtain⟨aq,cq,e⟩:∃a c,wv=.slice a xs.length c:=by
  rcases h.ws.2 with ⟨h1,h0⟩|⟨g,cap,cur,h1,_⟩
  ·exact⟨none,0,by rw[h1,h0]⟩
  ·exact⟨_,_,h1⟩
 obtain⟨v3,w3,hq3,hO3,hk3,hv3,a4,c4,e4⟩:=Go.Proofs.YtgcgacjhkhjhmaaGreatDoor.appSp W 0 wv xs y h.ws (Nat.zero_le _) (by rw[h.wl];omega);have hob:∀k,wv.ownBlock=some k->o k=2/\k<W.heap.size:=fun k hk=>⟨h.wo k hk,(World.ownsRow.lt h.ws k hk).2⟩;have hnew:∀k,v3.ownBlock=some k->lab o W.heap.size 2 k=2/\k≠b:=by
  intro k hk;rcases hv3 with e'|⟨k',e',e5⟩
  ·rw[e']at hk;have:=hob k hk;exact⟨by rw[Ad this.2];exact this.1,fun e1=>by have:=h.ob;rw[<-e1]at this;omega⟩
  ·rw[e']at hk;have h2:=Option.some.inj hk;exact⟨Ap (by omega),by omega⟩
 have hold:∀k,k<W.heap.size->lab o W.heap.size 2 k=o k:=fun k hk=>Ad hk;rw[e4]at hq3 hO3 hnew;have hW3:=h.hd.kept hk3 (fun e'=>by have:=(hob b e').1;have:=h.ob;omega);have hst:Kp (only b) w3 (w3.setCell ⟨b,2,none⟩ (.slice a4 (xs++[y]).length c4)):=Kp.setCell _ _ _ _ rfl;have hW4:=hW3.setX 0 (.slice a4 (xs++[y]).length c4);have d3:W.cell? ⟨b,2,none⟩=_:=h.hd.cx 0;have d3':w3.cell? ⟨b,2,none⟩=_:=hW3.cx 0
 have hK:Kp (fun k=>o k=1\/o k=2) W (w3.setCell ⟨b,2,none⟩ (.slice a4 (xs++[y]).length c4)):=(hk3.mono (fun k _ e'=>.inr (hob k e').1)).trans hst (fun _ _ h=>h) (fun k _ e'=>.inl (by unfold only at e';rw[e'];exact h.ob));have far:∀k,k<W.heap.size->o k≠1->o k≠2->¬(o k=1\/o k=2):=fun k _ h1 h2 e'=>by rcases e' with e'|e';exact h1 e';exact h2 e'
 rw[e]at hq3;rw[e]at d3 d3';refine⟨aq,xs.length,cq,a4,_,c4,w3,e,d3,hq3,d3',hW3.fz 2,?_,hK⟩
 refine⟨hW4,by rw[hold b hbl];exact h.ob,Ao hO3 hst (fun k hk e'=>by unfold only at e';exact(hnew k hk).2 e'),fun k hk=>(hnew k hk).1,by simp[Cg.write,h.wl],fun i hi hi'=>?_,h.tk.kept hK (fun k e'=>far k (h.tk.lt k e').2 (by rw[h.to' k e'];omega) (by rw[h.to' k e'];omega)),fun k e'=>by rw[hold k (h.tk.lt k e').2];exact h.to' k e',h.sp.kept hK (fun k e'=>far k (h.sp.lt k e').2 (by rw[h.so k e'];omega) (by rw[h.so k e'];omega)),fun k e'=>by rw[hold k (h.sp.lt k e').2];exact h.so k e'⟩
 have hwr:∀x p,WrIs W o x p->WrIs (w3.setCell ⟨b,2,none⟩ (.slice a4 (xs++[y]).length c4)) (lab o W.heap.size 2) x p:=fun x p hx=>hx.kept hK (fun k hk' e'=>far k hk' (by omega) (by omega)) hold;rcases Nat.lt_or_ge i xs.length with h'|h'
 ·have hn:i<C.ws.length:=by rw[<-h.wl];exact h'
  have e1:(xs++[y])[i]=xs[i]:=List.getElem_append_left h';have e2:(C.write y.pg n).ws[i]=C.ws[i]:=List.getElem_append_left hn;rw[e1,e2];exact hwr _ _ (h.wi i h' hn)
 ·have ei:i=xs.length:=by rw[List.length_append]at hi;simp at hi;omega
  subst ei;have e1:(xs++[y])[xs.length]=y:=by simp
  have e2:(C.write y.pg n).ws[xs.length]=(y.pg,n):=by
   show (C.ws++[(y.pg,n)])[xs.length]=_;have hl':xs.length=C.ws.length:=h.wl;simp[hl']
  rw[e1,e2];exact hwr _ _ hy
def GJ(b r:Nat)(o:Nat->Nat)(C':Cg)(tv sv:Value)(xs':List SpV)(w w':World):Prop:=∃(o':Nat->Nat) (wv':Value),(∀k,k<w.heap.size->o' k=o k)/\Cm w' b r o' C' wv' tv sv xs'/\Kp (fun k=>o k=1\/o k=2) w w'
set_option maxRecDepth 100000 in
theorem A0(b r:Nat)(o:Nat->Nat)(C:Cg)(wv tv sv:Value)(xs:List SpV)(y:SpV)(n:Nd)(w:World)(hC:Cm w b r o C wv tv sv xs)(hy:WrIs w o y (y.pg,n))(h0:y.kid=0)(h1:y.was=0)(hl:C.ws.length<=100000) :
  Calls prog 130 #[.pointer (some ⟨b,0,none⟩),.int .i64 y.pg,.agg #[.bool y.l,.slice y.a1 y.n1 y.c1,.slice y.a2 y.n2 y.c2,.slice y.a3 y.n3 y.c3]] w fun e w'=>e=.returned (.tuple #[])/\GJ b r o (C.write y.pg n) tv sv (xs++[y]) w w':=by
 have nb:=Nb.new w y.l (.slice y.a1 y.n1 y.c1) (.slice y.a2 y.n2 y.c2) (.slice y.a3 y.n3 y.c3);have hKA:Kp none' w (w.alloc (.cells #[.bool y.l,.slice y.a1 y.n1 y.c1,.slice y.a2 y.n2 y.c2,.slice y.a3 y.n3 y.c3] 35)):=Kp.alloc _ _ _;have hold:∀k,k<w.heap.size->lab o w.heap.size 9 k=o k:=fun k hk=>Ad hk;have hC1:=hC.kept (o':=lab o w.heap.size 9) hKA (fun _ _ _ h=>h) hold;have hy1:=hy.kept (o':=lab o w.heap.size 9) hKA (fun _ _ _ h=>h) hold;go_enter func130,ntmps130
 go_upto_region 1 with fail;obtain⟨g,Hg⟩:∃q,Hid (w.heap.size=q):=⟨_,rfl⟩;have hgw:w.heap.size<(w.alloc (.cells #[.bool y.l,.slice y.a1 y.n1 y.c1,.slice y.a2 y.n2 y.c2,.slice y.a3 y.n3 y.c3] 35)).heap.size:=nb.lt;generalize w.alloc (.cells #[.bool y.l,.slice y.a1 y.n1 y.c1,.slice y.a2 y.n2 y.c2,.slice y.a3 y.n3 y.c3] 35)=w1 at *
 obtain⟨aq,nq,cq,a4,n4,c4,w4,ewv,y2,hq,y2',f2,hC4,hk4⟩:=Cm.appW y n (hC1.kept (o':=lab o w.heap.size 9) (Kp.drew none' w1) (fun _ _ _ h=>h) (fun _ _=>rfl)) (by omega) (hy1.kept (o':=lab o w.heap.size 9) (Kp.drew none' w1) (fun _ _ _ h=>h) (fun _ _=>rfl));have HEND:Hid (GJ b r o (C.write y.pg n) tv sv (xs++[y]) w (w4.setCell ⟨b,2,none⟩ (.slice a4 n4 c4))):=by
  refine⟨_,_,fun k hk=>?_,hC4,(hKA.thenN (Kp.drew none' w1)).trans hk4 (fun _ _ h=>by cases h) (fun k hk e=>?_)⟩
  ·have:k<w1.drew.heap.size:=Nat.lt_trans hk hgw;rw[Ad this,Ad hk]
  ·rw[Ad hk]at e;exact e
 rw[h0,h1]at hq;rw[Hg.out]at nb |-;have x0:=nb.c0;have x1:=nb.c1;have x2:=nb.c2;have x3:=nb.c3;have xa0:∀oo,(w1.alloc oo).cell? ⟨g,0,none⟩=some (.bool y.l):=fun oo=>(Kp.alloc none' w1 oo).cell x0 (fun h=>h);have xa1:∀oo,(w1.alloc oo).cell? ⟨g,1,none⟩=some (.slice y.a1 y.n1 y.c1):=fun oo=>(Kp.alloc none' w1 oo).cell x1 (fun h=>h);have xa2:∀oo,(w1.alloc oo).cell? ⟨g,2,none⟩=some (.slice y.a2 y.n2 y.c2):=fun oo=>(Kp.alloc none' w1 oo).cell x2 (fun h=>h)
 have xa3:∀oo,(w1.alloc oo).cell? ⟨g,3,none⟩=some (.slice y.a3 y.n3 y.c3):=fun oo=>(Kp.alloc none' w1 oo).cell x3 (fun h=>h);have k2:w1.cell? ⟨b,2,none⟩=some (.slice aq nq cq):=y2;have ka2:∀oo,(w1.alloc oo).cell? ⟨b,2,none⟩=some (.slice aq nq cq):=fun oo=>(Kp.alloc none' w1 oo).cell k2 (fun h=>h);clear hC hy hC1 hy1 hC4 hk4 hKA hold ewv y2 hgw;go_region_law (first
  | (refine A9 (by rfl) (.tmp 10) (.tmp 14) 78 78 (by rfl) _ _ (by rfl) (by rfl) hq ?_)
  | fail)
 all_goals
  first|go_end0|((try simp only[Exit.inBlock,Exit.then]);refine bodyPost_ret (results_none rfl _ _ _) rfl ?_)
 all_goals exact⟨rfl,HEND.out⟩
set_option maxRecDepth 100000 in
theorem EE(x:Value)(n:Nd)(B:Nat)(w:World)(hN:Nv B w x n) :
  Calls prog 126 #[x] w fun e w'=>e=.returned (.bool n.without)/\Kp none' w w':=by
 obtain⟨a1,c1,a2,c2,a3,c3,rfl⟩:=Hh hN;have nb:=Nb.new w n.leaf (.slice a1 n.ps.length c1) (.slice a2 n.ks.length c2) (.slice a3 n.kd.length c3);have hKA:Kp none' w (w.alloc (.cells #[.bool n.leaf,.slice a1 n.ps.length c1,.slice a2 n.ks.length c2,.slice a3 n.kd.length c3] 35)):=Kp.alloc _ _ _;have x1:=nb.c1;have x3:=nb.c3;unfold Nd.without;have e1:((n.ps.length:Int)==0)=(n.ps.length==0):=by cases h:n.ps.length==0<;>simp_all
 have e3:((n.kd.length:Int)==0)=(n.kd.length==0):=by cases h:n.kd.length==0<;>simp_all
 obtain⟨p,Hp⟩:∃q,Hid (n.ps.length=q):=⟨_,rfl⟩;obtain⟨d,Hd⟩:∃q,Hid (n.kd.length=q):=⟨_,rfl⟩;rw[Hp.out]at e1 x1 hKA |-;rw[Hd.out]at e3 x3 hKA |-;rw[Hp.out]at x3;rw[Hd.out]at x1;cases hp:(p==0)<;>cases hd:(d==0)
 all_goals
  rw[hp]at e1;rw[hd]at e3;clear hp hd;go_enter func126,ntmps126;go_wp2;go_ret;exact⟨rfl,hKA⟩
set_option maxRecDepth 100000 in
theorem GS(b r c m:Nat)(o:Nat->Nat)(V:Nat->Prop)(C:Cg)(wv tv sv:Value)(xs:List SpV)(w:World)(hC:Cm w b r o C wv tv sv xs)(hWk:Wk w r V c m C.S)(hV:∀k,V k->o k=5/\k<w.heap.size)(hm:m<=2000)(ht:C.tk.length<=1000) :
  Calls prog 67 #[.pointer (some ⟨b,0,none⟩)] w fun e w'=>e=.returned (.tuple #[])/\Wk w' r (fun k=>V k\/w.heap.size<=k) c (m+1000) (dropL C.S C.tk)/\Kp V w w':=by
 obtain⟨ta,tc,htv,hcells⟩:=hC.tk.open;have HTO:=hide hC.to';have q3:w.cell? ⟨b,3,none⟩=some tv:=hC.hd.cx 1;have HHD:=hide hC.hd;have HOB:=hide hC.ob;subst htv;have HV:=hide hV;obtain⟨lp,Hlp⟩:∃q,Hid (C.tk.length=q):=⟨_,rfl⟩;have HCL:Hid (∀j (h:j<C.tk.length) (W:World),Kp V w W->∃g,ta=some ⟨g,0,none⟩/\W.cell? ⟨g,j,none⟩=some (.int .i64 C.tk[j])):=by
  intro j h W hk;obtain⟨g,hta,_,hc⟩:=hcells j h;refine⟨g,hta,hk.cell hc (fun hv=>?_)⟩;have h1:=HTO.out g (by rw[hta];rfl);have:=(HV.out g hv).1;omega
 have HB:Hid (∀W:World,Kp V w W->W.cell? ⟨b,0,none⟩=some (.pointer (some ⟨r,0,none⟩))):=by
  intro W hk;exact hk.cell HHD.out.c0 (fun hv=>by have:=(HV.out b hv).1;have:=HOB.out;omega)
 rw[Hlp.out]at q3;rw[Hlp.out]at ht;clear hcells hC hV;go_enter func67,ntmps67;go_upto_region 1 with fail;clear q3;go_loopw [3,9] (fun _ t wr=>∃j:Nat,j<=lp/\t=.int .i64 j/\Wk wr r (fun k=>V k\/w.heap.size<=k) c (m+j) (dropL C.S (C.tk.take j))/\Kp V w wr) (fun _ t _=>lp - (intOf t).toNat)
 case atStart=>exact⟨0,Nat.zero_le _,rfl,by rw[List.take_zero];exact hWk.mono (fun _ _ h=>.inl h) (Nat.le_refl _),Kp.refl _ _⟩
 case round =>
  clear hWk;obtain⟨j,hj,rfl,hWk,hK⟩:=hrel;by_cases hlt:j<lp
  ·have hlt':(j:Int)<(lp:Int):=by omega
   have hjl:j<C.tk.length:=by rw[Hlp.out];exact hlt
   obtain⟨g,rfl,hc⟩:=HCL.out j hjl wr hK;have q0:=HB.out wr hK;have HDS:=hide (E6 C.S C.tk j hjl);generalize C.tk[j]=z at *;have hD:=Gw r z _ c (m+j) _ wr hWk (by omega);obtain⟨T,HT⟩:∃q,Hid (dropL C.S (C.tk.take j)=q):=⟨_,hide rfl⟩;rw[HT.out]at hD HDS hWk;clear hjl;go_wp2_with (first
    | (go_at_call 97;refine hD.mono ?_;rintro e w5 ⟨rfl,hWk5,hk5⟩)
    | fail)
   go_roundw
   case rel=>exact⟨j+1,by omega,by go_num,by rw[HDS.out];exact hWk5.mono (fun k _ e=>by rcases e with e|e;exact e;exact .inr (Nat.le_trans hK.size e)) (by omega),hK.trans hk5 (fun _ _ h=>h) (fun k hk e=>by rcases e with e|e;exact e;exact absurd hk (by omega))⟩
   case measure=>simp[intOf];omega
  ·have hlt':¬(j:Int)<(lp:Int):=by omega
   rw[List.take_of_length_le (by rw[Hlp.out];omega)]at hWk;go_wp2;first|go_end0|((try simp only[Exit.inBlock,Exit.then]);refine bodyPost_ret (results_none rfl _ _ _) rfl ?_)
   exact⟨rfl,hWk.mono (fun _ _ h=>h) (by omega),hK⟩
theorem O9(S:Sw)(z:Int):(ndOf S z).size<=256:=by
 unfold ndOf;split
 ·cases h:readN (S.read z).1 with
  | none=>simp[nd0,Nd.size]
  | some n=>simp only[Option.getD_some];exact(Ay (Bk h).1).2
 ·simp[nd0,Nd.size]
theorem NZ{S:Sw}{z:Int}(h:ndE S z=0)(hl:(ndOf S z).leaf=false):(ndOf S z).kd.length=(ndOf S z).ks.length+1:=by
 unfold ndE at h;unfold ndOf at hl |-;split at h
 ·rename_i h0;rw[if_pos h0]at hl |-;cases e:readN (S.read z).1 with
  | none=>rw[e]at h;simp at h
  | some n =>
   rw[e]at hl;simp only[Option.getD_some]at hl |-;exact(At (Ay (Bk e).1).1 hl).2.2.1
 ·exact absurd h (by assumption)
def EJ(b r:Nat)(xs0:List Value)(t:TypeId)(R:List Sp × Int × Nat)(w w':World)(e:Ending):Prop:=∃v xs,e=.returned (.tuple #[v,.int .i64 R.2.1])/\WayM w' w.heap.size v xs R.1/\Wl w' b r R.2.2 xs0 t/\Kp (only b) w w'
set_option maxRecDepth 100000 in
theorem Ic(b r k:Nat)(xs0:List Value)(t:TypeId)(root:Int)(key:ByteArray)(V:Nat->Prop)(c m:Nat)(S:Sw)(w:World)(hW:Wl w b r k xs0 t)(hWk:Wk w r V c m S)(hV:∀j,V j->j≠b)(hk:k<=50000) :
  Calls prog 35 #[.pointer (some ⟨b,0,none⟩),.int .i64 root,.string key] w fun e w'=>EJ b r xs0 t (wayG S key 41 [] root k) w w' e:=by
 obtain⟨R,HR⟩:∃q,Hid (wayG S key 41 [] root k=q):=⟨_,hide rfl⟩;rw[HR.out];have hbl:=hW.lt;have HV:=hide hV;clear hV;go_enter func35,ntmps35;go_upto_region 3 with fail;go_loopw [8,9,10,11,12] (fun v z _ _ _ wr=>∃(acc:List Sp) (xs:List SpV) (zz:Int),z=.int .i64 zz/\WayM wr w.heap.size v xs acc/\acc.length<=40/\Wl wr b r (k+acc.length) xs0 t/\Hid (wayG S key (41 - acc.length) acc zz (k+acc.length)=R)/\Kp (only b) w wr) (fun v _ _ _ _ _=>41 - (match v with|.slice _ n _=>n|_=>0))
 case atStart=>exact⟨[],[],root,rfl,WayM.nil _ _,Nat.zero_le _,hW,HR,Kp.refl _ _⟩
 case round =>
  obtain⟨acc,xs,z,rfl,hM,hal,hW',HRR,hK⟩:=hrel;clear hW HR;have hWk':Wk wr r V c m S:=hWk.kept hK (fun j _ hj e=>HV.out j hj e);have hTW:=CE b r (k+acc.length) z ((acc.length:Int)+1) xs0 t V c m S wr hW' hWk' (by omega);obtain⟨va,vc,hv⟩:=hM.slice;obtain⟨f,hf⟩:∃f,41 - acc.length=f+1:=⟨40 - acc.length,by omega⟩;have HF:Hid (f=41 - (acc.length+1)):=by show _=_;omega
  rw[hf,wayG]at HRR;have hxl:xs.length<=100000000:=by rw[hM.len];omega
  by_cases hE:trE S (k+acc.length) z ((acc.length:Int)+1)=0
  ·rw[if_pos hE]at HRR;obtain⟨hlv40,hk1000,hE0,hK1,hN1⟩:=Dx hE;have hnl:=NZ hE0;have hns:=O9 S z;have hlen:=Kd S z;obtain⟨n,Hn⟩:∃q,Hid (ndOf S z=q):=⟨_,rfl⟩;unfold B2 at hTW;rw[hE,hN1,hK1,Hn.out]at hTW;rw[Hn.out]at HRR hnl hns hlen;obtain⟨ch,Hch⟩:∃q,Hid (An n.ks key=q):=⟨_,rfl⟩;rw[Hch.out]at HRR;have hchl:ch<=n.ks.length:=by rw[<-Hch.out];exact C6 _ _
   obtain⟨al,Hal⟩:∃q,Hid (acc.length=q):=⟨_,rfl⟩;rw[Hal.out]at hTW hv hal hlv40 hW' hf HF;subst hv;have hsz:w.heap.size<=wr.heap.size:=hK.size;clear hf hE hE0 hK1 hN1 hWk' hW';go_upto_region 4 with (first
    | (go_at_call 68;refine hTW.mono ?_;rintro e w1 ⟨l,a1,n1,c1,a2,n2,c2,a3,n3,c3,rfl,hN,hW1,hk1⟩)
    | fail)
   have nb:=Nb.new w1 l (.slice a1 n1 c1) (.slice a2 n2 c2) (.slice a3 n3 c3);have hKA:Kp none' w1 (w1.alloc (.cells #[.bool l,.slice a1 n1 c1,.slice a2 n2 c2,.slice a3 n3 c3] 35)):=Kp.alloc _ _ _;obtain⟨g,Hg⟩:∃q,Hid (w1.heap.size=q):=⟨_,rfl⟩;rw[Hg.out]at nb |-;generalize w1.alloc (.cells #[.bool l,.slice a1 n1 c1,.slice a2 n2 c2,.slice a3 n3 c3] 35)=w2 at *;have HGE:Hid (wr.heap.size<=g):=by have:=hk1.size;have:=Hg.out;show _<=_;omega
   replace hN:=hN.kept hKA (fun _ _ _ h=>h);replace hW1:=hW1.kept hKA (fun h=>h);replace hk1:=hk1.thenN hKA;have x0:=nb.c0;have x1:=nb.c1;have x2:=nb.c2;have x3:=nb.c3;have HCH:Hid (Calls prog 69 #[.agg #[.bool l,.slice a1 n1 c1,.slice a2 n2 c2,.slice a3 n3 c3],.string key] w2 fun e w'=>e=.returned (.int .i64 (ch:Int))/\Kp none' w2 w'):=by
    have:=Gb _ n _ key w2 hN.nv;rw[Hch.out]at this;exact this
   clear hTW hKA;go_upto_region 7 with (first
    | (go_at_call 69;refine HCH.out.mono ?_;rintro e w3 ⟨rfl,hk3⟩)
    | fail)
   replace nb:=nb.kept hk3 (fun h=>h);replace hN:=hN.kept hk3 (fun _ _ _ h=>h);replace hW1:=hW1.kept hk3 (fun h=>h);replace hk1:=hk1.thenN hk3;clear x0 x1 x2 x3 HCH hk3;have HLF:Hid (l=n.leaf):=hN.l;obtain⟨NS,HNS⟩:∃q,Hid (n.size=q):=⟨_,rfl⟩;rw[HNS.out]at HRR hns;have HSZ:Hid (∀W:World,Kp none' w3 W->Calls prog 27 #[.agg #[.bool l,.slice a1 n1 c1,.slice a2 n2 c2,.slice a3 n3 c3]] W fun e w'=>e=.returned (.int .i64 (NS:Int))/\Kp none' w3 w'):=by
    intro W hk;refine(Cj _ n _ W (hN.nv.keptN hk)).mono ?_;rintro e w' ⟨rfl,h⟩;rw[HNS.out];exact⟨by rw[show wrap64 (NS:Int)=(NS:Int) by unfold wrap64;omega],hk.thenN h⟩
   have k0:∀W:World,Kp none' w3 W->W.cell? ⟨g,0,none⟩=some (.bool l):=fun W h=>(nb.kept h (fun h=>h)).c0;have k1:∀W:World,Kp none' w3 W->W.cell? ⟨g,1,none⟩=some (.slice a1 n1 c1):=fun W h=>(nb.kept h (fun h=>h)).c1;have k2:∀W:World,Kp none' w3 W->W.cell? ⟨g,2,none⟩=some (.slice a2 n2 c2):=fun W h=>(nb.kept h (fun h=>h)).c2;have k3:∀W:World,Kp none' w3 W->W.cell? ⟨g,3,none⟩=some (.slice a3 n3 c3):=fun W h=>(nb.kept h (fun h=>h)).c3;have dr:Kp none' w3 w3.drew:=Kp.drew _ _;have y0:=k0 _ dr
   have y1:=k1 _ dr;have y2:=k2 _ dr;have y3:=k3 _ dr
   have HAP:Hid (∀W:World,Kp none' w3 W->∃(a5:Option Addr) (c5:Nat) (xs':List SpV) (w5:World),(Builtin.append_ #[78,78] 78 #[.slice va al vc,.slice (some ⟨W.heap.size,0,none⟩) 1 1]).run prog (W.alloc (.cells #[.int .i64 z,.bool l,.slice a1 n1 c1,.slice a2 n2 c2,.slice a3 n3 c3,.int .i64 (ch:Int),.int .i64 (NS:Int)] 85))=.ok (.slice a5 (al+1) c5) w5/\WayM w5 w.heap.size (.slice a5 (al+1) c5) xs' (acc++[⟨z,n,ch,NS⟩])/\Wl w5 b r (k+al+1) xs0 t/\Kp (only b) w w5/\Nb w5 g l (.slice a1 n1 c1) (.slice a2 n2 c2) (.slice a3 n3 c3)/\OwN w5 wr.heap.size l (.slice a1 n1 c1) (.slice a2 n2 c2) (.slice a3 n3 c3) n):=by
    intro W hk;have hx:SpIs W wr.heap.size ⟨z,l,a1,n1,c1,a2,n2,c2,a3,n3,c3,(ch:Int),(NS:Int)⟩ ⟨z,n,ch,NS⟩:=⟨hN.kept hk (fun _ _ _ h=>h),rfl,rfl,rfl⟩;obtain⟨v',w5,hq,hM5,hk5,a5,c5,e5⟩:=WayM.app hM hbl hsz (hk1.thenN hk) _ _ hx hxl;have e6:(acc++[(⟨z,n,ch,NS⟩:Sp)]).length=al+1:=by rw[List.length_append,Hal.out];rfl
    rw[e6]at e5;subst e5;have hvb:∀j,(Value.slice va al vc).ownBlock=some j->w.heap.size<=j/\j<wr.heap.size:=fun j e=>World.ownsRow.lt hM.row j e;have hgb:wr.heap.size<=g:=HGE.out;refine⟨a5,c5,_,w5,hq,hM5,(hW1.kept hk (fun h=>h)).kept hk5 (fun e=>by have:=hvb b e;omega),?_,(nb.kept hk (fun h=>h)).kept hk5 (fun e=>by have:=hvb g e;omega),(hN.kept hk (fun _ _ _ h=>h)).kept hk5 (fun j h1 _ e=>by have:=hvb j e;omega)⟩
    exact(hK.then (hk1.thenN hk)).trans hk5 (fun _ _ h=>h) (fun j hj e=>absurd hj (by have:=hvb j e;omega))
   clear hM hK hW1 hk1;have HN3:=hide hN;clear hN;go_region_law (first
    | (go_simp;go_at_call 27;refine(HSZ.out _ (by first|assumption|exact dr)).mono ?_;rintro e w4 ⟨rfl,hk4⟩;have z0:=k0 _ hk4;have z1:=k1 _ hk4;have z2:=k2 _ hk4;have z3:=k3 _ hk4;obtain⟨a5,c5,xs',w5,hq,hM5,hW5,hK5,nb5,hN5⟩:=HAP.out _ hk4;have za0:∀o,(w4.alloc o).cell? ⟨g,0,none⟩=some (.bool l):=fun o=>k0 _ (hk4.thenN (Kp.alloc none' w4 o));have za1:∀o,(w4.alloc o).cell? ⟨g,1,none⟩=some (.slice a1 n1 c1):=fun o=>k1 _ (hk4.thenN (Kp.alloc none' w4 o));have za2:∀o,(w4.alloc o).cell? ⟨g,2,none⟩=some (.slice a2 n2 c2):=fun o=>k2 _ (hk4.thenN (Kp.alloc none' w4 o));have za3:∀o,(w4.alloc o).cell? ⟨g,3,none⟩=some (.slice a3 n3 c3):=fun o=>k3 _ (hk4.thenN (Kp.alloc none' w4 o)))
    | (refine A9 (by rfl) (.tmp 29) (.tmp 36) 78 78 (by rfl) _ _ (by rfl) (by rfl) hq ?_)
    | fail)
   all_goals
    have q0:=nb5.c0;have q3:=nb5.c3;have e6:(acc++[(⟨z,n,ch,NS⟩:Sp)]).length=al+1:=by rw[List.length_append,Hal.out];rfl
    have HE6:=hide e6;clear e6 z0 z1 z2 z3 za0 za1 za2 za3 y0 y1 y2 y3 k0 k1 k2 k3 hq dr;rw[<-HLF.out,Hal.out]at HRR;have hnl':=HLF.out;cases l with
    | true =>
     rw[if_pos rfl]at HRR;clear hnl';go_wp2;go_ret2;unfold EJ;rw[<-HRR.out];exact⟨_,xs',rfl,hM5,hW5,hK5⟩
    | false =>
     rw[if_neg (by simp)]at HRR;have hkl:=hnl hnl'.symm;clear hnl';have hck:ch<n.kd.length:=by omega
     obtain⟨a',c',e,_,_,hx⟩:=hN5.d.sl;obtain⟨rfl,rfl,rfl⟩:a3=a'/\n3=n.kd.length/\c3=c':=by simpa using e
     obtain⟨b3,o3,rfl,_,hcd⟩:=hx ch hck;have eg:n.kd.getD ch 0=n.kd[ch]:=by rw[List.getD_eq_getElem?_getD,List.getElem?_eq_getElem hck];rfl
     rw[eg]at HRR;generalize n.kd[ch]=z' at *;have hck':(ch:Int)<(n.kd.length:Int):=by omega
     clear hx e eg hN5 HN3 HAP HSZ hkl hnl;go_wp2;go_roundw
     case rel=>exact⟨acc++[⟨z,n,ch,NS⟩],xs',z',rfl,hM5,by rw[HE6.out];omega,by rw[HE6.out];exact hW5,by rw[HE6.out,<-HF.out];exact HRR,hK5⟩
     case measure=>show 41 - (al+1)<41 - al;omega
  ·have hR1:=HRR;rw[if_neg hE]at hR1;obtain⟨E,HE⟩:∃q,Hid (trE S (k+acc.length) z ((acc.length:Int)+1)=q):=⟨_,rfl⟩;rw[HE.out]at hE hR1;have hEb:(E != 0)=true:=by simp[hE]
   obtain⟨al,Hal⟩:∃q,Hid (acc.length=q):=⟨_,rfl⟩;rw[Hal.out]at hTW hv hal hW' hf HF HE hR1;subst hv;clear HRR hE hM;go_wp2_with (first
    | (go_at_call 68;refine hTW.mono ?_;rintro e w1 ⟨l,a1,n1,c1,a2,n2,c2,a3,n3,c3,rfl,hN,hW1,hk1⟩;rw[HE.out])
    | fail)
   go_ret2;have hKA:Kp none' w1 (w1.alloc (.cells #[.bool l,.slice a1 n1 c1,.slice a2 n2 c2,.slice a3 n3 c3] 35)):=Kp.alloc _ _ _;unfold EJ;rw[<-hR1.out];exact⟨_,[],rfl,WayM.nil _ _,hW1.kept hKA (fun h=>h),hK.then (hk1.thenN hKA)⟩
theorem PB(S:Sw)(key:ByteArray):∀(f:Nat) (acc:List Sp) (z:Int) (k:Nat),(wayG S key f acc z k).2.1=0->(wayG S key f acc z k).1≠[]:=by
 intro f;induction f with
 | zero=>intro acc z k h;simp[wayG]at h
 | succ f ih =>
  intro acc z k h;rw[wayG]at h |-;split at h
  ·rename_i hE;rw[if_pos hE];split at h
   ·rename_i hl;rw[if_pos hl];simp
   ·rename_i hl;rw[if_neg hl];exact ih _ _ _ h
  ·rename_i hE;exact absurd h hE
theorem WayM.at{w:World}{base:Nat}{v:Value}{xs:List SpV}{ns:List Sp}(h:WayM w base v xs ns)(i:Nat)(hi:i<xs.length):∃g c,v=.slice (some ⟨g,0,none⟩) xs.length c/\base<=g/\∀j u,(xs[i].cells)[j]?=some u->w.cell? ⟨g,i*7+j,none⟩=some u/\w.frozen? ⟨g,i*7+j,none⟩=false:=by
 rcases h.row.2 with ⟨rfl,h0⟩|⟨g,cap,cur,rfl,hb,_⟩
 ·omega
 ·refine⟨g,cap,rfl,hb,fun j u hj=>?_⟩;have hj7:j<7:=by have:=(List.getElem?_eq_some_iff.1 hj).1;simpa[SpV.cells]using this
  exact AO h.row (i*7+j) u (by rw[Ls xs i j hi hj7];exact hj)
set_option maxRecDepth 100000 in
theorem Jp(r c m:Nat)(V:Nat->Prop)(S:Sw)(key:ByteArray)(root:Int)(w:World)(hWk:Wk w r V c m S)(hV:∀k,V k->k<w.heap.size) :
  Calls prog 13 #[.pointer (some ⟨r,0,none⟩),.int .i64 root,.string key] w fun e w'=>e=.returned (.tuple #[.string (getT S root key).1,.bool (getT S root key).2.1,.int .i64 (getT S root key).2.2])/\Kp none' w w':=by
 by_cases h0:root=0
 ·have e1:getT S root key=(⟨#[]⟩,false,0):=by unfold getT;rw[if_pos h0]
  rw[e1];subst h0;go_enter func13,ntmps13;go_wp2;go_ret3;exact⟨rfl,Kp.refl _ _⟩
 ·have hb0:(root==0)=false:=by simp[h0]
  have hKA:Kp none' w (w.alloc (.cells #[.pointer (some ⟨r,0,none⟩),.int .i64 0] 77)):=Kp.alloc _ _ _;have hW:Wl (w.alloc (.cells #[.pointer (some ⟨r,0,none⟩),.int .i64 0] 77)) w.heap.size r 0 [] 77:=heap_alloc_new w _;have hC:=Ic w.heap.size r 0 [] 77 root key V c m S _ hW (hWk.keptN hKA) (fun j hj e=>by have:=hV j hj;omega) (by omega);obtain⟨R,HR⟩:∃q,Hid (wayG S key 41 [] root 0=q):=⟨_,hide rfl⟩;have hne:=PB S key 41 [] root 0;rw[HR.out]at hC hne;unfold getT;rw[if_neg h0,HR.out]
  obtain⟨ns,E,k'⟩:=R;dsimp only at hne |-;unfold EJ at hC;dsimp only at hC;clear h0 hW;by_cases hE:E=0
  ·subst hE;rw[if_pos rfl];have HNE:=hide (hne rfl);clear hne;obtain⟨n,HLN⟩:∃q,Hid (lastN ns=q):=⟨_,rfl⟩;rw[HLN.out];obtain⟨fi,Hfi⟩:∃q,Hid (findN n.ps key=q):=⟨_,rfl⟩;rw[Hfi.out];obtain⟨A,HA⟩:∃q:ByteArray × Bool × Int,Hid ((if hasN n.ps key then ((n.ps.getD fi ⟨⟨#[]⟩,⟨#[]⟩⟩).v,true,0) else ((⟨#[]⟩:ByteArray),false,0))=q):=⟨_,hide rfl⟩;rw[HA.out];go_enter func13,ntmps13;go_upto_region 5 with (first
    | (go_at_call 35;refine hC.mono ?_;rintro e w1 ⟨v,xs,rfl,hM,hW1,hk1⟩)
    | fail)
   have hnl:0<ns.length:=List.length_pos_iff.2 HNE.out;obtain⟨i,Hi⟩:∃q,Hid (ns.length=q+1):=⟨ns.length - 1,hide (by omega)⟩;have hix:i<xs.length:=by rw[hM.len];have:=Hi.out;omega
   have hin:i<ns.length:=by have:=Hi.out;omega
   obtain⟨g,cc,rfl,hgb,hcell⟩:=hM.at i hix;have his:=hM.is i hix hin;have hla:lastN ns=ns[i].nd:=by
    unfold lastN;rw[List.getLast?_eq_getElem?,show ns.length - 1=i by have:=Hi.out;omega,List.getElem?_eq_getElem hin];rfl
   have hnd:=his.nd;rw[<-hla,HLN.out]at hnd;generalize xs[i]=x at *;have q1:=(hcell 1 (.bool x.l) rfl).1;have q2:w1.cell? ⟨g,i*7+1+1,none⟩=some _:=(hcell 2 (.slice x.a1 x.n1 x.c1) rfl).1;have q3:w1.cell? ⟨g,i*7+1+2,none⟩=some _:=(hcell 3 (.slice x.a2 x.n2 x.c2) rfl).1;have q4:w1.cell? ⟨g,i*7+1+3,none⟩=some _:=(hcell 4 (.slice x.a3 x.n3 x.c3) rfl).1;obtain⟨xl,Hxl⟩:∃q,Hid (xs.length=q):=⟨_,rfl⟩;have hl1:(xl:Int) - 1=(i:Int):=by have:=Hi.out;have:=hM.len;have:=Hxl.out;omega
   have hl2:(i:Int)<(xl:Int):=by omega
   have hl3:i<xl:=by omega
   obtain⟨hcap,hcm⟩:xl<=cc/\cc<=9223372036854775807:=by
    rcases hM.row.2 with ⟨h1,_⟩|⟨g',cap,cur,h1,_,_,h2,h3,_⟩
    ·cases h1
    ·cases h1;rw[<-Hxl.out];unfold maxLen at h3;exact⟨h2,by omega⟩
   have hib:(i:Int)<9223372036854775807:=by omega
   rw[Hxl.out];have hKF:Kp none' w w1:=Ax hKA (Nat.le_refl _) hk1;clear hC hcell his hM hW1 hk1 hla hin hix hgb hnl hKA;have nb:=Nb.new w1 x.l (.slice x.a1 x.n1 x.c1) (.slice x.a2 x.n2 x.c2) (.slice x.a3 x.n3 x.c3);have hkn:Kp none' w1 (w1.alloc (.cells #[.bool x.l,.slice x.a1 x.n1 x.c1,.slice x.a2 x.n2 x.c2,.slice x.a3 x.n3 x.c3] 35)):=Kp.alloc _ _ _;go_upto_region 8 with fail;obtain⟨g2,Hg2⟩:∃q,Hid (w1.heap.size=q):=⟨_,rfl⟩;rw[Hg2.out]at nb |-
   generalize w1.alloc (.cells #[.bool x.l,.slice x.a1 x.n1 x.c1,.slice x.a2 x.n2 x.c2,.slice x.a3 x.n3 x.c3] 35)=w2 at *;replace hnd:=hnd.kept hkn (fun _ _ _ h=>h);replace hKF:=hKF.thenN hkn;have HFI:Hid (Calls prog 36 #[.agg #[.bool x.l,.slice x.a1 x.n1 x.c1,.slice x.a2 x.n2 x.c2,.slice x.a3 x.n3 x.c3],.string key] w2 fun e w'=>e=.returned (.tuple #[.int .i64 (fi:Int),.bool (hasN n.ps key)])/\Kp none' w2 w'):=by
    have:=E8 _ n _ key w2 hnd.nv;rw[Hfi.out]at this;exact this
   have x0:=nb.c0;have x1:=nb.c1;have x2:=nb.c2;have x3:=nb.c3;clear q1 q2 q3 q4 hkn hl1 hl2 hl3 hcap hcm hib;cases hh:hasN n.ps key with
   | true =>
    rw[hh]at HFI;have hfl:=KV hh;rw[Hfi.out]at hfl;have HH:=hide hh;go_upto_region 9 with (first
     | (go_at_call 36;refine HFI.out.mono ?_;rintro e w3 ⟨rfl,hk3⟩)
     | fail)
    replace hnd:=hnd.kept hk3 (fun _ _ _ h=>h);replace hKF:=hKF.thenN hk3;have y1:=(nb.kept hk3 (fun h=>h)).c1;have hps:=hnd.p.prs;obtain⟨a',c',e,_,_,hx⟩:=hps;obtain⟨e1,e2,e3⟩:x.a1=a'/\x.n1=n.ps.length/\x.c1=c':=by unfold SpV.p at e;simpa using e
    obtain⟨b3,o3,e4,_,z0,z1⟩:=hx fi hfl;rw[e1,e2,e4]at y1;have hfi:(fi:Int)<(n.ps.length:Int):=by omega
    have eg:n.ps.getD fi ⟨⟨#[]⟩,⟨#[]⟩⟩=n.ps[fi]:=by rw[List.getD_eq_getElem?_getD,List.getElem?_eq_getElem hfl];rfl
    have HEG:=hide eg;generalize n.ps[fi]=y at *;clear hx e e1 e2 e3 e4 eg hnd nb x0 x1 x2 x3 HFI hh;go_wp2;go_ret3;rw[<-HA.out,HH.out,if_pos rfl,HEG.out];exact⟨rfl,hKF⟩
   | false =>
    rw[hh]at HFI;have HH:=hide hh;clear hh;go_wp2_with (first
     | (go_at_call 36;refine HFI.out.mono ?_;rintro e w3 ⟨rfl,hk3⟩)
     | fail)
    go_ret3;rw[<-HA.out,HH.out,if_neg (by simp)];exact⟨rfl,hKF.thenN hk3⟩
  ·rw[if_neg hE];have hEb:(E != 0)=true:=by simp[hE]
   clear hE hne;go_enter func13,ntmps13;go_wp2_with (first
    | (go_at_call 35;refine hC.mono ?_;rintro e w1 ⟨v,xs,rfl,hM,hW1,hk1⟩;obtain⟨va,vc,rfl⟩:=hM.slice)
    | fail)
   go_ret3;exact⟨rfl,Ax hKA (Nat.le_refl _) hk1⟩
theorem J3{ps:List Pr}(h:0<ps.length)(dep lv:Int)(fr up:ByteArray):leafB ps dep lv fr up=(decide (lv=dep)&&(inB ps[0].k fr up&&inB (ps[ps.length - 1]'(by omega)).k fr up)):=by
 unfold leafB;have e1:ps.head?=some ps[0]:=by cases ps with|nil=>simp at h|cons x l=>rfl
 have e2:ps.getLast?=some (ps[ps.length - 1]'(by omega)):=by rw[List.getLast?_eq_getElem?,List.getElem?_eq_getElem (by omega)]
 rw[e1,e2]
theorem Lm.dep{w:World}{b r:Nat}{G:Nat->Prop}{L:Lo}(h:Lm w b r G L)(d:Int):w.cell? ⟨b,4,none⟩=some (.int .i64 L.depth)/\w.frozen? ⟨b,4,none⟩=false/\Lm (w.setCell ⟨b,4,none⟩ (.int .i64 d)) b r G { L with depth:=d }/\Kp (only b) w (w.setCell ⟨b,4,none⟩ (.int .i64 d)):=by
 obtain⟨pv,qv,hW,hO,hP,hne,hG1,hG2⟩:=h;have hst:Kp (only b) w (w.setCell ⟨b,4,none⟩ (.int .i64 d)):=Kp.setCell _ _ _ _ rfl;exact⟨hW.cx 2,hW.fz 4,⟨pv,qv,hW.setX 2 (.int .i64 d),hO.kept hst (fun k hk e=>by unfold only at e;have:=(hO.lt k hk).1;omega),hP.kept hst (fun k hk e=>by unfold only at e;have:=(hP.lt k hk).1;omega),hne,hG1,hG2⟩,hst⟩
set_option maxRecDepth 100000 in
theorem FZ(b r:Nat)(G:Nat->Prop)(L:Lo)(pv:Value)(ps:List Pr)(lv:Int)(fr up:ByteArray)(w:World)(hL:Lm w b r G L)(hP:Prs w.heap.size w pv ps)(hPb:∀W:World,Kp (only b) w W->Prs W.heap.size W pv ps) :
  Calls prog 102 #[.pointer (some ⟨b,0,none⟩),pv,.int .i64 lv,.string fr,.string up] w fun e w'=>e=.returned (.bool (leafB ps (if L.depth=0 then lv else L.depth) lv fr up))/\Lm w' b r G { L with depth:=if L.depth=0 then lv else L.depth }/\Kp (only b) w w':=by
 obtain⟨d4,f4,hL4,hk4⟩:=hL.dep lv;have d4':=hL4.dep 0 |>.1;have HPB:=hide hPb;clear hPb;obtain⟨a,c,rfl,hlc,hcm,hcells⟩:=hP;clear hcells;unfold maxLen at hcm;have HW:Hid (∀(k:ByteArray) (W:World),Calls prog 101 #[.string k,.string fr,.string up] W fun e w'=>e=.returned (.bool (inB k fr up))/\w'=W):=fun k W=>CG k fr up W;obtain⟨D,HD⟩:∃q,Hid ((if L.depth=0 then lv else L.depth)=q):=⟨_,hide rfl⟩;rw[HD.out]
 obtain⟨wd,HWD⟩:∃W,Hid ((if L.depth=0 then w.setCell ⟨b,4,none⟩ (.int .i64 lv) else w)=W):=⟨_,hide rfl⟩;have HFin:Hid (Lm wd b r G { L with depth:=D }/\Kp (only b) w wd/\wd.cell? ⟨b,4,none⟩=some (.int .i64 D)):=by
  rw[<-HWD.out,<-HD.out];by_cases h:L.depth=0
  ·rw[if_pos h,if_pos h];exact⟨hL4,hk4,d4'⟩
  ·rw[if_neg h,if_neg h];exact⟨hL,Kp.refl _ _,d4⟩
 have HB:Hid (∀g,(0<ps.length->g=ps.length->leafB ps D lv fr up=(decide (lv=D)&&(inB (ps.getD 0 ⟨⟨#[]⟩,⟨#[]⟩⟩).k fr up&&inB (ps.getD (g - 1) ⟨⟨#[]⟩,⟨#[]⟩⟩).k fr up)))):=by
  intro g hg e;subst e;rw[J3 hg];congr 2
  ·rw[List.getD_eq_getElem?_getD,List.getElem?_eq_getElem hg];rfl
  ·rw[List.getD_eq_getElem?_getD,List.getElem?_eq_getElem (by omega)];rfl
 have HB0:Hid (ps.length=0->leafB ps D lv fr up=false):=by
  intro h;have:=List.eq_nil_of_length_eq_zero h;subst this;simp[leafB]
 have HBN:Hid (lv≠D->leafB ps D lv fr up=false):=by
  intro h;unfold leafB;simp[h]
 have c4:=HFin.out.2.2;by_cases hd:L.depth=0
 ·rw[if_pos hd]at HWD;rw[hd]at d4;go_enter func102,ntmps102;go_upto_region 3 with fail;rw[HWD.out];by_cases hlD:lv=D
  ·have hlb:(lv != D)=false:=by simp[hlD]
   by_cases h0:ps.length=0
   ·have h0b:((ps.length:Int)==0)=true:=by simp[h0]
    have HE:=hide (HB0.out h0);clear h0 hlD;go_wp2;go_ret;rw[HE.out];exact⟨rfl,HFin.out.1,HFin.out.2.1⟩
   ·have h0b:((ps.length:Int)==0)=false:=by rw[beq_eq_false_iff_ne];omega
    obtain⟨l1,Hl1⟩:∃q,Hid (ps.length=q+1):=⟨ps.length - 1,hide (by omega)⟩;have hps:ps.length=l1+1:=Hl1.out;have HE:=hide (HB.out _ (by omega) rfl);rw[hps,Nat.add_sub_cancel]at HE;obtain⟨a',c',e,_,_,hx⟩:=HPB.out _ HFin.out.2.1;obtain⟨rfl,rfl⟩:a=a'/\c=c':=by simpa using e
    obtain⟨g,o,rfl,_,q0,_⟩:=hx 0 (by omega);obtain⟨g',o',e',_,q1,_⟩:=hx l1 (by omega);cases e'
    have e0:ps.getD 0 ⟨⟨#[]⟩,⟨#[]⟩⟩=ps[0]'(by omega):=by rw[List.getD_eq_getElem?_getD,List.getElem?_eq_getElem (by omega)];rfl
    have e1:ps.getD l1 ⟨⟨#[]⟩,⟨#[]⟩⟩=ps[l1]'(by omega):=by rw[List.getD_eq_getElem?_getD,List.getElem?_eq_getElem (by omega)];rfl
    rw[e0,e1]at HE;generalize ps[0]'(by omega)=x0 at *;generalize ps[l1]'(by omega)=x1 at *;obtain⟨lp,Hlp⟩:∃q,Hid (ps.length=q):=⟨_,rfl⟩;have hl0:(0:Int)<(lp:Int):=by have:=Hlp.out;omega
    have hl1:(lp:Int) - 1=(l1:Int):=by have:=Hlp.out;omega
    have hl2:(l1:Int)<(lp:Int):=by have:=Hlp.out;omega
    have hl3:l1<lp:=by have:=Hlp.out;omega
    rw[Hlp.out]at h0b hlc |-;rw[Nat.zero_mul,Nat.add_zero]at q0;have HE2:Hid (leafB ps D lv fr up=(inB x0.k fr up&&inB x1.k fr up)):=by show _=_;rw[HE.out];simp[hlD]
    clear hx e e0 e1 HE hps h0 hlD HB HB0 HBN;cases hi0:inB x0.k fr up<;>cases hi1:inB x1.k fr up
    all_goals
     have HE3:=hide HE2.out;rw[hi0,hi1]at HE3;go_wp2_with (first
      | (go_at_call 101;refine(HW.out _ _).mono ?_;rintro e w5 ⟨rfl,hw5⟩;obtain rfl:=hw5;first|rw[hi0]|rw[hi1])
      | fail)
     go_ret;rw[HE3.out];exact⟨rfl,HFin.out.1,HFin.out.2.1⟩
  ·have hlb:(lv != D)=true:=by simp[hlD]
   have HE:=hide (HBN.out hlD);clear hlD;go_wp2;go_ret;rw[HE.out];exact⟨rfl,HFin.out.1,HFin.out.2.1⟩
 ·have eD:L.depth=D:=by have:=HD.out;rw[if_neg hd]at this;exact this
  have hdb:(D==0)=false:=by rw[<-eD];simp[hd]
  rw[if_neg hd]at HWD;rw[eD]at d4;clear hd eD HD;go_enter func102,ntmps102;go_upto_region 3 with fail;have e:=HWD.out;subst e;by_cases hlD:lv=D
  ·have hlb:(lv != D)=false:=by simp[hlD]
   by_cases h0:ps.length=0
   ·have h0b:((ps.length:Int)==0)=true:=by simp[h0]
    have HE:=hide (HB0.out h0);clear h0 hlD;go_wp2;go_ret;rw[HE.out];exact⟨rfl,HFin.out.1,HFin.out.2.1⟩
   ·have h0b:((ps.length:Int)==0)=false:=by rw[beq_eq_false_iff_ne];omega
    obtain⟨l1,Hl1⟩:∃q,Hid (ps.length=q+1):=⟨ps.length - 1,hide (by omega)⟩;have hps:ps.length=l1+1:=Hl1.out;have HE:=hide (HB.out _ (by omega) rfl);rw[hps,Nat.add_sub_cancel]at HE;obtain⟨a',c',e,_,_,hx⟩:=HPB.out _ HFin.out.2.1;obtain⟨rfl,rfl⟩:a=a'/\c=c':=by simpa using e
    obtain⟨g,o,rfl,_,q0,_⟩:=hx 0 (by omega);obtain⟨g',o',e',_,q1,_⟩:=hx l1 (by omega);cases e'
    have e0:ps.getD 0 ⟨⟨#[]⟩,⟨#[]⟩⟩=ps[0]'(by omega):=by rw[List.getD_eq_getElem?_getD,List.getElem?_eq_getElem (by omega)];rfl
    have e1:ps.getD l1 ⟨⟨#[]⟩,⟨#[]⟩⟩=ps[l1]'(by omega):=by rw[List.getD_eq_getElem?_getD,List.getElem?_eq_getElem (by omega)];rfl
    rw[e0,e1]at HE;generalize ps[0]'(by omega)=x0 at *;generalize ps[l1]'(by omega)=x1 at *;obtain⟨lp,Hlp⟩:∃q,Hid (ps.length=q):=⟨_,rfl⟩;have hl0:(0:Int)<(lp:Int):=by have:=Hlp.out;omega
    have hl1:(lp:Int) - 1=(l1:Int):=by have:=Hlp.out;omega
    have hl2:(l1:Int)<(lp:Int):=by have:=Hlp.out;omega
    have hl3:l1<lp:=by have:=Hlp.out;omega
    rw[Hlp.out]at h0b hlc |-;rw[Nat.zero_mul,Nat.add_zero]at q0;have HE2:Hid (leafB ps D lv fr up=(inB x0.k fr up&&inB x1.k fr up)):=by show _=_;rw[HE.out];simp[hlD]
    clear hx e e0 e1 HE hps h0 hlD HB HB0 HBN;cases hi0:inB x0.k fr up<;>cases hi1:inB x1.k fr up
    all_goals
     have HE3:=hide HE2.out;rw[hi0,hi1]at HE3;go_wp2_with (first
      | (go_at_call 101;refine(HW.out _ _).mono ?_;rintro e w5 ⟨rfl,hw5⟩;obtain rfl:=hw5;first|rw[hi0]|rw[hi1])
      | fail)
     go_ret;rw[HE3.out];exact⟨rfl,HFin.out.1,HFin.out.2.1⟩
  ·have hlb:(lv != D)=true:=by simp[hlD]
   have HE:=hide (HBN.out hlD);clear hlD;go_wp2;go_ret;rw[HE.out];exact⟨rfl,HFin.out.1,HFin.out.2.1⟩
def Jz(b r c m:Nat)(V:Nat->Prop)(S:Sw)(f:Nat)(lv:Nat):Prop:=∀(z:Int) (fr up:ByteArray) (G:Nat->Prop) (L:Lo) (w:World),Wk w r V c m S->(∀k,V k->k<b)->Lm w b r G L->(∀k,G k->b<k/\k<w.heap.size)->L.ok ->
  Calls prog 71 #[.pointer (some ⟨b,0,none⟩),.int .i64 z,.int .i64 (lv:Int),.string fr,.string up] w fun e w'=>e=.returned (.bool (Aq S f z (lv:Int) fr up L).1)/\Lm w' b r (fun k=>G k\/w.heap.size<=k) (Aq S f z (lv:Int) fr up L).2/\((Aq S f z (lv:Int) fr up L).1=true->(Aq S f z (lv:Int) fr up L).2.ok)/\Kp (fun k=>k=b\/G k) w w'
theorem Lo.ok.ok_meet{L:Lo}(h:L.ok)(hk:L.k<1000)(z:Int)(d:Int):({ L with k:=L.k+1,pages:=L.pages++[z],depth:=d }:Lo).ok:=⟨hk,by have:=h.pages;show (L.pages++[z]).length<=_;simp;omega,by have:=h.pairs;show L.pairs.length<=256*(L.k+1);omega⟩
set_option maxRecDepth 100000 in
theorem FM(b r c m:Nat)(V:Nat->Prop)(S:Sw)(f:Nat)(lv:Nat)(hlv:lv<=41)(hrec:lv<=40->Jz b r c m V S f (lv+1)):Jz b r c m V S (f+1) lv:=by
 intro z fr up G L w hWk hV hL hG hok;have hbl:=hL.lt;obtain⟨R,HR⟩:∃q,Hid (Aq S (f+1) z (lv:Int) fr up L=q):=⟨_,rfl⟩;rw[HR.out];obtain⟨pv,qv,hW,hO,hP,hne,hG1,hG2⟩:=hL;have hTW:=CE b r L.k z (lv:Int) _ _ V c m S w hW hWk (by have:=hok.k;omega);by_cases hE:trE S L.k z (lv:Int)=0
 ·obtain⟨hlv40,hk1000,hE0,hK1,hN1⟩:=Dx hE;obtain⟨n,Hn⟩:∃q,Hid (ndOf S z=q):=⟨_,rfl⟩;have hlen:=Kd S z;have hkid:=K9 S z;rw[Hn.out]at hlen hkid;have HRec:Hid (∀(d:Int) (fr up:ByteArray) (G:Nat->Prop) (M:Lo) (w:World),Wk w r V c m S->Lm w b r G M->(∀k,G k->b<k/\k<w.heap.size)->M.ok ->
    Calls prog 71 #[.pointer (some ⟨b,0,none⟩),.int .i64 d,.int .i64 ((lv:Int)+1),.string fr,.string up] w fun e w'=>e=.returned (.bool (Aq S f d ((lv:Int)+1) fr up M).1)/\Lm w' b r (fun k=>G k\/w.heap.size<=k) (Aq S f d ((lv:Int)+1) fr up M).2/\((Aq S f d ((lv:Int)+1) fr up M).1=true->(Aq S f d ((lv:Int)+1) fr up M).2.ok)/\Kp (fun k=>k=b\/G k) w w'):=by
   intro d fr up G M w h1 h2 h3 h4;exact hrec (by omega) d fr up G M w h1 hV h2 h3 h4
  have HR2:Hid (R=(if L.pages.contains z then (false,{ L with k:=L.k+1 }) else
    if n.leaf then
     (leafB n.ps (if L.depth=0 then (lv:Int) else L.depth) (lv:Int) fr up,{ L with k:=L.k+1,pages:=L.pages++[z],depth:=if L.depth=0 then (lv:Int) else L.depth })
    else if n.ks.length=0 then (false,{ L with k:=L.k+1,pages:=L.pages++[z] })
    else AF (fun d a b M=>Aq S f d ((lv:Int)+1) a b M) n.ks fr up n.kd 0 { L with k:=L.k+1,pages:=L.pages++[z] })):=by
   show _=_;rw[<-HR.out,Aq,if_pos hE,Hn.out]
  unfold B2 at hTW;rw[hE,hN1,hK1,Hn.out]at hTW;clear hrec HR hE0 hK1 hN1 hE;go_enter func71,ntmps71;go_upto_region 2 with (first
   | (go_at_call 68;refine hTW.mono ?_;rintro e w1 ⟨l,a1,n1,c1,a2,n2,c2,a3,n3,c3,rfl,hN,hW1,hk1⟩)
   | fail)
  have nb:=Nb.new w1 l (.slice a1 n1 c1) (.slice a2 n2 c2) (.slice a3 n3 c3);have hKA:Kp none' w1 (w1.alloc (.cells #[.bool l,.slice a1 n1 c1,.slice a2 n2 c2,.slice a3 n3 c3] 35)):=Kp.alloc _ _ _;obtain⟨g,Hg⟩:∃q,Hid (w1.heap.size=q):=⟨_,rfl⟩;rw[Hg.out]at nb |-;generalize w1.alloc (.cells #[.bool l,.slice a1 n1 c1,.slice a2 n2 c2,.slice a3 n3 c3] 35)=w2 at *;have HGL:Hid (b<w.heap.size/\w.heap.size<=g/\g<w2.heap.size):=⟨hbl,by have:=hk1.size;have:=Hg.out;omega,nb.lt⟩
  replace hN:=hN.kept hKA (fun _ _ _ h=>h);have hL2:Lm w2 b r G { L with k:=L.k+1 }:=⟨pv,qv,hW1.kept hKA (fun h=>h),(hO.kept hk1 (fun k hk e=>by unfold only at e;have:=(hO.lt k hk).1;omega)).keptN hKA,(hP.kept hk1 (fun k hk e=>by unfold only at e;have:=(hP.lt k hk).1;omega)).keptN hKA,hne,hG1,hG2⟩;have HK2:Hid (Kp (fun k=>k=b\/G k) w w2):=(hk1.thenN hKA).mono (fun k _ e=>.inl e);have HWK:Hid (Wk w2 r V c m S):=(hWk.kept hk1 (fun k _ h e=>by unfold only at e;have:=hV k h;omega)).keptN hKA
  have HMT:=hide (IN b r z G _ w2 hL2 (by have:=hok.pages;have:=hok.k;show L.pages.length<=_;omega));clear hW1 hW hO hP hne hG1 hG2 hTW hk1 hKA hL2 hWk;have HGG:=hide hG;have HVV:=hide hV;have HOK:=hide hok;clear hG hV hok;obtain⟨hi,Hhi⟩:∃q,Hid (w2.heap.size=q):=⟨_,rfl⟩;rw[Hhi.out]at HGL HMT
  have HND:Hid (∀W:World,Kp (fun k=>k=b\/G k\/hi<=k) w2 W->Nb W g l (.slice a1 n1 c1) (.slice a2 n2 c2) (.slice a3 n3 c3)/\OwN W w.heap.size l (.slice a1 n1 c1) (.slice a2 n2 c2) (.slice a3 n3 c3) n/\Wk W r V c m S):=by
   intro W hk;have h1:=HGL.out;refine⟨nb.kept hk (fun e=>?_),hN.kept hk (fun k hb hlt e=>?_),HWK.out.kept hk (fun k hlt hv e=>?_)⟩
   ·rcases e with e|e|e
    ·omega
    ·have:=HGG.out g e;omega
    ·omega
   ·rcases e with e|e|e
    ·omega
    ·have:=HGG.out k e;omega
    ·have:=Hhi.out;omega
   ·have h2:=HVV.out k hv;rcases e with e|e|e
    ·omega
    ·have:=HGG.out k e;omega
    ·omega
  have hnv:=hN.nv;obtain⟨e1,e2,e3⟩:n1=n.ps.length/\n2=n.ks.length/\n3=n.kd.length:=by
   obtain⟨b1,o1,b2,o2,b3,o3,e⟩:=Hh hnv;simp only[Value.agg.injEq,Array.mk.injEq,List.cons.injEq,Value.slice.injEq]at e;exact⟨e.2.1.2.1,e.2.2.1.2.1,e.2.2.2.1.2.1⟩
  subst e1 e2 e3;have hlf:l=n.leaf:=hN.l;obtain⟨lp,Hlp⟩:∃q,Hid (n.ps.length=q):=⟨_,rfl⟩;obtain⟨lk,Hlk⟩:∃q,Hid (n.ks.length=q):=⟨_,rfl⟩;obtain⟨ld,Hld⟩:∃q,Hid (n.kd.length=q):=⟨_,rfl⟩;rw[Hlp.out,Hlk.out,Hld.out]at HND;rw[Hlp.out,Hlk.out,Hld.out]at hlen;rw[Hlk.out,Hld.out]at hkid;rw[Hlk.out]at HR2;clear hnv hN nb HWK;have HEND:Hid (∀(W:World) (M:Lo),Lm W b r (fun k=>G k\/hi<=k) M->Kp (fun k=>k=b\/G k\/hi<=k) w2 W->Lm W b r (fun k=>G k\/w.heap.size<=k) M/\Kp (fun k=>k=b\/G k) w W):=by
   intro W M h1 h2;have h3:=HGL.out;exact⟨h1.mono (fun k _ e=>by rcases e with e|e;exact .inl e;exact .inr (by omega)),HK2.out.trans h2 (fun _ _ h=>h) (fun k hk e=>by rcases e with e|e|e;exact .inl e;exact .inr e;exact absurd hk (by omega))⟩
  have hm0:∀(W:World),Kp (fun k=>k=b\/G k) w2 W->Kp (fun k=>k=b\/G k\/hi<=k) w2 W:=fun W hk=>hk.mono (fun k _ e=>by rcases e with e|e;exact .inl e;exact .inr (.inl e));have HM0:=hide hm0;clear hm0;cases hct:L.pages.contains z with
  | true =>
   rw[if_pos hct]at HR2;have e1:({ L with k:=L.k+1 }:Lo).meet z={ L with k:=L.k+1 }:=by unfold Lo.meet;rw[show ({ L with k:=L.k+1 }:Lo).pages.contains z=true from hct];rfl
   rw[e1,show ({ L with k:=L.k+1 }:Lo).pages.contains z=true from hct]at HMT;clear e1 hct;go_wp2_with (first
    | (go_at_call 100;refine HMT.out.mono ?_;rintro e w3 ⟨rfl,hL3,hk3⟩)
    | fail)
   go_ret;rw[HR2.out];obtain⟨h1,h2⟩:=HEND.out _ _ hL3 (HM0.out _ hk3);exact⟨rfl,h1,fun h=>(by cases h),h2⟩
  | false =>
   rw[hct]at HR2;have e1:({ L with k:=L.k+1 }:Lo).meet z={ L with k:=L.k+1,pages:=L.pages++[z] }:=by unfold Lo.meet;rw[show ({ L with k:=L.k+1 }:Lo).pages.contains z=false from hct];rfl
   rw[e1,show ({ L with k:=L.k+1 }:Lo).pages.contains z=false from hct]at HMT;simp only[Bool.false_eq_true,if_false]at HR2;clear e1 hct;go_upto_region 4 with (first
    | (go_at_call 100;refine HMT.out.mono ?_;rintro e w3 ⟨rfl,hL3,hk3⟩)
    | fail)
   replace hk3:=HM0.out _ hk3;obtain⟨hnb,hno,hwk⟩:=HND.out _ hk3;have x0:=hnb.c0;have x1:=hnb.c1;have x2:=hnb.c2;have x3:=hnb.c3;clear HMT;rw[<-hlf]at HR2;clear hlf;cases l with
   | true =>
    rw[if_pos rfl]at HR2;have HPB:Hid (∀W:World,Kp (only b) w3 W->Prs W.heap.size W (.slice a1 lp c1) n.ps):=fun W hk=>(hno.p.kept hk (fun k hk' e=>by unfold only at e;have:=(hno.p.lt k hk').1;have:=HGL.out;omega)).prs;have HSL:=hide (FZ b r _ _ (.slice a1 lp c1) n.ps (lv:Int) fr up w3 hL3 hno.p.prs HPB.out);dsimp only at HSL;obtain⟨B,HB⟩:∃q,Hid (leafB n.ps (if L.depth=0 then (lv:Int) else L.depth) (lv:Int) fr up=q):=⟨_,hide rfl⟩;rw[HB.out]at HSL HR2;clear hnb hno hwk;go_wp2_with (first
     | (go_at_call 102;refine HSL.out.mono ?_;rintro e w4 ⟨rfl,hL4,hk4⟩)
     | fail)
    go_ret;rw[HR2.out];obtain⟨h1,h2⟩:=HEND.out _ _ hL4 (hk3.then (hk4.mono (fun k _ e=>.inl e)));exact⟨rfl,h1,fun _=>HOK.out.ok_meet hk1000 z _,h2⟩
   | false =>
    rw[if_neg (by simp)]at HR2;by_cases hlk:lk=0
    ·have hlkb:((lk:Int)==0)=true:=by simp[hlk]
     rw[if_pos hlk]at HR2;clear hnb hno hwk hlk;go_wp2;go_ret;rw[HR2.out];obtain⟨h1,h2⟩:=HEND.out _ _ hL3 hk3;exact⟨rfl,h1,fun h=>(by cases h),h2⟩
    ·have hlkb:((lk:Int)==0)=false:=by rw[beq_eq_false_iff_ne];omega
     rw[if_neg hlk]at HR2;have hok1:=HOK.out.ok_meet hk1000 z L.depth;obtain⟨M0,HM0'⟩:∃q:Lo,Hid (({ L with k:=L.k+1,pages:=L.pages++[z] }:Lo)=q):=⟨_,hide rfl⟩;have hok0:M0.ok:=by rw[<-HM0'.out];exact hok1
     rw[HM0'.out]at hL3 HR2;clear hnb hno hwk hlk hok1;go_upto_region 9 with fail;clear x0 x1 x2 x3;go_loopw [13,14,15,16,50] (fun _ _ _ _ t wr=>∃(i:Nat) (M:Lo),i<=ld/\t=.int .i64 i/\Hid (AF (fun d a b M=>Aq S f d ((lv:Int)+1) a b M) n.ks fr up (n.kd.drop i) i M=R)/\M.ok/\Lm wr b r (fun k=>G k\/hi<=k) M/\Kp (fun k=>k=b\/G k\/hi<=k) w2 wr) (fun _ _ _ _ t _=>ld - (intOf t).toNat)
     case atStart=>exact⟨0,M0,Nat.zero_le _,rfl,HR2.out.symm,hok0,hL3,hk3⟩
     case round =>
      clear hL3 hk3 hok0 HR2;obtain⟨i,M,hi',rfl,HRR,hok,hL,hK⟩:=hrel;obtain⟨hnb,hno,hwk⟩:=HND.out _ hK;have x2:=hnb.c2;have x3:=hnb.c3;by_cases hlt:i<ld
      ·have hlt':(i:Int)<(ld:Int):=by omega
       have hik:i<n.kd.length:=by rw[Hld.out];exact hlt
       obtain⟨a',c',e,_,hcm3,hx⟩:=hno.d.sl;obtain⟨rfl,-,rfl⟩:a3=a'/\ld=n.kd.length/\c3=c':=by simpa using e
       obtain⟨b3,o3,rfl,_,hcd⟩:=hx i hik;clear hx e;have HRR2:=HRR;rw[List.drop_eq_getElem_cons hik]at HRR2;generalize n.kd[i]=d at *;have hLr:Lm wr b r (fun k=>(G k\/hi<=k)/\b<k/\k<wr.heap.size) M:=hL.mono (fun k hk e=>⟨e,by rcases e with e|e;exact(HGG.out k e).1;have:=HGL.out;omega,hk⟩);have hszr:hi<=wr.heap.size:=by have:=hK.size;have:=Hhi.out;omega
       clear HRR hik;by_cases h0:0<i
       ·by_cases h1:i<lk
        ·have hi0':(0:Int)<(i:Int):=by omega
         have hik':(i:Int)<(lk:Int):=by omega
         have hh:i<n.ks.length:=by rw[Hlk.out];exact h1
         rw[AF,if_pos h0,if_pos hh]at HRR2;clear hh;obtain⟨a',c',e,_,hcm2,hx⟩:=hno.k.sl;obtain⟨rfl,-,rfl⟩:a2=a'/\lk=n.ks.length/\c2=c':=by simpa using e
         clear e;obtain⟨i1,Hi1⟩:∃q,Hid (i=q+1):=⟨i - 1,hide (by omega)⟩;have hil:i1<n.ks.length:=by have:=Hi1.out;rw[Hlk.out];omega
         obtain⟨b2,o2,rfl,_,hck⟩:=hx i1 hil;have hkey:n.ks.getD (i - 1) ⟨#[]⟩=n.ks[i1]:=by rw[Hi1.out,Nat.add_sub_cancel,List.getD_eq_getElem?_getD,List.getElem?_eq_getElem hil];rfl
         rw[hkey]at HRR2;clear hkey;generalize n.ks[i1]=y at *;have hiw:(i:Int) - 1=(i1:Int):=by have:=Hi1.out;omega
         have hi1l:(i1:Int)<(lk:Int):=by have:=Hi1.out;omega
         have hi1n:i1<lk:=by have:=Hi1.out;omega
         have hil2:i<n.ks.length:=by rw[Hlk.out];exact h1
         obtain⟨b2',o2',e2,_,hck2⟩:=hx i hil2;cases e2
         have hkey2:n.ks.getD i ⟨#[]⟩=n.ks[i]:=by rw[List.getD_eq_getElem?_getD,List.getElem?_eq_getElem hil2];rfl
         rw[hkey2]at HRR2;clear hkey2;generalize n.ks[i]=y2 at *;clear hx;obtain⟨P,HP⟩:∃q,Hid (Aq S f d ((lv:Int)+1) y y2 M=q):=⟨_,hide rfl⟩;have HRC:=hide (HRec.out d y y2 _ M _ hwk hLr (fun k e=>e.2) hok);rw[HP.out]at HRC HRR2;clear hnb hno hwk hLr h0 h1;go_upto_region 16 with fail;obtain⟨P1,P2⟩:=P;dsimp only at HRR2 HRC;cases P1 with
         | true =>
          rw[if_pos rfl]at HRR2;go_wp2_with (first
           | (go_at_call 71;refine HRC.out.mono ?_;rintro e w8 ⟨rfl,hL8,hok8,hk8⟩)
           | fail)
          go_roundw
          case rel=>exact⟨i+1,P2,by omega,by go_num,HRR2,hok8 (by first|rfl|trivial),hL8.mono (fun k _ e=>by rcases e with e|e;exact e.1;exact .inr (Nat.le_trans hszr e)),hK.then (hk8.mono (fun k _ e=>by rcases e with e|e;exact .inl e;exact .inr e.1))⟩
          case measure=>simp[intOf];omega
         | false =>
          rw[if_neg (by simp)]at HRR2;go_wp2_with (first
           | (go_at_call 71;refine HRC.out.mono ?_;rintro e w8 ⟨rfl,hL8,hok8,hk8⟩)
           | fail)
          go_ret;rw[<-HRR2.out];obtain⟨h1,h2⟩:=HEND.out _ _ (hL8.mono (fun k _ e=>by rcases e with e|e;exact e.1;exact .inr (Nat.le_trans hszr e))) (hK.then (hk8.mono (fun k _ e=>by rcases e with e|e;exact .inl e;exact .inr e.1)));exact⟨rfl,h1,fun h=>(by cases h),h2⟩
        ·have hi0':(0:Int)<(i:Int):=by omega
         have hik':¬(i:Int)<(lk:Int):=by omega
         have hh:¬i<n.ks.length:=by rw[Hlk.out];exact h1
         rw[AF,if_pos h0,if_neg hh]at HRR2;clear hh;obtain⟨a',c',e,_,hcm2,hx⟩:=hno.k.sl;obtain⟨rfl,-,rfl⟩:a2=a'/\lk=n.ks.length/\c2=c':=by simpa using e
         clear e;obtain⟨i1,Hi1⟩:∃q,Hid (i=q+1):=⟨i - 1,hide (by omega)⟩;have hil:i1<n.ks.length:=by have:=Hi1.out;rw[Hlk.out];omega
         obtain⟨b2,o2,rfl,_,hck⟩:=hx i1 hil;have hkey:n.ks.getD (i - 1) ⟨#[]⟩=n.ks[i1]:=by rw[Hi1.out,Nat.add_sub_cancel,List.getD_eq_getElem?_getD,List.getElem?_eq_getElem hil];rfl
         rw[hkey]at HRR2;clear hkey;generalize n.ks[i1]=y at *;have hiw:(i:Int) - 1=(i1:Int):=by have:=Hi1.out;omega
         have hi1l:(i1:Int)<(lk:Int):=by have:=Hi1.out;omega
         have hi1n:i1<lk:=by have:=Hi1.out;omega
         clear hx;obtain⟨P,HP⟩:∃q,Hid (Aq S f d ((lv:Int)+1) y up M=q):=⟨_,hide rfl⟩;have HRC:=hide (HRec.out d y up _ M _ hwk hLr (fun k e=>e.2) hok);rw[HP.out]at HRC HRR2;clear hnb hno hwk hLr h0 h1;go_upto_region 16 with fail;obtain⟨P1,P2⟩:=P;dsimp only at HRR2 HRC;cases P1 with
         | true =>
          rw[if_pos rfl]at HRR2;go_wp2_with (first
           | (go_at_call 71;refine HRC.out.mono ?_;rintro e w8 ⟨rfl,hL8,hok8,hk8⟩)
           | fail)
          go_roundw
          case rel=>exact⟨i+1,P2,by omega,by go_num,HRR2,hok8 (by first|rfl|trivial),hL8.mono (fun k _ e=>by rcases e with e|e;exact e.1;exact .inr (Nat.le_trans hszr e)),hK.then (hk8.mono (fun k _ e=>by rcases e with e|e;exact .inl e;exact .inr e.1))⟩
          case measure=>simp[intOf];omega
         | false =>
          rw[if_neg (by simp)]at HRR2;go_wp2_with (first
           | (go_at_call 71;refine HRC.out.mono ?_;rintro e w8 ⟨rfl,hL8,hok8,hk8⟩)
           | fail)
          go_ret;rw[<-HRR2.out];obtain⟨h1,h2⟩:=HEND.out _ _ (hL8.mono (fun k _ e=>by rcases e with e|e;exact e.1;exact .inr (Nat.le_trans hszr e))) (hK.then (hk8.mono (fun k _ e=>by rcases e with e|e;exact .inl e;exact .inr e.1)));exact⟨rfl,h1,fun h=>(by cases h),h2⟩
       ·by_cases h1:i<lk
        ·have hi0':¬(0:Int)<(i:Int):=by omega
         have hik':(i:Int)<(lk:Int):=by omega
         have hh:i<n.ks.length:=by rw[Hlk.out];exact h1
         rw[AF,if_neg h0,if_pos hh]at HRR2;clear hh;obtain⟨a',c',e,_,hcm2,hx⟩:=hno.k.sl;obtain⟨rfl,-,rfl⟩:a2=a'/\lk=n.ks.length/\c2=c':=by simpa using e
         clear e;have hil2:i<n.ks.length:=by rw[Hlk.out];exact h1
         obtain⟨b2,o2,rfl,_,hck2⟩:=hx i hil2;have hkey2:n.ks.getD i ⟨#[]⟩=n.ks[i]:=by rw[List.getD_eq_getElem?_getD,List.getElem?_eq_getElem hil2];rfl
         rw[hkey2]at HRR2;clear hkey2;generalize n.ks[i]=y2 at *;clear hx;obtain⟨P,HP⟩:∃q,Hid (Aq S f d ((lv:Int)+1) fr y2 M=q):=⟨_,hide rfl⟩;have HRC:=hide (HRec.out d fr y2 _ M _ hwk hLr (fun k e=>e.2) hok);rw[HP.out]at HRC HRR2;clear hnb hno hwk hLr h0 h1;go_upto_region 16 with fail;obtain⟨P1,P2⟩:=P;dsimp only at HRR2 HRC;cases P1 with
         | true =>
          rw[if_pos rfl]at HRR2;go_wp2_with (first
           | (go_at_call 71;refine HRC.out.mono ?_;rintro e w8 ⟨rfl,hL8,hok8,hk8⟩)
           | fail)
          go_roundw
          case rel=>exact⟨i+1,P2,by omega,by go_num,HRR2,hok8 (by first|rfl|trivial),hL8.mono (fun k _ e=>by rcases e with e|e;exact e.1;exact .inr (Nat.le_trans hszr e)),hK.then (hk8.mono (fun k _ e=>by rcases e with e|e;exact .inl e;exact .inr e.1))⟩
          case measure=>simp[intOf];omega
         | false =>
          rw[if_neg (by simp)]at HRR2;go_wp2_with (first
           | (go_at_call 71;refine HRC.out.mono ?_;rintro e w8 ⟨rfl,hL8,hok8,hk8⟩)
           | fail)
          go_ret;rw[<-HRR2.out];obtain⟨h1,h2⟩:=HEND.out _ _ (hL8.mono (fun k _ e=>by rcases e with e|e;exact e.1;exact .inr (Nat.le_trans hszr e))) (hK.then (hk8.mono (fun k _ e=>by rcases e with e|e;exact .inl e;exact .inr e.1)));exact⟨rfl,h1,fun h=>(by cases h),h2⟩
        ·have hi0':¬(0:Int)<(i:Int):=by omega
         have hik':¬(i:Int)<(lk:Int):=by omega
         have hh:¬i<n.ks.length:=by rw[Hlk.out];exact h1
         rw[AF,if_neg h0,if_neg hh]at HRR2;clear hh;obtain⟨P,HP⟩:∃q,Hid (Aq S f d ((lv:Int)+1) fr up M=q):=⟨_,hide rfl⟩;have HRC:=hide (HRec.out d fr up _ M _ hwk hLr (fun k e=>e.2) hok);rw[HP.out]at HRC HRR2;clear hnb hno hwk hLr h0 h1;go_upto_region 16 with fail;obtain⟨P1,P2⟩:=P;dsimp only at HRR2 HRC;cases P1 with
         | true =>
          rw[if_pos rfl]at HRR2;go_wp2_with (first
           | (go_at_call 71;refine HRC.out.mono ?_;rintro e w8 ⟨rfl,hL8,hok8,hk8⟩)
           | fail)
          go_roundw
          case rel=>exact⟨i+1,P2,by omega,by go_num,HRR2,hok8 (by first|rfl|trivial),hL8.mono (fun k _ e=>by rcases e with e|e;exact e.1;exact .inr (Nat.le_trans hszr e)),hK.then (hk8.mono (fun k _ e=>by rcases e with e|e;exact .inl e;exact .inr e.1))⟩
          case measure=>simp[intOf];omega
         | false =>
          rw[if_neg (by simp)]at HRR2;go_wp2_with (first
           | (go_at_call 71;refine HRC.out.mono ?_;rintro e w8 ⟨rfl,hL8,hok8,hk8⟩)
           | fail)
          go_ret;rw[<-HRR2.out];obtain⟨h1,h2⟩:=HEND.out _ _ (hL8.mono (fun k _ e=>by rcases e with e|e;exact e.1;exact .inr (Nat.le_trans hszr e))) (hK.then (hk8.mono (fun k _ e=>by rcases e with e|e;exact .inl e;exact .inr e.1)));exact⟨rfl,h1,fun h=>(by cases h),h2⟩
      ·have hlt':¬(i:Int)<(ld:Int):=by omega
       have HE:Hid (R=(true,M)):=by show _=_;rw[<-HRR.out,List.drop_eq_nil_of_le (by rw[Hld.out];omega),AF]
       clear hnb hno hwk;go_wp2;go_ret;rw[HE.out];obtain⟨h1,h2⟩:=HEND.out _ _ hL hK;exact⟨rfl,h1,fun _=>hok,h2⟩
 ·have hR1:R=(false,{ L with k:=trK S L.k z }):=by
   rw[<-HR.out,Aq,if_neg hE]
  obtain⟨E,HE⟩:∃q,Hid (trE S L.k z (lv:Int)=q):=⟨_,rfl⟩;rw[HE.out]at hE;have hEb:(E != 0)=true:=by simp[hE]
  subst hR1;clear HR;go_enter func71,ntmps71;go_wp2_with (first
   | (go_at_call 68;refine hTW.mono ?_;rintro e w1 ⟨l,a1,n1,c1,a2,n2,c2,a3,n3,c3,rfl,hN,hW1,hk1⟩;rw[HE.out])
   | fail)
  go_ret;have hKA:Kp none' w1 (w1.alloc (.cells #[.bool l,.slice a1 n1 c1,.slice a2 n2 c2,.slice a3 n3 c3] 35)):=Kp.alloc _ _ _;refine⟨rfl,?_,fun h=>(by cases h),(hk1.thenN hKA).mono (fun k _ e=>.inl e)⟩;exact⟨pv,qv,hW1.kept hKA (fun h=>h),(hO.kept hk1 (fun k hk e=>by unfold only at e;have:=(hO.lt k hk).1;omega)).keptN hKA,(hP.kept hk1 (fun k hk e=>by unfold only at e;have:=(hP.lt k hk).1;omega)).keptN hKA,hne,fun k hk=>.inl (hG1 k hk),fun k hk=>.inl (hG2 k hk)⟩
end Go.Proofs.YtgcgacjhkhjhmaaGreatDoor
