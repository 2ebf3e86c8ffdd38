/- Part of the proof: contracts over the turned program. -/
import Derived.Test.YtgcgacjhkhjhmaaGreatDoorX31
import Derived.Test.YtgcgacjhkhjhmaaGreatDoorX14
set_option linter.unusedVariables false
set_option maxHeartbeats 4000000
open Go.Proofs.Tryz
namespace Go.Proofs.YtgcgacjhkhjhmaaGreatDoor
open Go Go.RowKit
theorem Jw(S:Sw)(l:List (Int × Nd))(j:Nat)(h:j<l.length):writeL S (l.take (j+1))=(writeL S (l.take j)).write l[j].1 l[j].2.write:=by
 unfold writeL;rw[List.take_succ_eq_append_getElem h,List.foldl_append];rfl
theorem Nd.write_small(n:Nd):n.write.size<=256:=by
 unfold Nd.write;split
 ·rename_i h;show n.page.toArray.size<=256;rw[List.size_toArray,CO h];exact Nat.le_refl _
 ·show ([]:List UInt8).toArray.size<=256;simp
def AT(l:List (Int × Nd))(n j:Nat):List ByteArray:=(l.take j).map (fun p=>p.2.write)++List.replicate (n - j) ByteArray.empty
theorem Id(l:List (Int × Nd))(j:Nat)(h:j<l.length):(AT l l.length j).set j l[j].2.write=AT l l.length (j+1):=by
 unfold AT;have e1:((l.take j).map (fun p=>p.2.write)).length=j:=by rw[List.length_map,List.length_take];omega
 rw[List.set_append_right _ _ (by omega),e1,Nat.sub_self,List.take_succ_eq_append_getElem h,List.map_append,List.append_assoc];congr 1;obtain⟨k,hk⟩:∃k,l.length - j=k+1:=⟨l.length - j - 1,by omega⟩;rw[hk,List.replicate_succ,Qb,show l.length - (j+1)=k by omega];rfl
theorem Jv(l:List (Int × Nd))(j:Nat)(h:j<l.length):(AT l l.length l.length).length=l.length/\(AT l l.length l.length)[j]?=some l[j].2.write:=by
 unfold AT;rw[List.take_length,Nat.sub_self,List.replicate_zero,List.append_nil];exact⟨List.length_map _,by rw[List.getElem?_map,List.getElem?_eq_getElem h];rfl⟩
set_option maxRecDepth 100000 in
theorem JK(b r c m:Nat)(o:Nat->Nat)(V:Nat->Prop)(C:Cg)(wv tv sv:Value)(xs:List SpV)(w:World)(hC:Cm w b r o C wv tv sv xs)(hWk:Wk w r V c m C.S)(hV:∀k,V k->o k=5/\k<w.heap.size)(hm:m<=2000)(hl:C.ws.length<=500)(hs:C.sp.length<=500)(hsm:∀p∈C.ws,p.2.ps.length<=1000000/\p.2.ks.length<=1000000) :
  Calls prog 66 #[.pointer (some ⟨b,0,none⟩)] w fun e w'=>e=.returned (.int .i64 C.commitE)/\Wk w' r (fun k=>V k\/w.heap.size<=k) c (m+1000) C.commitS/\Kp V w w':=by
 have HTA:=hide (Jo b r o C wv tv sv xs w hC (by omega) (by omega));obtain⟨wa,wc,ewv⟩:∃a c,wv=.slice a xs.length c:=by
  rcases hC.ws.2 with ⟨rfl,h0⟩|⟨g,cap,cur,rfl,_⟩
  ·exact⟨none,0,by rw[h0]⟩
  ·exact⟨_,_,rfl⟩
 subst ewv;have hnV:∀k,o k<=4->¬V k:=fun k e e'=>by have:=(hV k e').1;omega
 have HB0:Hid (∀W,Kp V w W->W.cell? ⟨b,0,none⟩=some (.pointer (some ⟨r,0,none⟩))):=fun W hk=>hk.cell hC.hd.c0 (hnV b (by rw[hC.ob];omega));have HB2:Hid (∀W,Kp V w W->W.cell? ⟨b,2,none⟩=some (.slice wa xs.length wc)):=fun W hk=>hk.cell (hC.hd.cx 0) (hnV b (by rw[hC.ob];omega));have HB4:Hid (∀W,Kp V w W->W.cell? ⟨b,4,none⟩=some sv):=fun W hk=>hk.cell (hC.hd.cx 2) (hnV b (by rw[hC.ob];omega))
 have HCW:Hid (∀j (h:j<xs.length) W,Kp V w W->∃gw,wa=some ⟨gw,0,none⟩/\∀t u,(xs[j].cells)[t]?=some u->W.cell? ⟨gw,j*7+t,none⟩=some u):=by
  intro j h W hk;have hr:=hC.ws;have hwo:=hC.wo;rcases hr.2 with ⟨e,h0⟩|⟨gw,cap,cur,e,_⟩
  ·omega
  ·have e':wa=some ⟨gw,0,none⟩/\wc=cap:=by simp only[Value.slice.injEq]at e;exact⟨e.1,e.2.2⟩
   obtain⟨rfl,rfl⟩:=e';exact⟨gw,rfl,fun t u hu=>hk.cell (row_step hr j h t u hu).1 (hnV gw (by rw[hwo gw rfl];omega))⟩
 have HND:Hid (∀j (h:j<xs.length) (h':j<C.ws.length) W,Kp none' w W->Nv W.heap.size W xs[j].node C.ws[j].2/\xs[j].pg=C.ws[j].1):=fun j h h' W hk=>⟨(hC.wi j h h').nd.keptO hk (fun _ _ h=>h),(hC.wi j h h').pg⟩;have HPG:Hid (∀j (h:j<xs.length) (h':j<C.ws.length),xs[j].pg=C.ws[j].1):=fun j h h'=>(hC.wi j h h').pg;obtain⟨sa,sc,esv,hscell⟩:=hC.sp.open;have HSC:Hid (∀j (h:j<C.sp.length) (W:World),Kp V w W->∃g,sa=some ⟨g,0,none⟩/\W.cell? ⟨g,j,none⟩=some (.int .i64 C.sp[j])):=by
  intro j h W hk;obtain⟨g,hta,_,hc⟩:=hscell j h;exact⟨g,hta,hk.cell hc (hnV g (by rw[hC.so g (by rw[esv,hta];rfl)];omega))⟩
 have HWL:=hide hC.wl;have HV:=hide hV;subst esv;obtain⟨lw,Hlw⟩:∃q,Hid (xs.length=q):=⟨_,hide rfl⟩;obtain⟨ls,Hls⟩:∃q,Hid (C.sp.length=q):=⟨_,hide rfl⟩;rw[Hls.out]at HB4;rw[Hlw.out]at HB2;have hlw6:lw<=500:=by have:=HWL.out;have:=Hlw.out;omega
 have hls6:ls<=500:=by have:=Hls.out;omega
 have HWK:=hide hWk;have HM:=hide hm;have HSM:=hide hsm;obtain⟨tg,Htg⟩:∃q,Hid (C.tangled=q):=⟨_,hide rfl⟩;rw[Htg.out]at HTA;clear hC hWk hV hnV hm hl hs hsm hscell;cases tg with
 | true =>
  have HE:Hid (C.commitE=10):=by show _=_;unfold Cg.commitE;rw[Htg.out];rfl
  have HES:Hid (C.commitS=C.S):=by show _=_;unfold Cg.commitS;rw[HE.out];rfl
  go_enter func66,ntmps66;go_wp2_with (first
   | (go_at_call 96;refine HTA.out.mono ?_;rintro e w1 ⟨rfl,hk1⟩)
   | fail)
  go_ret;rw[HE.out,HES.out];exact⟨rfl,(HWK.out.keptN hk1).mono (fun _ _ h=>.inl h) (by omega),hk1.mono (fun _ _ h=>by cases h)⟩
 | false =>
  go_enter func66,ntmps66;go_upto_region 3 with (first
   | (go_at_call 96;refine HTA.out.mono ?_;rintro e w1 ⟨rfl,hk1⟩)
   | fail)
  have q2:=HB2.out w1 (hk1.mono (fun _ _ h=>by cases h));obtain⟨w2,hmk,hO2,hk2⟩:=Eg w1 lw (by omega);have HK2:=hide (hk1.thenN hk2);obtain⟨gp,Hgp⟩:∃q,Hid (w1.heap.size=q):=⟨_,hide rfl⟩;have HGPW:Hid (w.heap.size<=gp):=by show _<=_;rw[<-Hgp.out];exact hk1.size
  rw[Hgp.out]at hmk hO2;have HO2:=hide hO2;clear hO2 hk2 hk1;go_upto_region 4 with fail;clear hmk q2;have hNV:∀W,Kp none' w W->Kp V w W:=fun W h=>h.mono (fun _ _ h=>by cases h);have q2:=HB2.out w2 (hNV _ HK2.out);have HNV:=hide hNV;clear hNV;go_upto_region 5 with fail;clear q2
  go_loopw [4,5,6,7,25] (fun _ _ _ _ t25 wr=>∃j:Nat,j<=lw/\t25=.int .i64 j/\Hid (Ow Value.string 9 wr gp (.slice (some ⟨gp,0,none⟩) lw lw) (AT C.ws C.ws.length j))/\Hid (Kp none' w wr)/\Hid (∀p∈C.ws.take j,p.2.writeE=0)) (fun _ _ _ _ t25 _=>lw - (intOf t25).toNat)
  case atStart=>exact⟨0,Nat.zero_le _,rfl,by unfold AT;rw[List.take_zero,List.map_nil,List.nil_append,Nat.sub_zero,<-HWL.out,Hlw.out];exact HO2,HK2,hide (fun p hp=>by simp at hp)⟩
  case round =>
   obtain⟨j,hj,rfl,HO,HK,HALL⟩:=hrel;by_cases hlt:j<lw
   ·have hlt':(j:Int)<(lw:Int):=by omega
    have hjx:j<xs.length:=by rw[Hlw.out];exact hlt
    have hjc:j<C.ws.length:=by rw[<-HWL.out];exact hjx
    obtain⟨gw,rfl,hcell⟩:=HCW.out j hjx wr (HNV.out _ HK.out);have hND:=(HND.out j hjx hjc wr HK.out).1;have HWN:=hide (Id C.ws j hjc);have HTK:=hide (show C.ws.take (j+1)=C.ws.take j++[C.ws[j]] from List.take_succ_eq_append_getElem hjc);have HMEM:=hide (List.getElem_mem hjc);generalize C.ws[j]=p at *;generalize xs[j]=x at *;have y0:=hcell 0 _ rfl;have y1:=hcell 1 _ rfl;have y2:=hcell 2 _ rfl;have y3:=hcell 3 _ rfl;have y4:=hcell 4 _ rfl;have y5:=hcell 5 _ rfl;have y6:=hcell 6 _ rfl
    rw[Nat.add_zero]at y0;have hka:Kp none' wr (wr.alloc (.cells #[.int .i64 x.pg,.bool x.l,.slice x.a1 x.n1 x.c1,.slice x.a2 x.n2 x.c2,.slice x.a3 x.n3 x.c3,.int .i64 x.kid,.int .i64 x.was] 85)):=Kp.alloc _ _ _;have cell:=Am wr #[.int .i64 x.pg,.bool x.l,.slice x.a1 x.n1 x.c1,.slice x.a2 x.n2 x.c2,.slice x.a3 x.n3 x.c3,.int .i64 x.kid,.int .i64 x.was] 85;have z1:=cell 1 _ rfl
    have z2:(wr.alloc (.cells #[.int .i64 x.pg,.bool x.l,.slice x.a1 x.n1 x.c1,.slice x.a2 x.n2 x.c2,.slice x.a3 x.n3 x.c3,.int .i64 x.kid,.int .i64 x.was] 85)).cell? ⟨wr.heap.size,1+1,none⟩=some (.slice x.a1 x.n1 x.c1):=cell 2 _ rfl;have z3:(wr.alloc (.cells #[.int .i64 x.pg,.bool x.l,.slice x.a1 x.n1 x.c1,.slice x.a2 x.n2 x.c2,.slice x.a3 x.n3 x.c3,.int .i64 x.kid,.int .i64 x.was] 85)).cell? ⟨wr.heap.size,1+2,none⟩=some (.slice x.a2 x.n2 x.c2):=cell 3 _ rfl
    have z4:(wr.alloc (.cells #[.int .i64 x.pg,.bool x.l,.slice x.a1 x.n1 x.c1,.slice x.a2 x.n2 x.c2,.slice x.a3 x.n3 x.c3,.int .i64 x.kid,.int .i64 x.was] 85)).cell? ⟨wr.heap.size,1+3,none⟩=some (.slice x.a3 x.n3 x.c3):=cell 4 _ rfl;have HNQ:=hide (hND.keptO hka (fun _ _ h=>h));have HOQ:=hide (HO.out.keptN hka);have HKQ:=hide (HK.out.thenN hka);clear hcell hjx hjc hND cell;go_upto_region 7 with fail;clear hka y0 y1 y2 y3 y4 y5 y6
    generalize wr.alloc (.cells #[.int .i64 x.pg,.bool x.l,.slice x.a1 x.n1 x.c1,.slice x.a2 x.n2 x.c2,.slice x.a3 x.n3 x.c3,.int .i64 x.kid,.int .i64 x.was] 85)=wq at *;obtain⟨gs,Hgs⟩:∃q,Hid (wr.heap.size=q):=⟨_,hide rfl⟩;rw[Hgs.out]at z1 z2 z3 z4 |-;have HWR:=hide (Dm x.node p.2 _ wq HNQ.out (Nat.le_refl _) (by have:=(HSM.out p HMEM.out).1;omega) (by have:=(HSM.out p HMEM.out).2;omega));unfold SpV.node at HWR;obtain⟨jw,Hjw⟩:∃q,Hid (p.2.write=q):=⟨_,hide rfl⟩
    obtain⟨je,Hje⟩:∃q,Hid (p.2.writeE=q):=⟨_,hide rfl⟩;rw[Hjw.out,Hje.out]at HWR;rw[Hjw.out]at HWN;by_cases hE:je=0
    ·have hEb:(je != 0)=false:=by rw[hE];rfl
     have HE0:Hid (p.2.writeE=0):=by show _=_;rw[Hje.out];exact hE
     clear hE;go_upto_region 10 with (first
      | (go_at_call 7;refine HWR.out.mono ?_;rintro e w5 ⟨rfl,hk5⟩)
      | fail)
     have hO5:=HOQ.out.keptN hk5;obtain⟨cur,hcur,hfz⟩:∃u,w5.cell? ⟨gp,j,none⟩=some u/\w5.frozen? ⟨gp,j,none⟩=false:=by
      have hlen:(AT C.ws C.ws.length j).length=lw:=by
       have:=hO5.1;rcases hO5.2 with ⟨e,_⟩|⟨g',cap',cur,e,_⟩
       ·cases e
       ·have e':lw=(AT C.ws C.ws.length j).length:=by simp only[Value.slice.injEq]at e;exact e.2.1
        exact e'.symm
      have hr:w5.ownsRow gp 9 1 (.slice (some ⟨gp,0,none⟩) lw lw) lw ((AT C.ws C.ws.length j).map Value.string):=by have:=hO5;unfold Ow at this;rw[hlen]at this;exact this
      have hjl:j<(AT C.ws C.ws.length j).length:=by rw[hlen];exact hlt
      have:=AO hr j (.string (AT C.ws C.ws.length j)[j]) (by rw[List.getElem?_map,List.getElem?_eq_getElem hjl];rfl);exact⟨_,this.1,this.2⟩
     have hst:=hO5.stored j jw;rw[HWN.out]at hst;have HST:Hid (Ow Value.string 9 (w5.setCell ⟨gp,j,none⟩ (.string jw)) gp (.slice (some ⟨gp,0,none⟩) lw lw) (AT C.ws C.ws.length (j+1))/\Kp none' w (w5.setCell ⟨gp,j,none⟩ (.string jw))):=⟨hst.1,(HKQ.out.thenN hk5).trans (Kp.setCell (S:=only gp) _ _ _ _ rfl) (fun _ _ h=>h) (fun k h e=>by unfold only at e;have:=HGPW.out;omega)⟩;clear hst hO5;go_wp2;go_roundw
     case rel=>exact⟨j+1,by omega,by go_num,hide HST.out.1,hide HST.out.2,hide (fun q hq=>by rw[HTK.out]at hq;rcases List.mem_append.1 hq with e|e;exact HALL.out q e;(rw[List.mem_singleton.1 e];exact HE0.out))⟩
     case measure=>simp[intOf];omega
    ·have hEb:(je != 0)=true:=by rw[bne_iff_ne];exact hE
     have HE:Hid (C.commitE=10):=by
      show _=_;unfold Cg.commitE;rw[Htg.out,if_neg (by simp),if_neg];intro h;have:=List.all_eq_true.1 h p HMEM.out;rw[Hje.out]at this;exact hE (by simpa using this)
     have HES:Hid (C.commitS=C.S):=by show _=_;unfold Cg.commitS;rw[HE.out];rfl
     clear hE;go_wp2_with (first
      | (go_at_call 7;refine HWR.out.mono ?_;rintro e w5 ⟨rfl,hk5⟩)
      | fail)
     go_ret;rw[HE.out,HES.out];have hk:=HKQ.out.thenN hk5;exact⟨rfl,(HWK.out.keptN hk).mono (fun _ _ h=>.inl h) (by omega),hk.mono (fun _ _ h=>by cases h)⟩
   ·have hlt':¬(j:Int)<(lw:Int):=by omega
    have hjl:C.ws.length=j:=by have:=HWL.out;have:=Hlw.out;omega
    have HE:Hid (C.commitE=0):=by
     show _=_;unfold Cg.commitE;rw[Htg.out,if_neg (by simp),if_pos];rw[List.all_eq_true];intro p hp;have:=HALL.out p (by rw[<-hjl,List.take_length];exact hp);rw[this];rfl
    have HES:Hid (C.commitS=dropL (writeL C.S C.ws) C.sp):=by show _=_;unfold Cg.commitS;rw[if_pos HE.out]
    have HOF:Hid (Ow Value.string 9 wr gp (.slice (some ⟨gp,0,none⟩) lw lw) (AT C.ws C.ws.length C.ws.length)):=by have:=HO.out;rw[<-hjl]at this;exact this
    have q2:=HB2.out wr (HNV.out _ HK.out);obtain⟨hi,Hhi⟩:∃q,Hid (wr.heap.size=q):=⟨_,hide rfl⟩;have HGH:Hid (gp<hi):=by show _<_;rw[<-Hhi.out];exact(HO.out.lt gp rfl).2
    clear hjl HO HALL;go_upto_region 13 with fail;clear q2;obtain⟨w6,rfl⟩:∃q,q=wr:=⟨_,rfl⟩;go_loopw [8,9,48] (fun _ _ t48 wr'=>∃j:Nat,j<=lw/\t48=.int .i64 j/\Hid (Wk wr' r (fun k=>V k\/hi<=k) c (m+j) (writeL C.S (C.ws.take j)))/\Hid (Kp V w6 wr')) (fun _ _ t48 _=>lw - (intOf t48).toNat)
    case atStart=>exact⟨0,Nat.zero_le _,rfl,hide (by rw[List.take_zero];exact(HWK.out.keptN HK.out).mono (fun _ _ h=>.inl h) (Nat.le_refl _)),hide (Kp.refl _ _)⟩
    case round =>
     obtain⟨j,hj,rfl,HW,HKW⟩:=hrel;have hKV:Kp V w wr:=(HNV.out _ HK.out).then HKW.out;by_cases hlt:j<lw
     ·have hlt':(j:Int)<(lw:Int):=by omega
      have hjx:j<xs.length:=by rw[Hlw.out];exact hlt
      have hjc:j<C.ws.length:=by rw[<-HWL.out];exact hjx
      obtain⟨gw,rfl,hcell⟩:=HCW.out j hjx wr hKV;have hpg:=HPG.out j hjx hjc;have hbyt:=Jv C.ws j hjc;have hgc:wr.cell? ⟨gp,j,none⟩=some (.string C.ws[j].2.write):=by
       have hr:w6.ownsRow gp 9 1 (.slice (some ⟨gp,0,none⟩) lw lw) lw ((AT C.ws C.ws.length C.ws.length).map Value.string):=by
        have h0:(AT C.ws C.ws.length C.ws.length).length=lw:=by rw[hbyt.1,<-HWL.out,Hlw.out]
        have:=HOF.out;unfold Ow at this;rw[h0]at this;exact this
       have:=(AO hr j (.string C.ws[j].2.write) (by rw[List.getElem?_map,hbyt.2];rfl)).1;exact HKW.out.cell this (fun e=>by have:=(HV.out gp e).2;have:=HGPW.out;omega)
      have HWN:=hide (Jw C.S C.ws j hjc);have hsz:=C.ws[j].2.write_small;generalize C.ws[j]=p at *;generalize xs[j]=x at *;have y0:=hcell 0 _ rfl;have y1:=hcell 1 _ rfl;have y2:=hcell 2 _ rfl;have y3:=hcell 3 _ rfl;have y4:=hcell 4 _ rfl;have y5:=hcell 5 _ rfl;have y6:=hcell 6 _ rfl;rw[Nat.add_zero]at y0;obtain⟨jw,Hjw⟩:∃q,Hid (p.2.write=q):=⟨_,hide rfl⟩;rw[Hjw.out]at hgc hsz HWN;obtain⟨T,HT⟩:∃q,Hid (writeL C.S (C.ws.take j)=q):=⟨_,hide rfl⟩;rw[HT.out]at HW HWN
      have hka:Kp none' wr (wr.alloc (.cells #[.int .i64 x.pg,.bool x.l,.slice x.a1 x.n1 x.c1,.slice x.a2 x.n2 x.c2,.slice x.a3 x.n3 x.c3,.int .i64 x.kid,.int .i64 x.was] 85)):=Kp.alloc _ _ _;have z0:=Am wr #[.int .i64 x.pg,.bool x.l,.slice x.a1 x.n1 x.c1,.slice x.a2 x.n2 x.c2,.slice x.a3 x.n3 x.c3,.int .i64 x.kid,.int .i64 x.was] 85 0 _ rfl;have z9:=hka.cell hgc (fun h=>h);have zB:=HB0.out _ (hKV.thenN hka);have HPG2:=hide hpg;have HKQ:=hide (HKW.out.thenN hka);have HWQ:=hide (HW.out.keptN hka)
      clear hcell hjx hjc hbyt hgc hpg hKV;go_upto_region 15 with fail;clear hka y0 y1 y2 y3 y4 y5 y6;generalize wr.alloc (.cells #[.int .i64 x.pg,.bool x.l,.slice x.a1 x.n1 x.c1,.slice x.a2 x.n2 x.c2,.slice x.a3 x.n3 x.c3,.int .i64 x.kid,.int .i64 x.was] 85)=wq at *;obtain⟨gs,Hgs⟩:∃q,Hid (wr.heap.size=q):=⟨_,hide rfl⟩;rw[Hgs.out]at z0 |-;have dr:Kp none' wq wq.drew:=Kp.drew _ _;have d0:=dr.cell z0 (fun h=>h);have d9:=dr.cell z9 (fun h=>h);have dB:=dr.cell zB (fun h=>h)
      have HSW:Hid (∀W,Kp none' wq W->Calls prog 8 #[.pointer (some ⟨r,0,none⟩),.int .i64 x.pg,.string jw] W fun e w'=>∃ee,e=.returned (.int .i64 ee)/\Wk w' r (fun k=>V k\/hi<=k) c (m+(j+1)) (T.write p.1 jw)/\Kp V w6 w'):=by
       intro W hk;refine(FR r x.pg jw _ c (m+j) T W (HWQ.out.keptN hk) (by have:=HM.out;omega) (by omega)).mono ?_;rintro e w' ⟨rfl,h1,h2⟩;have hs6:hi<=W.heap.size:=by have:=(HKQ.out.thenN hk).size;have:=Hhi.out;omega
       rw[HPG2.out]at h1;exact⟨_,rfl,h1.mono (fun k _ e=>by rcases e with e|e;exact e;exact .inr (Nat.le_trans hs6 e)) (by omega),(HKQ.out.thenN hk).trans h2 (fun _ _ h=>h) (fun k h e=>by rcases e with e|e;exact e;exact absurd h (by have:=Hhi.out;omega))⟩
      go_region_law (first
       | (go_simp;go_at_call 8;refine(HSW.out _ (by first|assumption|exact dr)).mono ?_;rintro e w7 ⟨ee,rfl,hW7,hk7⟩)
       | fail)
      all_goals (
       go_wp2;go_roundw
       case rel=>exact⟨j+1,by omega,by go_num,hide (by rw[HWN.out];exact hW7),hide hk7⟩
       case measure=>simp[intOf];omega)
     ·have hlt':¬(j:Int)<(lw:Int):=by omega
      have HWF:Hid (Wk wr r (fun k=>V k\/hi<=k) c (m+lw) (writeL C.S C.ws)):=by
       have:=HW.out;rw[List.take_of_length_le (by have:=HWL.out;have:=Hlw.out;omega)]at this;exact this.mono (fun _ _ h=>h) (by omega)
      have q4:=HB4.out wr hKV;have HKV:=hide hKV;have HS7:Hid (hi<=wr.heap.size):=by show _<=_;rw[<-Hhi.out];exact HKW.out.size
      clear hKV HW HKW;go_upto_region 18 with fail;clear q4;obtain⟨w7,rfl⟩:∃q,q=wr:=⟨_,rfl⟩;go_loopw [11,71] (fun _ t71 wr'=>∃j:Nat,j<=ls/\t71=.int .i64 j/\Hid (Wk wr' r (fun k=>V k\/hi<=k) c (m+lw+j) (dropL (writeL C.S C.ws) (C.sp.take j)))/\Hid (Kp V w wr')/\Hid (hi<=wr'.heap.size)) (fun _ t71 _=>ls - (intOf t71).toNat)
      case atStart=>exact⟨0,Nat.zero_le _,rfl,hide (by rw[List.take_zero];exact HWF.out),HKV,HS7⟩
      case round =>
       obtain⟨j,hj,rfl,HW,HKW,HSZ⟩:=hrel;by_cases hlt:j<ls
       ·have hlt':(j:Int)<(ls:Int):=by omega
        have hjl:j<C.sp.length:=by rw[Hls.out];exact hlt
        obtain⟨g,rfl,hc⟩:=HSC.out j hjl wr HKW.out;have q0:=HB0.out wr HKW.out;have HDS:=hide (E6 (writeL C.S C.ws) C.sp j hjl);generalize C.sp[j]=z at *;have HD:=hide (Gw r z _ c (m+lw+j) _ wr HW.out (by have:=HM.out;omega));obtain⟨T,HT⟩:∃q,Hid (dropL (writeL C.S C.ws) (C.sp.take j)=q):=⟨_,hide rfl⟩;rw[HT.out]at HD HDS;clear hjl;go_wp2_with (first
         | (go_at_call 97;refine HD.out.mono ?_;rintro e w5 ⟨rfl,hWk5,hk5⟩)
         | fail)
        go_roundw
        case rel=>exact⟨j+1,by omega,by go_num,hide (by rw[HDS.out];exact hWk5.mono (fun k _ e=>by rcases e with e|e;exact e;exact .inr (Nat.le_trans HSZ.out e)) (by omega)),hide (HKW.out.trans hk5 (fun _ _ h=>h) (fun k hk e=>by rcases e with e|e;exact e;exact absurd hk (by have:=HGPW.out;have:=HGH.out;have:=HSZ.out;omega))),hide (Nat.le_trans HSZ.out hk5.size)⟩
        case measure=>simp[intOf];omega
       ·have hlt':¬(j:Int)<(ls:Int):=by omega
        have HWE:Hid (Wk wr r (fun k=>V k\/hi<=k) c (m+lw+j) C.commitS):=by
         have:=HW.out;rw[List.take_of_length_le (by have:=Hls.out;omega),<-HES.out]at this;exact this
        go_wp2;go_ret;rw[HE.out];have h1:=HGPW.out;have h2:=HGH.out;exact⟨rfl,HWE.out.mono (fun k _ e=>by rcases e with e|e;exact .inl e;exact .inr (by omega)) (by omega),HKW.out⟩
end Go.Proofs.YtgcgacjhkhjhmaaGreatDoor
