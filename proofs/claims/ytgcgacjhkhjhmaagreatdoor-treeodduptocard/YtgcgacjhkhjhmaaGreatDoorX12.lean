/- Part of the proof: contracts over the turned program. -/
import Derived.Test.YtgcgacjhkhjhmaaGreatDoorX11
set_option linter.unusedVariables false
set_option maxHeartbeats 4000000
open Go.Proofs.Tryz
namespace Go.Proofs.YtgcgacjhkhjhmaaGreatDoor
open Go Go.RowKit
set_option maxRecDepth 100000 in
theorem G7(x:Value)(n:Nd)(B:Nat)(w:World)(hN:Nv B w x n)(hB:B<=w.heap.size)(hl:n.leaf=false)(h3:3<=n.ks.length)(hkl:n.kd.length=n.ks.length+1)(hp:n.ks.length<=1048576)(hsz:n.size<=4194304) :
  Calls prog 152 #[x] w fun e w'=>∃y z,e=.returned (.tuple #[y,z,.string n.mid])/\Nv w'.heap.size w' y n.fst/\Nv w'.heap.size w' z n.snd/\Kp none' w w'/\FrV w.heap.size w'.heap.size y/\FrV w.heap.size w'.heap.size z:=by
 have HPA:n.parts=true:=by unfold Nd.parts;simp[hl,h3,hkl]
 have HF:Hid (n.fst=⟨false,[],n.ks.take n.at_,n.kd.take (n.at_+1)⟩):=by show _=_;unfold Nd.fst;rw[HPA];simp[hl]
 have HS:Hid (n.snd=⟨false,[],n.ks.drop (n.at_+1),n.kd.drop (n.at_+1)⟩):=by show _=_;unfold Nd.snd;rw[HPA];simp[hl]
 have HM:Hid (n.mid=n.ks.getD n.at_ ⟨#[]⟩):=by show _=_;unfold Nd.mid;rw[HPA];simp[hl]
 have HSUM:n.size=4+(n.ks.map kSize).sum:=by unfold Nd.size;simp[hl]
 have HAT:splG (fun j=>kSize (n.ks.getD j ⟨#[]⟩)) (n.ks.map kSize).sum (n.ks.length - 2) n.ks.length 1 (kSize (n.ks.getD 0 ⟨#[]⟩))=n.at_:=by
  unfold Nd.at_;rw[hl,HSUM,Nat.add_sub_cancel_left];rfl
 obtain⟨h1,hlt,_,_⟩:=EY hl h3;rw[HF.out,HS.out,HM.out];have hwk:=hN.wf.k;have hwd:=hN.wf.d;obtain⟨⟨pv,kv,dv,rfl,hP,hS,hD⟩,hwf⟩:=hN;obtain⟨A,HA⟩:∃q,Hid (n.at_=q):=⟨_,rfl⟩;rw[HA.out]at HAT hlt |-;obtain⟨key,HK⟩:∃q,Hid (n.ks.getD A ⟨#[]⟩=q):=⟨_,rfl⟩;rw[HK.out];have hkey:n.ks[A]'(by omega)=key:=by rw[<-HK.out,List.getD_eq_getElem?_getD,List.getElem?_eq_getElem (by omega)];rfl
 obtain⟨a1,c1,e1,_⟩:=id hP;obtain⟨a2,c2,e2,_⟩:=id hS;obtain⟨a3,c3,e3,_⟩:=id hD;subst e1 e2 e3;rw[hl];have nb:=((Nb.new w false (.slice a1 n.ps.length c1) (.slice a2 n.ks.length c2) (.slice a3 n.kd.length c3)).kept (Kp.alloc none' _ (.cells #[.bool false,.slice none 0 0,.slice none 0 0,.slice none 0 0] 35)) (fun h=>h)).kept (Kp.alloc none' _ (.cells #[.bool false,.slice none 0 0,.slice none 0 0,.slice none 0 0] 35)) (fun h=>h)
 have n2:=(Nb.new (w.alloc (.cells #[.bool false,.slice a1 n.ps.length c1,.slice a2 n.ks.length c2,.slice a3 n.kd.length c3] 35)) false (.slice none 0 0) (.slice none 0 0) (.slice none 0 0)).kept (Kp.alloc none' _ (.cells #[.bool false,.slice none 0 0,.slice none 0 0,.slice none 0 0] 35)) (fun h=>h)
 have n3:=Nb.new ((w.alloc (.cells #[.bool false,.slice a1 n.ps.length c1,.slice a2 n.ks.length c2,.slice a3 n.kd.length c3] 35)).alloc (.cells #[.bool false,.slice none 0 0,.slice none 0 0,.slice none 0 0] 35)) false (.slice none 0 0) (.slice none 0 0) (.slice none 0 0);rw[show (w.alloc (.cells #[.bool false,.slice a1 n.ps.length c1,.slice a2 n.ks.length c2,.slice a3 n.kd.length c3] 35)).heap.size=w.heap.size+1 by simp]at n2
 rw[show ((w.alloc (.cells #[.bool false,.slice a1 n.ps.length c1,.slice a2 n.ks.length c2,.slice a3 n.kd.length c3] 35)).alloc (.cells #[.bool false,.slice none 0 0,.slice none 0 0,.slice none 0 0] 35)).heap.size=w.heap.size+1+1 by simp]at n3
 have hK0:Kp none' w (((w.alloc (.cells #[.bool false,.slice a1 n.ps.length c1,.slice a2 n.ks.length c2,.slice a3 n.kd.length c3] 35)).alloc (.cells #[.bool false,.slice none 0 0,.slice none 0 0,.slice none 0 0] 35)).alloc (.cells #[.bool false,.slice none 0 0,.slice none 0 0,.slice none 0 0] 35)):=((Kp.alloc _ _ _).thenN (Kp.alloc _ _ _)).thenN (Kp.alloc _ _ _)
 have HSL:Hid (∀W:World,Kp none' w W->Calls prog 175 #[.slice a2 n.ks.length c2,.slice a3 n.kd.length c3] W fun e w'=>∃a m c a2 m2 c2 a' m' c' a2' m2' c2',e=.returned (.tuple #[.agg #[.bool false,.slice none 0 0,.slice a m c,.slice a2 m2 c2],.agg #[.bool false,.slice none 0 0,.slice a' m' c',.slice a2' m2' c2'],.string key]) /\
   Ow Value.string 9 w' W.heap.size (.slice a m c) (n.ks.take A)/\Ow (Value.int .i64) 3 w' W.heap.size (.slice a2 m2 c2) (n.kd.take (A+1))/\Ow Value.string 9 w' W.heap.size (.slice a' m' c') (n.ks.drop (A+1))/\Ow (Value.int .i64) 3 w' W.heap.size (.slice a2' m2' c2') (n.kd.drop (A+1))/\Kp none' W w'):=fun W hk=>FN _ _ n.ks n.kd B W (hS.keptN hk) (hD.keptN hk) (Nat.le_trans hB hk.size) h3 hkl (by omega) (by omega) A HAT hlt key hkey
 have h3i:(3:Int)<=(n.ks.length:Int):=by omega
 have hq':((n.kd.length:Int)==wrap64 ((n.ks.length:Int)+1))=true:=by rw[beq_iff_eq];unfold wrap64;omega
 have HW1:Hid (∀k∈n.ks.take A,k.size<=maxLen):=fun p hp=>hwk p (List.mem_of_mem_take hp);have HW2:Hid (∀z∈n.kd.take (A+1),-9223372036854775808<=z/\z<9223372036854775808):=fun p hp=>hwd p (List.mem_of_mem_take hp);have HW3:Hid (∀k∈n.ks.drop (A+1),k.size<=maxLen):=fun p hp=>hwk p (List.mem_of_mem_drop hp);have HW4:Hid (∀z∈n.kd.drop (A+1),-9223372036854775808<=z/\z<9223372036854775808):=fun p hp=>hwd p (List.mem_of_mem_drop hp);clear hP hS hD hwf hkey HAT hwk hwd hsz hp HSUM HPA hkl
 go_enter func152,ntmps152;go_upto_region 1 with fail;generalize ((w.alloc (.cells #[.bool false,.slice a1 n.ps.length c1,.slice a2 n.ks.length c2,.slice a3 n.kd.length c3] 35)).alloc (.cells #[.bool false,.slice none 0 0,.slice none 0 0,.slice none 0 0] 35)).alloc (.cells #[.bool false,.slice none 0 0,.slice none 0 0,.slice none 0 0] 35)=w0 at *;have d0:=nb.c0;have d2:=nb.c2;have d3:=nb.c3;have HLT:Hid (w.heap.size+1+1<w0.heap.size):=n3.lt;go_wp2_with (first
  | (go_at_call 175;refine(HSL.out _ hK0).mono ?_;rintro e w1 ⟨a4,m4,c4,a5,m5,c5,a6,m6,c6,a7,m7,c7,rfl,hO1,hO2,hO3,hO4,hK1⟩;replace n2:=n2.kept hK1 (fun h=>h);replace n3:=n3.kept hK1 (fun h=>h))
  | (refine Af rfl rfl (.tmp 2) (.tmp 43) rfl (w.heap.size+1) rfl rfl n2 ?_;clear n2;intro w2 n2 hK2;replace n3:=Aw n3 (by omega) hK2)
  | (refine Af rfl rfl (.tmp 3) (.tmp 44) rfl (w.heap.size+1+1) rfl rfl n3 ?_;clear n3;intro w3 n3 hK3;replace n2:=Aw n2 (by omega) hK3)
  | fail)
 refine bodyPost_ret (AL rfl _ (w.heap.size+1) (w.heap.size+1+1) _ (.string key) rfl rfl rfl n2 n3) rfl ?_;have k2:Kp none' w w3:=Ax (Ax (hK0.thenN hK1) (by omega) hK2) (by omega) hK3;replace hO1:=(hO1.kept hK2 (fun z hz e=>by have:=(hO1.lt z hz).1;have:=HLT.out;unfold only at e;omega));replace hO1:=(hO1.kept hK3 (fun z hz e=>by have:=(hO1.lt z hz).1;have:=HLT.out;unfold only at e;omega))
 replace hO2:=(hO2.kept hK2 (fun z hz e=>by have:=(hO2.lt z hz).1;have:=HLT.out;unfold only at e;omega));replace hO2:=(hO2.kept hK3 (fun z hz e=>by have:=(hO2.lt z hz).1;have:=HLT.out;unfold only at e;omega));replace hO3:=(hO3.kept hK2 (fun z hz e=>by have:=(hO3.lt z hz).1;have:=HLT.out;unfold only at e;omega));replace hO3:=(hO3.kept hK3 (fun z hz e=>by have:=(hO3.lt z hz).1;have:=HLT.out;unfold only at e;omega))
 replace hO4:=(hO4.kept hK2 (fun z hz e=>by have:=(hO4.lt z hz).1;have:=HLT.out;unfold only at e;omega));replace hO4:=(hO4.kept hK3 (fun z hz e=>by have:=(hO4.lt z hz).1;have:=HLT.out;unfold only at e;omega))
 exact⟨_,_,rfl,Nv.ownI hO1.sl hO2.sl HW1.out HW2.out,Nv.ownI hO3.sl hO4.sl HW3.out HW4.out,k2,FrV.of (FrV.nil _ _) (fun k e=>by have:=hO1.lt k e;have:=HLT.out;first|omega|(have:=hK3.size;omega)) (fun k e=>by have:=hO2.lt k e;have:=HLT.out;first|omega|(have:=hK3.size;omega)),FrV.of (FrV.nil _ _) (fun k e=>by have:=hO3.lt k e;have:=HLT.out;first|omega|(have:=hK3.size;omega)) (fun k e=>by have:=hO4.lt k e;have:=HLT.out;first|omega|(have:=hK3.size;omega))⟩
set_option maxRecDepth 100000 in
theorem G8(x:Value)(n:Nd)(B:Nat)(w:World)(hN:Nv B w x n)(hB:B<=w.heap.size)(hl:n.leaf=true)(hpa:n.parts=false)(hg0:¬2<=n.ps.length)(hp:n.ps.length<=1048576)(hk:n.ks.length<=1048576)(hd:n.kd.length<=1048576) :
  Calls prog 152 #[x] w fun e w'=>∃y z,e=.returned (.tuple #[y,z,.string n.mid])/\Nv w'.heap.size w' y n.fst/\Nv w'.heap.size w' z n.snd/\Kp none' w w'/\FrV w.heap.size w'.heap.size y/\FrV w.heap.size w'.heap.size z:=by
 obtain⟨e1,e2,e3⟩:=Du hpa;rw[e1,e2,e3];clear e1 e2 e3;have hN':=hN;obtain⟨⟨pv,kv,dv,rfl,hP,hS,hD⟩,hwf⟩:=hN;obtain⟨a1,c1,e1,_⟩:=id hP;obtain⟨a2,c2,e2,_⟩:=id hS;obtain⟨a3,c3,e3,_⟩:=id hD;subst e1 e2 e3;rw[hl]at hN' |-
 have nb:=((Nb.new w true (.slice a1 n.ps.length c1) (.slice a2 n.ks.length c2) (.slice a3 n.kd.length c3)).kept (Kp.alloc none' _ (.cells #[.bool false,.slice none 0 0,.slice none 0 0,.slice none 0 0] 35)) (fun h=>h)).kept (Kp.alloc none' _ (.cells #[.bool false,.slice none 0 0,.slice none 0 0,.slice none 0 0] 35)) (fun h=>h)
 have n2:=(Nb.new (w.alloc (.cells #[.bool true,.slice a1 n.ps.length c1,.slice a2 n.ks.length c2,.slice a3 n.kd.length c3] 35)) false (.slice none 0 0) (.slice none 0 0) (.slice none 0 0)).kept (Kp.alloc none' _ (.cells #[.bool false,.slice none 0 0,.slice none 0 0,.slice none 0 0] 35)) (fun h=>h)
 have n3:=Nb.new ((w.alloc (.cells #[.bool true,.slice a1 n.ps.length c1,.slice a2 n.ks.length c2,.slice a3 n.kd.length c3] 35)).alloc (.cells #[.bool false,.slice none 0 0,.slice none 0 0,.slice none 0 0] 35)) false (.slice none 0 0) (.slice none 0 0) (.slice none 0 0);rw[show (w.alloc (.cells #[.bool true,.slice a1 n.ps.length c1,.slice a2 n.ks.length c2,.slice a3 n.kd.length c3] 35)).heap.size=w.heap.size+1 by simp]at n2
 rw[show ((w.alloc (.cells #[.bool true,.slice a1 n.ps.length c1,.slice a2 n.ks.length c2,.slice a3 n.kd.length c3] 35)).alloc (.cells #[.bool false,.slice none 0 0,.slice none 0 0,.slice none 0 0] 35)).heap.size=w.heap.size+1+1 by simp]at n3
 have hK0:Kp none' w (((w.alloc (.cells #[.bool true,.slice a1 n.ps.length c1,.slice a2 n.ks.length c2,.slice a3 n.kd.length c3] 35)).alloc (.cells #[.bool false,.slice none 0 0,.slice none 0 0,.slice none 0 0] 35)).alloc (.cells #[.bool false,.slice none 0 0,.slice none 0 0,.slice none 0 0] 35)):=((Kp.alloc _ _ _).thenN (Kp.alloc _ _ _)).thenN (Kp.alloc _ _ _)
 have HSL:Hid (∀W:World,Kp none' w W->Calls prog 176 #[.agg #[.bool true,.slice a1 n.ps.length c1,.slice a2 n.ks.length c2,.slice a3 n.kd.length c3]] W fun e w'=>∃a m c a2 m2 c2 a3 m3 c3,e=.returned (.agg #[.bool true,.slice a m c,.slice a2 m2 c2,.slice a3 m3 c3])/\OwP w' W.heap.size (.slice a m c) n.ps/\Ow Value.string 9 w' W.heap.size (.slice a2 m2 c2) n.ks/\Ow (Value.int .i64) 3 w' W.heap.size (.slice a3 m3 c3) n.kd/\Kp none' W w'):=by
  intro W hk';have:=Di _ n B W (hN'.keptN hk') (Nat.le_trans hB hk'.size) (by omega) (by omega) (by omega);rw[hl]at this;exact this
 have HWF:=hide hwf;have HL:=hide hl;have hg:¬(2:Int)<=(n.ps.length:Int):=by omega
 clear hg0;clear hP hS hD hwf hN' hp hl hk hd hpa;obtain⟨lp,Hlp⟩:∃l,Hid (n.ps.length=l):=⟨_,rfl⟩;obtain⟨lk,Hlk⟩:∃l,Hid (n.ks.length=l):=⟨_,rfl⟩;obtain⟨ld,Hld⟩:∃l,Hid (n.kd.length=l):=⟨_,rfl⟩;rw[Hlp.out,Hlk.out,Hld.out]at nb n2 n3 hK0 HSL |-;rw[Hlp.out]at hg;have hgn:¬2<=lp:=by omega
 have hgd:decide (2<=lp)=false:=decide_eq_false hgn;have hgi:decide ((2:Int)<=(lp:Int))=false:=decide_eq_false hg;clear hg hgn hgd;go_enter func152,ntmps152;go_upto_region 1 with fail;generalize ((w.alloc (.cells #[.bool true,.slice a1 lp c1,.slice a2 lk c2,.slice a3 ld c3] 35)).alloc (.cells #[.bool false,.slice none 0 0,.slice none 0 0,.slice none 0 0] 35)).alloc (.cells #[.bool false,.slice none 0 0,.slice none 0 0,.slice none 0 0] 35)=w0 at *;have d0:=nb.c0;have d1:=nb.c1
 have d2:=nb.c2;have d3:=nb.c3;have HLT:Hid (w.heap.size+1+1<w0.heap.size):=n3.lt;go_upto_region 5 with fail;go_wp2_with (first
  | (go_at_call 176;refine(HSL.out _ hK0).mono ?_;rintro e w1 ⟨a4,m4,c4,a5,m5,c5,a6,m6,c6,rfl,hO1,hO2,hO3,hK1⟩;replace n2:=n2.kept hK1 (fun h=>h);replace n3:=n3.kept hK1 (fun h=>h))
  | (refine Af rfl rfl (.tmp 2) (.tmp 47) rfl (w.heap.size+1) rfl rfl n2 ?_;clear n2;intro w2 n2 hK2;replace n3:=Aw n3 (by omega) hK2)
  | (refine Af rfl rfl (.tmp 3) (.tmp 48) rfl (w.heap.size+1+1) rfl rfl n3 ?_;clear n3;intro w3 n3 hK3;replace n2:=Aw n2 (by omega) hK3)
  | fail)
 refine bodyPost_ret (AL rfl _ (w.heap.size+1) (w.heap.size+1+1) _ (.string ⟨#[]⟩) rfl rfl rfl n2 n3) rfl ?_;have k2:Kp none' w w3:=Ax (Ax (hK0.thenN hK1) (by omega) hK2) (by omega) hK3;replace hO1:=(hO1.kept hK2 (fun z hz e=>by have:=(hO1.lt z hz).1;have:=HLT.out;unfold only at e;omega));replace hO1:=(hO1.kept hK3 (fun z hz e=>by have:=(hO1.lt z hz).1;have:=HLT.out;unfold only at e;omega))
 replace hO2:=(hO2.kept hK2 (fun z hz e=>by have:=(hO2.lt z hz).1;have:=HLT.out;unfold only at e;omega));replace hO2:=(hO2.kept hK3 (fun z hz e=>by have:=(hO2.lt z hz).1;have:=HLT.out;unfold only at e;omega));replace hO3:=(hO3.kept hK2 (fun z hz e=>by have:=(hO3.lt z hz).1;have:=HLT.out;unfold only at e;omega));replace hO3:=(hO3.kept hK3 (fun z hz e=>by have:=(hO3.lt z hz).1;have:=HLT.out;unfold only at e;omega))
 refine⟨_,_,rfl,⟨⟨_,_,_,by rw[HL.out],hO1.prs,hO2.sl,hO3.sl⟩,HWF.out⟩,⟨⟨_,_,_,rfl,Prs.nil _ _,Sl.nil _ _ _,Sl.nil _ _ _⟩,⟨by simp,by simp,by simp⟩⟩,k2,FrV.of (fun k e=>by have:=hO1.lt k e;have:=HLT.out;first|omega|(have:=hK3.size;omega)) (fun k e=>by have:=hO2.lt k e;have:=HLT.out;first|omega|(have:=hK3.size;omega)) (fun k e=>by have:=hO3.lt k e;have:=HLT.out;first|omega|(have:=hK3.size;omega)),FrV.of (FrV.nil _ _) (FrV.nil _ _) (FrV.nil _ _)⟩
set_option maxRecDepth 100000 in
theorem G9(x:Value)(n:Nd)(B:Nat)(w:World)(hN:Nv B w x n)(hB:B<=w.heap.size)(hl:n.leaf=false)(hpa:n.parts=false)(hg0:¬3<=n.ks.length)(hp:n.ps.length<=1048576)(hk:n.ks.length<=1048576)(hd:n.kd.length<=1048576) :
  Calls prog 152 #[x] w fun e w'=>∃y z,e=.returned (.tuple #[y,z,.string n.mid])/\Nv w'.heap.size w' y n.fst/\Nv w'.heap.size w' z n.snd/\Kp none' w w'/\FrV w.heap.size w'.heap.size y/\FrV w.heap.size w'.heap.size z:=by
 obtain⟨e1,e2,e3⟩:=Du hpa;rw[e1,e2,e3];clear e1 e2 e3;have hN':=hN;obtain⟨⟨pv,kv,dv,rfl,hP,hS,hD⟩,hwf⟩:=hN;obtain⟨a1,c1,e1,_⟩:=id hP;obtain⟨a2,c2,e2,_⟩:=id hS;obtain⟨a3,c3,e3,_⟩:=id hD;subst e1 e2 e3;rw[hl]at hN' |-
 have nb:=((Nb.new w false (.slice a1 n.ps.length c1) (.slice a2 n.ks.length c2) (.slice a3 n.kd.length c3)).kept (Kp.alloc none' _ (.cells #[.bool false,.slice none 0 0,.slice none 0 0,.slice none 0 0] 35)) (fun h=>h)).kept (Kp.alloc none' _ (.cells #[.bool false,.slice none 0 0,.slice none 0 0,.slice none 0 0] 35)) (fun h=>h)
 have n2:=(Nb.new (w.alloc (.cells #[.bool false,.slice a1 n.ps.length c1,.slice a2 n.ks.length c2,.slice a3 n.kd.length c3] 35)) false (.slice none 0 0) (.slice none 0 0) (.slice none 0 0)).kept (Kp.alloc none' _ (.cells #[.bool false,.slice none 0 0,.slice none 0 0,.slice none 0 0] 35)) (fun h=>h)
 have n3:=Nb.new ((w.alloc (.cells #[.bool false,.slice a1 n.ps.length c1,.slice a2 n.ks.length c2,.slice a3 n.kd.length c3] 35)).alloc (.cells #[.bool false,.slice none 0 0,.slice none 0 0,.slice none 0 0] 35)) false (.slice none 0 0) (.slice none 0 0) (.slice none 0 0);rw[show (w.alloc (.cells #[.bool false,.slice a1 n.ps.length c1,.slice a2 n.ks.length c2,.slice a3 n.kd.length c3] 35)).heap.size=w.heap.size+1 by simp]at n2
 rw[show ((w.alloc (.cells #[.bool false,.slice a1 n.ps.length c1,.slice a2 n.ks.length c2,.slice a3 n.kd.length c3] 35)).alloc (.cells #[.bool false,.slice none 0 0,.slice none 0 0,.slice none 0 0] 35)).heap.size=w.heap.size+1+1 by simp]at n3
 have hK0:Kp none' w (((w.alloc (.cells #[.bool false,.slice a1 n.ps.length c1,.slice a2 n.ks.length c2,.slice a3 n.kd.length c3] 35)).alloc (.cells #[.bool false,.slice none 0 0,.slice none 0 0,.slice none 0 0] 35)).alloc (.cells #[.bool false,.slice none 0 0,.slice none 0 0,.slice none 0 0] 35)):=((Kp.alloc _ _ _).thenN (Kp.alloc _ _ _)).thenN (Kp.alloc _ _ _)
 have HSL:Hid (∀W:World,Kp none' w W->Calls prog 176 #[.agg #[.bool false,.slice a1 n.ps.length c1,.slice a2 n.ks.length c2,.slice a3 n.kd.length c3]] W fun e w'=>∃a m c a2 m2 c2 a3 m3 c3,e=.returned (.agg #[.bool false,.slice a m c,.slice a2 m2 c2,.slice a3 m3 c3])/\OwP w' W.heap.size (.slice a m c) n.ps/\Ow Value.string 9 w' W.heap.size (.slice a2 m2 c2) n.ks/\Ow (Value.int .i64) 3 w' W.heap.size (.slice a3 m3 c3) n.kd/\Kp none' W w'):=by
  intro W hk';have:=Di _ n B W (hN'.keptN hk') (Nat.le_trans hB hk'.size) (by omega) (by omega) (by omega);rw[hl]at this;exact this
 have HWF:=hide hwf;have HL:=hide hl;have hg:¬(3:Int)<=(n.ks.length:Int):=by omega
 clear hg0;clear hP hS hD hwf hN' hp hl hk hd hpa;obtain⟨lp,Hlp⟩:∃l,Hid (n.ps.length=l):=⟨_,rfl⟩;obtain⟨lk,Hlk⟩:∃l,Hid (n.ks.length=l):=⟨_,rfl⟩;obtain⟨ld,Hld⟩:∃l,Hid (n.kd.length=l):=⟨_,rfl⟩;rw[Hlp.out,Hlk.out,Hld.out]at nb n2 n3 hK0 HSL |-;rw[Hlk.out]at hg;have hgn:¬3<=lk:=by omega
 have hgd:decide (3<=lk)=false:=decide_eq_false hgn;have hgi:decide ((3:Int)<=(lk:Int))=false:=decide_eq_false hg;clear hg hgn hgd;go_enter func152,ntmps152;go_upto_region 1 with fail;generalize ((w.alloc (.cells #[.bool false,.slice a1 lp c1,.slice a2 lk c2,.slice a3 ld c3] 35)).alloc (.cells #[.bool false,.slice none 0 0,.slice none 0 0,.slice none 0 0] 35)).alloc (.cells #[.bool false,.slice none 0 0,.slice none 0 0,.slice none 0 0] 35)=w0 at *;have d0:=nb.c0;have d1:=nb.c1
 have d2:=nb.c2;have d3:=nb.c3;have HLT:Hid (w.heap.size+1+1<w0.heap.size):=n3.lt;go_upto_region 5 with fail;go_wp2_with (first
  | (go_at_call 176;refine(HSL.out _ hK0).mono ?_;rintro e w1 ⟨a4,m4,c4,a5,m5,c5,a6,m6,c6,rfl,hO1,hO2,hO3,hK1⟩;replace n2:=n2.kept hK1 (fun h=>h);replace n3:=n3.kept hK1 (fun h=>h))
  | (refine Af rfl rfl (.tmp 2) (.tmp 47) rfl (w.heap.size+1) rfl rfl n2 ?_;clear n2;intro w2 n2 hK2;replace n3:=Aw n3 (by omega) hK2)
  | (refine Af rfl rfl (.tmp 3) (.tmp 48) rfl (w.heap.size+1+1) rfl rfl n3 ?_;clear n3;intro w3 n3 hK3;replace n2:=Aw n2 (by omega) hK3)
  | fail)
 refine bodyPost_ret (AL rfl _ (w.heap.size+1) (w.heap.size+1+1) _ (.string ⟨#[]⟩) rfl rfl rfl n2 n3) rfl ?_;have k2:Kp none' w w3:=Ax (Ax (hK0.thenN hK1) (by omega) hK2) (by omega) hK3;replace hO1:=(hO1.kept hK2 (fun z hz e=>by have:=(hO1.lt z hz).1;have:=HLT.out;unfold only at e;omega));replace hO1:=(hO1.kept hK3 (fun z hz e=>by have:=(hO1.lt z hz).1;have:=HLT.out;unfold only at e;omega))
 replace hO2:=(hO2.kept hK2 (fun z hz e=>by have:=(hO2.lt z hz).1;have:=HLT.out;unfold only at e;omega));replace hO2:=(hO2.kept hK3 (fun z hz e=>by have:=(hO2.lt z hz).1;have:=HLT.out;unfold only at e;omega));replace hO3:=(hO3.kept hK2 (fun z hz e=>by have:=(hO3.lt z hz).1;have:=HLT.out;unfold only at e;omega));replace hO3:=(hO3.kept hK3 (fun z hz e=>by have:=(hO3.lt z hz).1;have:=HLT.out;unfold only at e;omega))
 refine⟨_,_,rfl,⟨⟨_,_,_,by rw[HL.out],hO1.prs,hO2.sl,hO3.sl⟩,HWF.out⟩,⟨⟨_,_,_,rfl,Prs.nil _ _,Sl.nil _ _ _,Sl.nil _ _ _⟩,⟨by simp,by simp,by simp⟩⟩,k2,FrV.of (fun k e=>by have:=hO1.lt k e;have:=HLT.out;first|omega|(have:=hK3.size;omega)) (fun k e=>by have:=hO2.lt k e;have:=HLT.out;first|omega|(have:=hK3.size;omega)) (fun k e=>by have:=hO3.lt k e;have:=HLT.out;first|omega|(have:=hK3.size;omega)),FrV.of (FrV.nil _ _) (FrV.nil _ _) (FrV.nil _ _)⟩
set_option maxRecDepth 100000 in
theorem He(x:Value)(n:Nd)(B:Nat)(w:World)(hN:Nv B w x n)(hB:B<=w.heap.size)(hl:n.leaf=false)(hpa:n.parts=false)(hg0:3<=n.ks.length)(hg1:¬n.kd.length=n.ks.length+1)(hp:n.ps.length<=1048576)(hk:n.ks.length<=1048576)(hd:n.kd.length<=1048576) :
  Calls prog 152 #[x] w fun e w'=>∃y z,e=.returned (.tuple #[y,z,.string n.mid])/\Nv w'.heap.size w' y n.fst/\Nv w'.heap.size w' z n.snd/\Kp none' w w'/\FrV w.heap.size w'.heap.size y/\FrV w.heap.size w'.heap.size z:=by
 obtain⟨e1,e2,e3⟩:=Du hpa;rw[e1,e2,e3];clear e1 e2 e3;have hN':=hN;obtain⟨⟨pv,kv,dv,rfl,hP,hS,hD⟩,hwf⟩:=hN;obtain⟨a1,c1,e1,_⟩:=id hP;obtain⟨a2,c2,e2,_⟩:=id hS;obtain⟨a3,c3,e3,_⟩:=id hD;subst e1 e2 e3;rw[hl]at hN' |-
 have nb:=((Nb.new w false (.slice a1 n.ps.length c1) (.slice a2 n.ks.length c2) (.slice a3 n.kd.length c3)).kept (Kp.alloc none' _ (.cells #[.bool false,.slice none 0 0,.slice none 0 0,.slice none 0 0] 35)) (fun h=>h)).kept (Kp.alloc none' _ (.cells #[.bool false,.slice none 0 0,.slice none 0 0,.slice none 0 0] 35)) (fun h=>h)
 have n2:=(Nb.new (w.alloc (.cells #[.bool false,.slice a1 n.ps.length c1,.slice a2 n.ks.length c2,.slice a3 n.kd.length c3] 35)) false (.slice none 0 0) (.slice none 0 0) (.slice none 0 0)).kept (Kp.alloc none' _ (.cells #[.bool false,.slice none 0 0,.slice none 0 0,.slice none 0 0] 35)) (fun h=>h)
 have n3:=Nb.new ((w.alloc (.cells #[.bool false,.slice a1 n.ps.length c1,.slice a2 n.ks.length c2,.slice a3 n.kd.length c3] 35)).alloc (.cells #[.bool false,.slice none 0 0,.slice none 0 0,.slice none 0 0] 35)) false (.slice none 0 0) (.slice none 0 0) (.slice none 0 0);rw[show (w.alloc (.cells #[.bool false,.slice a1 n.ps.length c1,.slice a2 n.ks.length c2,.slice a3 n.kd.length c3] 35)).heap.size=w.heap.size+1 by simp]at n2
 rw[show ((w.alloc (.cells #[.bool false,.slice a1 n.ps.length c1,.slice a2 n.ks.length c2,.slice a3 n.kd.length c3] 35)).alloc (.cells #[.bool false,.slice none 0 0,.slice none 0 0,.slice none 0 0] 35)).heap.size=w.heap.size+1+1 by simp]at n3
 have hK0:Kp none' w (((w.alloc (.cells #[.bool false,.slice a1 n.ps.length c1,.slice a2 n.ks.length c2,.slice a3 n.kd.length c3] 35)).alloc (.cells #[.bool false,.slice none 0 0,.slice none 0 0,.slice none 0 0] 35)).alloc (.cells #[.bool false,.slice none 0 0,.slice none 0 0,.slice none 0 0] 35)):=((Kp.alloc _ _ _).thenN (Kp.alloc _ _ _)).thenN (Kp.alloc _ _ _)
 have HSL:Hid (∀W:World,Kp none' w W->Calls prog 176 #[.agg #[.bool false,.slice a1 n.ps.length c1,.slice a2 n.ks.length c2,.slice a3 n.kd.length c3]] W fun e w'=>∃a m c a2 m2 c2 a3 m3 c3,e=.returned (.agg #[.bool false,.slice a m c,.slice a2 m2 c2,.slice a3 m3 c3])/\OwP w' W.heap.size (.slice a m c) n.ps/\Ow Value.string 9 w' W.heap.size (.slice a2 m2 c2) n.ks/\Ow (Value.int .i64) 3 w' W.heap.size (.slice a3 m3 c3) n.kd/\Kp none' W w'):=by
  intro W hk';have:=Di _ n B W (hN'.keptN hk') (Nat.le_trans hB hk'.size) (by omega) (by omega) (by omega);rw[hl]at this;exact this
 have HWF:=hide hwf;have HL:=hide hl;have hg:(3:Int)<=(n.ks.length:Int):=by omega
 have hg':((n.kd.length:Int)==wrap64 ((n.ks.length:Int)+1))=false:=by rw[beq_eq_false_iff_ne];unfold wrap64;omega
 clear hg0 hg1;clear hP hS hD hwf hN' hp hl hk hd hpa;obtain⟨lp,Hlp⟩:∃l,Hid (n.ps.length=l):=⟨_,rfl⟩;obtain⟨lk,Hlk⟩:∃l,Hid (n.ks.length=l):=⟨_,rfl⟩;obtain⟨ld,Hld⟩:∃l,Hid (n.kd.length=l):=⟨_,rfl⟩;rw[Hlp.out,Hlk.out,Hld.out]at nb n2 n3 hK0 HSL |-;rw[Hlk.out]at hg hg';rw[Hld.out]at hg';go_enter func152,ntmps152;go_upto_region 1 with fail
 generalize ((w.alloc (.cells #[.bool false,.slice a1 lp c1,.slice a2 lk c2,.slice a3 ld c3] 35)).alloc (.cells #[.bool false,.slice none 0 0,.slice none 0 0,.slice none 0 0] 35)).alloc (.cells #[.bool false,.slice none 0 0,.slice none 0 0,.slice none 0 0] 35)=w0 at *;have d0:=nb.c0;have d1:=nb.c1;have d2:=nb.c2;have d3:=nb.c3;have HLT:Hid (w.heap.size+1+1<w0.heap.size):=n3.lt;go_upto_region 5 with fail;go_wp2_with (first
  | (go_at_call 176;refine(HSL.out _ hK0).mono ?_;rintro e w1 ⟨a4,m4,c4,a5,m5,c5,a6,m6,c6,rfl,hO1,hO2,hO3,hK1⟩;replace n2:=n2.kept hK1 (fun h=>h);replace n3:=n3.kept hK1 (fun h=>h))
  | (refine Af rfl rfl (.tmp 2) (.tmp 47) rfl (w.heap.size+1) rfl rfl n2 ?_;clear n2;intro w2 n2 hK2;replace n3:=Aw n3 (by omega) hK2)
  | (refine Af rfl rfl (.tmp 3) (.tmp 48) rfl (w.heap.size+1+1) rfl rfl n3 ?_;clear n3;intro w3 n3 hK3;replace n2:=Aw n2 (by omega) hK3)
  | fail)
 refine bodyPost_ret (AL rfl _ (w.heap.size+1) (w.heap.size+1+1) _ (.string ⟨#[]⟩) rfl rfl rfl n2 n3) rfl ?_;have k2:Kp none' w w3:=Ax (Ax (hK0.thenN hK1) (by omega) hK2) (by omega) hK3;replace hO1:=(hO1.kept hK2 (fun z hz e=>by have:=(hO1.lt z hz).1;have:=HLT.out;unfold only at e;omega));replace hO1:=(hO1.kept hK3 (fun z hz e=>by have:=(hO1.lt z hz).1;have:=HLT.out;unfold only at e;omega))
 replace hO2:=(hO2.kept hK2 (fun z hz e=>by have:=(hO2.lt z hz).1;have:=HLT.out;unfold only at e;omega));replace hO2:=(hO2.kept hK3 (fun z hz e=>by have:=(hO2.lt z hz).1;have:=HLT.out;unfold only at e;omega));replace hO3:=(hO3.kept hK2 (fun z hz e=>by have:=(hO3.lt z hz).1;have:=HLT.out;unfold only at e;omega));replace hO3:=(hO3.kept hK3 (fun z hz e=>by have:=(hO3.lt z hz).1;have:=HLT.out;unfold only at e;omega))
 refine⟨_,_,rfl,⟨⟨_,_,_,by rw[HL.out],hO1.prs,hO2.sl,hO3.sl⟩,HWF.out⟩,⟨⟨_,_,_,rfl,Prs.nil _ _,Sl.nil _ _ _,Sl.nil _ _ _⟩,⟨by simp,by simp,by simp⟩⟩,k2,FrV.of (fun k e=>by have:=hO1.lt k e;have:=HLT.out;first|omega|(have:=hK3.size;omega)) (fun k e=>by have:=hO2.lt k e;have:=HLT.out;first|omega|(have:=hK3.size;omega)) (fun k e=>by have:=hO3.lt k e;have:=HLT.out;first|omega|(have:=hK3.size;omega)),FrV.of (FrV.nil _ _) (FrV.nil _ _) (FrV.nil _ _)⟩
theorem GB(x:Value)(n:Nd)(B:Nat)(w:World)(hN:Nv B w x n)(hB:B<=w.heap.size)(hp:n.ps.length<=1048576)(hk:n.ks.length<=1048576)(hd:n.kd.length<=1048576)(hsz:n.size<=4194304) :
  Calls prog 152 #[x] w fun e w'=>∃y z,e=.returned (.tuple #[y,z,.string n.mid])/\Nv w'.heap.size w' y n.fst/\Nv w'.heap.size w' z n.snd/\Kp none' w w'/\FrV w.heap.size w'.heap.size y/\FrV w.heap.size w'.heap.size z:=by
 cases hpa:n.parts with
 | false =>
  have hpa':=hpa;unfold Nd.parts at hpa';cases hl:n.leaf with
  | true=>rw[hl]at hpa';simp at hpa';exact G8 x n B w hN hB hl hpa (by omega) hp hk hd
  | false =>
   rw[hl]at hpa';simp at hpa';by_cases h3:3<=n.ks.length
   ·exact He x n B w hN hB hl hpa h3 (hpa' h3) hp hk hd
   ·exact G9 x n B w hN hB hl hpa h3 hp hk hd
 | true =>
  unfold Nd.parts at hpa;cases hl:n.leaf with
  | true=>rw[hl]at hpa;simp at hpa;exact IW x n B w hN hB hl hpa hp hsz
  | false=>rw[hl]at hpa;simp at hpa;exact G7 x n B w hN hB hl hpa.1 hpa.2 hk hsz
set_option maxRecDepth 100000 in
theorem IT(x y:Value)(n m:Nd)(B:Nat)(k:ByteArray)(w:World)(hN:Nv B w x n)(hM:Nv B w y m)(hB:B<=w.heap.size)(hkm:k.size<=maxLen)(hl:n.leaf=false)(h1:n.ks.length<=1048576)(h2:m.ks.length<=1048576)(h3:n.kd.length<=1048577)(h4:m.kd.length<=1048577) :
  Calls prog 181 #[x,y,.string k] w fun e w'=>∃z,e=.returned z/\Nv w'.heap.size w' z (n.join m k)/\Kp none' w w'/\FrV w.heap.size w'.heap.size z:=by
 have HJ:Hid (n.join m k=⟨false,[],[n.ks,[k],m.ks].flatten,[n.kd,m.kd].flatten⟩):=by show _=_;unfold Nd.join;simp[hl]
 have HWK:Hid (∀p∈[n.ks,[k],m.ks].flatten,p.size<=maxLen):=by
  intro p hp;simp only[List.flatten_cons,List.flatten_nil,List.append_nil,List.mem_append,List.mem_singleton]at hp;rcases hp with hp|hp|hp
  ·exact hN.wf.k p hp
  ·rw[hp];exact hkm
  ·exact hM.wf.k p hp
 have HWD:Hid (∀z∈[n.kd,m.kd].flatten,-9223372036854775808<=z/\z<9223372036854775808):=by
  intro p hp;simp only[List.flatten_cons,List.flatten_nil,List.append_nil,List.mem_append]at hp;rcases hp with hp|hp
  ·exact hN.wf.d p hp
  ·exact hM.wf.d p hp
 rw[HJ.out];obtain⟨⟨pv,kv,dv,rfl,hP,hS,hD⟩,_⟩:=hN;obtain⟨⟨pv',kv',dv',rfl,hP',hS',hD'⟩,_⟩:=hM;obtain⟨p1,c1,e1,_⟩:=id hP;obtain⟨p2,c2,e2,_⟩:=id hS;obtain⟨p3,c3,e3,_⟩:=id hD;obtain⟨p4,c4,e4,_⟩:=id hP';obtain⟨p5,c5,e5,_⟩:=id hS';obtain⟨p6,c6,e6,_⟩:=id hD';subst e1 e2 e3 e4 e5 e6;rw[hl];obtain⟨lp,Hlp⟩:∃l,Hid (n.ps.length=l):=⟨_,rfl⟩;obtain⟨lk,Hlk⟩:∃l,Hid (n.ks.length=l):=⟨_,rfl⟩;obtain⟨ld,Hld⟩:∃l,Hid (n.kd.length=l):=⟨_,rfl⟩;obtain⟨lp',Hlp'⟩:∃l,Hid (m.ps.length=l):=⟨_,rfl⟩
 obtain⟨lk',Hlk'⟩:∃l,Hid (m.ks.length=l):=⟨_,rfl⟩;obtain⟨ld',Hld'⟩:∃l,Hid (m.kd.length=l):=⟨_,rfl⟩;obtain⟨lf',Hlf'⟩:∃l,Hid (m.leaf=l):=⟨_,rfl⟩;have HLS:Hid ([n.ks,[k],m.ks].flatten.length<=100000000):=by show _<=_;simp;omega
 have HLD:Hid ([n.kd,m.kd].flatten.length<=100000000):=by show _<=_;simp;omega
 rw[Hlp.out,Hlk.out,Hld.out,Hlp'.out,Hlk'.out,Hld'.out,Hlf'.out];rw[Hlk.out]at hS;rw[Hld.out]at hD;rw[Hlk'.out]at hS';rw[Hld'.out]at hD';obtain⟨o0,ho0⟩:∃o,o=Obj.cells #[.bool false,.slice p1 lp c1,.slice p2 lk c2,.slice p3 ld c3] 35:=⟨_,rfl⟩;obtain⟨o1,ho1⟩:∃o,o=Obj.cells #[.bool lf',.slice p4 lp' c4,.slice p5 lk' c5,.slice p6 ld' c6] 35:=⟨_,rfl⟩;obtain⟨o2,ho2⟩:∃o,o=Obj.cells #[.bool false,.slice none 0 0,.slice none 0 0,.slice none 0 0] 35:=⟨_,rfl⟩
 have hx0:Nb (w.alloc o0) w.heap.size false (.slice p1 lp c1) (.slice p2 lk c2) (.slice p3 ld c3):=by rw[ho0];exact Nb.new _ _ _ _ _
 have hy0:Nb ((w.alloc o0).alloc o1) (w.heap.size+1) lf' (.slice p4 lp' c4) (.slice p5 lk' c5) (.slice p6 ld' c6):=by
  have:=Nb.new (w.alloc o0) lf' (.slice p4 lp' c4) (.slice p5 lk' c5) (.slice p6 ld' c6);rw[show (w.alloc o0).heap.size=w.heap.size+1 by simp,<-ho1]at this;exact this
 have n6:Nb (((w.alloc o0).alloc o1).alloc o2) (w.heap.size+1+1) false (.slice none 0 0) (.slice none 0 0) (.slice none 0 0):=by
  have:=Nb.new ((w.alloc o0).alloc o1) false (.slice none 0 0) (.slice none 0 0) (.slice none 0 0);rw[show ((w.alloc o0).alloc o1).heap.size=w.heap.size+1+1 by simp,<-ho2]at this;exact this
 have hx1:=(hx0.kept (Kp.alloc none' _ o1) (fun h=>h)).kept (Kp.alloc none' _ o2) (fun h=>h);have hy1:=hy0.kept (Kp.alloc none' _ o2) (fun h=>h);have hK0:Kp none' w (((w.alloc o0).alloc o1).alloc o2):=((Kp.alloc _ _ _).thenN (Kp.alloc _ _ _)).thenN (Kp.alloc _ _ _);subst ho0 ho1 ho2;clear hP hP' h1 h2 h3 h4 hl;go_enter func181,ntmps181;go_upto_region 3 with fail
 generalize ((w.alloc (Obj.cells #[.bool false,.slice p1 lp c1,.slice p2 lk c2,.slice p3 ld c3] 35)).alloc (Obj.cells #[.bool lf',.slice p4 lp' c4,.slice p5 lk' c5,.slice p6 ld' c6] 35)).alloc (Obj.cells #[.bool false,.slice none 0 0,.slice none 0 0,.slice none 0 0] 35)=w1 at *;have HLT:Hid (w.heap.size+1+1<w1.heap.size):=n6.lt;have f0:∀W:World,Kp (fun k=>w.heap.size+1<k) w1 W->W.cell? ⟨w.heap.size,2,none⟩=some (.slice p2 lk c2):=fun W hk=>(hx1.kept hk (fun h=>by omega)).c2
 have f1:∀W:World,Kp (fun k=>w.heap.size+1<k) w1 W->W.cell? ⟨w.heap.size,3,none⟩=some (.slice p3 ld c3):=fun W hk=>(hx1.kept hk (fun h=>by omega)).c3;have f2:∀W:World,Kp (fun k=>w.heap.size+1<k) w1 W->W.cell? ⟨w.heap.size+1,2,none⟩=some (.slice p5 lk' c5):=fun W hk=>(hy1.kept hk (fun h=>by omega)).c2;have f3:∀W:World,Kp (fun k=>w.heap.size+1<k) w1 W->W.cell? ⟨w.heap.size+1,3,none⟩=some (.slice p6 ld' c6):=fun W hk=>(hy1.kept hk (fun h=>by omega)).c3
 have HCS:Hid (∀(W:World) (g gk:Nat),Kp (fun k=>w.heap.size+1<k) w1 W->Sl (fun x:Value=>x) (g+1) W (.slice (some ⟨g,0,none⟩) 3 3) [.slice p2 lk c2,.slice (some ⟨gk,0,none⟩) 1 1,.slice p5 lk' c5]->Sl Value.string (gk+1) W (.slice (some ⟨gk,0,none⟩) 1 1) [k]->Calls prog 205 #[.slice (some ⟨g,0,none⟩) 3 3] W fun e w'=>∃a m' c,e=.returned (.slice a m' c)/\Ow Value.string 9 w' W.heap.size (.slice a m' c) ([n.ks,[k],m.ks].flatten)/\Kp none' W w'):=by
  intro W g gk hk hV hK1;refine(OO _ _ [n.ks,[k],m.ks] (g+1) (B+gk+1) W hV rfl ?_ HLS.out).mono ?_
  ·intro i h h';match i,h with
   | 0,_=>exact((hS.keptN hK0).kept hk (fun k hk' h=>by omega)).more (by omega)
   | 1,_=>exact hK1.more (by omega)
   | 2,_=>exact((hS'.keptN hK0).kept hk (fun k hk' h=>by omega)).more (by omega)
  ·rintro e w' ⟨v',rfl,hO,hK⟩;obtain⟨a,m',c,rfl⟩:=Cl hO;exact⟨_,_,_,rfl,hO,hK⟩
 have HCI:Hid (∀(W:World) (g:Nat),Kp (fun k=>w.heap.size+1<k) w1 W->Sl (fun x:Value=>x) (g+1) W (.slice (some ⟨g,0,none⟩) 2 2) [.slice p3 ld c3,.slice p6 ld' c6]->Calls prog 206 #[.slice (some ⟨g,0,none⟩) 2 2] W fun e w'=>∃a m' c,e=.returned (.slice a m' c)/\Ow (Value.int .i64) 3 w' W.heap.size (.slice a m' c) ([n.kd,m.kd].flatten)/\Kp none' W w'):=by
  intro W g hk hV;refine(OM _ _ [n.kd,m.kd] (g+1) B W hV rfl ?_ HLD.out).mono ?_
  ·intro i h h';match i,h with
   | 0,_=>exact(hD.keptN hK0).kept hk (fun k hk' h=>by omega)
   | 1,_=>exact(hD'.keptN hK0).kept hk (fun k hk' h=>by omega)
  ·rintro e w' ⟨v',rfl,hO,hK⟩;obtain⟨a,m',c,rfl⟩:=Cl hO;exact⟨_,_,_,rfl,hO,hK⟩
 clear hS hS' hD hD' hx0 hx1 hy0 hy1;replace n6:=n6.kept (Kp.drew none' w1) (fun h=>h);refine wp_region_held_drew (S:=fun W=>Kp (fun k=>w.heap.size+1<k) w1 W) (by kernel_rfl) (Kp.drew _ _) (fun hHeld=>?_);refine Aa (i:=0) (d:=15) (v:=?_) rfl rfl (by kernel_rfl) (by kernel_rfl) (by kernel_rfl) (fun _ _ _ h=>h) (Or.inl ⟨by rfl,?_⟩) (by assumption) ?_;rotate_left
 ·intro W hSW;try dsimp only at hSW
  have g0:=f0 W hSW;have g1:=f1 W hSW;have g2:=f2 W hSW;have g3:=f3 W hSW;go_simp;try with_reducible rfl
 try simp only[Act.put,Qa,Qb,Qc]
 refine Aa (i:=1) (d:=16) (v:=?_) rfl rfl (by kernel_rfl) (by kernel_rfl) (by kernel_rfl) (fun _ _ _ h=>h) (Or.inl ⟨by rfl,?_⟩) (by assumption) ?_;rotate_left
 ·intro W hSW;try dsimp only at hSW
  have g0:=f0 W hSW;have g1:=f1 W hSW;have g2:=f2 W hSW;have g3:=f3 W hSW;go_simp;try with_reducible rfl
 try simp only[Act.put,Qa,Qb,Qc]
 refine Aa (i:=2) (d:=17) (v:=?_) rfl rfl (by kernel_rfl) (by kernel_rfl) (by kernel_rfl) (fun _ _ _ h=>h) (Or.inl ⟨by rfl,?_⟩) (by assumption) ?_;rotate_left
 ·intro W hSW;try dsimp only at hSW
  have g0:=f0 W hSW;have g1:=f1 W hSW;have g2:=f2 W hSW;have g3:=f3 W hSW;go_simp;try with_reducible rfl
 try simp only[Act.put,Qa,Qb,Qc]
 refine Aa (i:=4) (d:=19) (v:=?_) rfl rfl (by kernel_rfl) (by kernel_rfl) (by kernel_rfl) (fun _ _ _ h=>h) (Or.inl ⟨by rfl,?_⟩) (by assumption) ?_;rotate_left
 ·intro W hSW;try dsimp only at hSW
  have g0:=f0 W hSW;have g1:=f1 W hSW;have g2:=f2 W hSW;have g3:=f3 W hSW;go_simp;try with_reducible rfl
 try simp only[Act.put,Qa,Qb,Qc]
 refine Aa (i:=5) (d:=20) (v:=?_) rfl rfl (by kernel_rfl) (by kernel_rfl) (by kernel_rfl) (fun _ _ _ h=>h) (Or.inl ⟨by rfl,?_⟩) (by assumption) ?_;rotate_left
 ·intro W hSW;try dsimp only at hSW
  have g0:=f0 W hSW;have g1:=f1 W hSW;have g2:=f2 W hSW;have g3:=f3 W hSW;go_simp;try with_reducible rfl
 try simp only[Act.put,Qa,Qb,Qc]
 refine Aa (i:=8) (d:=23) (v:=?_) rfl rfl (by kernel_rfl) (by kernel_rfl) (by kernel_rfl) (fun _ _ _ h=>h) (Or.inl ⟨by rfl,?_⟩) (by assumption) ?_;rotate_left
 ·intro W hSW;try dsimp only at hSW
  have g0:=f0 W hSW;have g1:=f1 W hSW;have g2:=f2 W hSW;have g3:=f3 W hSW;go_simp;try with_reducible rfl
 try simp only[Act.put,Qa,Qb,Qc]
 refine Aa (i:=9) (d:=24) (v:=?_) rfl rfl (by kernel_rfl) (by kernel_rfl) (by kernel_rfl) (fun _ _ _ h=>h) (Or.inl ⟨by rfl,?_⟩) (by assumption) ?_;rotate_left
 ·intro W hSW;try dsimp only at hSW
  have g0:=f0 W hSW;have g1:=f1 W hSW;have g2:=f2 W hSW;have g3:=f3 W hSW;go_simp;try with_reducible rfl
 try simp only[Act.put,Qa,Qb,Qc]
 refine Aa (i:=10) (d:=25) (v:=?_) rfl rfl (by kernel_rfl) (by kernel_rfl) (by kernel_rfl) (fun _ _ _ h=>h) (Or.inl ⟨by rfl,?_⟩) (by assumption) ?_;rotate_left
 ·intro W hSW;try dsimp only at hSW
  have g0:=f0 W hSW;have g1:=f1 W hSW;have g2:=f2 W hSW;have g3:=f3 W hSW;go_simp;try with_reducible rfl
 try simp only[Act.put,Qa,Qb,Qc]
 refine Aa (i:=11) (d:=26) (v:=?_) rfl rfl (by kernel_rfl) (by kernel_rfl) (by kernel_rfl) (fun _ _ _ h=>h) (Or.inl ⟨by rfl,?_⟩) (by assumption) ?_;rotate_left
 ·intro W hSW;try dsimp only at hSW
  have g0:=f0 W hSW;have g1:=f1 W hSW;have g2:=f2 W hSW;have g3:=f3 W hSW;go_simp;try with_reducible rfl
 try simp only[Act.put,Qa,Qb,Qc]
 refine wpAnyH_ready (rs:=[3,12]) (by kernel_rfl) (by simp) ?_;refine AllReadyH.cons rfl (fun K hK=>?_) ?_
 ·refine Fu (d:=18) (by rfl) (by rfl) (.tmp 17) (by rfl) (by rfl) ?_;intro wx3 gK hK1S hk3 hg3;replace n6:=n6.kept hk3 (fun h=>h);refine hK.out _ _ (hHeld.thenN hk3) (fun hHeld=>?_);clear hK K;try simp only[Act.put,Qa,Qb,Qc]
  refine wpAnyH_ready (rs:=[6,12]) (by kernel_rfl) (by simp) ?_;refine AllReadyH.cons rfl (fun K hK=>?_) ?_
  ·refine CA (d:=21) (by rfl) (by rfl) (.tmp 16) (.tmp 18) (.tmp 20) (by rfl) (by rfl) (by rfl) (by rfl) ?_;intro wx6 gS hVS hk6 hg6;replace hK1S:=hK1S.keptN hk6;replace n6:=n6.kept hk6 (fun h=>h);refine hK.out _ _ (hHeld.thenN hk6) (fun hHeld=>?_);clear hK K;try simp only[Act.put,Qa,Qb,Qc]
   refine wpAnyH_ready (rs:=[7,12]) (by kernel_rfl) (by simp) ?_;refine AllReadyH.cons rfl (fun K hK=>?_) ?_
   ·go_simp;go_wp2_with (go_at_call 205;refine(HCS.out _ gS gK hHeld hVS hK1S).mono ?_;rintro e wx7 ⟨bA,mA,dA,rfl,oK,hk7⟩);replace oK:=oK.mem hHeld.size;replace hK1S:=hK1S.keptN hk7;replace hVS:=hVS.keptN hk7;replace n6:=n6.kept hk7 (fun h=>h);refine hK.out _ _ (hHeld.thenN hk7) (fun hHeld=>?_);clear hK K;try simp only[Act.put,Qa,Qb,Qc]
    refine wpAnyH_ready (rs:=[12]) (by kernel_rfl) (by simp) ?_;refine AllReadyH.cons rfl (fun K hK=>?_) ?_
    ·refine BG (d:=27) (by rfl) (by rfl) (.tmp 24) (.tmp 26) (by rfl) (by rfl) (by rfl) ?_;intro wx12 gI hVI hk12 hg12;replace oK:=oK.keptN hk12;replace n6:=n6.kept hk12 (fun h=>h);refine hK.out _ _ (hHeld.thenN hk12) (fun hHeld=>?_);clear hK K;try simp only[Act.put,Qa,Qb,Qc]
     refine wpAnyH_ready (rs:=[13]) (by kernel_rfl) (by simp) ?_;refine AllReadyH.cons rfl (fun K hK=>?_) ?_
     ·go_simp;go_wp2_with (go_at_call 206;refine(HCI.out _ gI hHeld hVI).mono ?_;rintro e wx13 ⟨bB,mB,dB,rfl,oD,hk13⟩);replace oD:=oD.mem hHeld.size;replace hVI:=hVI.keptN hk13;replace oK:=oK.keptN hk13;replace n6:=n6.kept hk13 (fun h=>h);refine hK.out _ _ (hHeld.thenN hk13) (fun hHeld=>?_);clear hK K;try simp only[Act.put,Qa,Qb,Qc]
      refine Aa (i:=14) (d:=29) (v:=?_) rfl rfl (by kernel_rfl) (by kernel_rfl) (by kernel_rfl) (fun _ _ _ h=>h) (Or.inl ⟨by rfl,?_⟩) (by assumption) ?_;rotate_left
      ·intro W hSW;try dsimp only at hSW
       go_simp;try with_reducible rfl
      try simp only[Act.put,Qa,Qb,Qc]
      refine wpAnyH_ready (rs:=[15]) (by kernel_rfl) (by simp) ?_;refine AllReadyH.cons rfl (fun K hK=>?_) ?_
      ·refine Ah (by rfl) (by rfl) (.tmp 6) (.tmp 29) (by rfl) (w.heap.size+1+1) (by rfl) (by rfl) n6 ?_;clear n6;intro wx15 n6 hk15;replace oK:=oK.kept hk15 (fun z hz e=>by have:=(oK.lt z hz).1;have:=HLT.out;unfold only at e;omega);replace oD:=oD.kept hk15 (fun z hz e=>by have:=(oD.lt z hz).1;have:=HLT.out;unfold only at e;omega);refine hK.out _ _ (hHeld.trans hk15 (fun _ _ h=>h) (fun k _ e=>by unfold only at e;show _<_;omega)) (fun hHeld=>?_);clear hK K
       try simp only[Act.put,Qa,Qb,Qc]
       refine wpAnyH_done (by kernel_rfl) ?_ _;try go_wp2
       refine bodyPost_ret (As rfl _ (w.heap.size+1+1) _ rfl n6) rfl ?_;exact⟨_,rfl,Nv.ownI oK.sl oD.sl HWK.out HWD.out,hK0.trans hHeld (fun _ _ h=>h) (fun k hk h=>absurd hk (by have h':w.heap.size+1<k:=h;omega)),FrV.of (FrV.nil _ _) (fun k e=>by have:=oK.lt k e;first|omega|(have:=hK0.size;omega)) (fun k e=>by have:=oD.lt k e;first|omega|(have:=hK0.size;omega))⟩
      exact AllReadyH.nil
     exact AllReadyH.nil
    exact AllReadyH.nil
   refine AllReadyH.cons rfl (fun K hK=>?_) ?_
   ·refine BG (d:=27) (by rfl) (by rfl) (.tmp 24) (.tmp 26) (by rfl) (by rfl) (by rfl) ?_;intro wx12 gI hVI hk12 hg12;replace hK1S:=hK1S.keptN hk12;replace hVS:=hVS.keptN hk12;replace n6:=n6.kept hk12 (fun h=>h);refine hK.out _ _ (hHeld.thenN hk12) (fun hHeld=>?_);clear hK K;try simp only[Act.put,Qa,Qb,Qc]
    refine wpAnyH_ready (rs:=[7]) (by kernel_rfl) (by simp) ?_;refine AllReadyH.cons rfl (fun K hK=>?_) ?_
    ·go_simp;go_wp2_with (go_at_call 205;refine(HCS.out _ gS gK hHeld hVS hK1S).mono ?_;rintro e wx7 ⟨bA,mA,dA,rfl,oK,hk7⟩);replace oK:=oK.mem hHeld.size;replace hK1S:=hK1S.keptN hk7;replace hVS:=hVS.keptN hk7;replace hVI:=hVI.keptN hk7;replace n6:=n6.kept hk7 (fun h=>h);refine hK.out _ _ (hHeld.thenN hk7) (fun hHeld=>?_);clear hK K;try simp only[Act.put,Qa,Qb,Qc]
     refine wpAnyH_ready (rs:=[13]) (by kernel_rfl) (by simp) ?_;refine AllReadyH.cons rfl (fun K hK=>?_) ?_
     ·go_simp;go_wp2_with (go_at_call 206;refine(HCI.out _ gI hHeld hVI).mono ?_;rintro e wx13 ⟨bB,mB,dB,rfl,oD,hk13⟩);replace oD:=oD.mem hHeld.size;replace hVI:=hVI.keptN hk13;replace oK:=oK.keptN hk13;replace n6:=n6.kept hk13 (fun h=>h);refine hK.out _ _ (hHeld.thenN hk13) (fun hHeld=>?_);clear hK K;try simp only[Act.put,Qa,Qb,Qc]
      refine Aa (i:=14) (d:=29) (v:=?_) rfl rfl (by kernel_rfl) (by kernel_rfl) (by kernel_rfl) (fun _ _ _ h=>h) (Or.inl ⟨by rfl,?_⟩) (by assumption) ?_;rotate_left
      ·intro W hSW;try dsimp only at hSW
       go_simp;try with_reducible rfl
      try simp only[Act.put,Qa,Qb,Qc]
      refine wpAnyH_ready (rs:=[15]) (by kernel_rfl) (by simp) ?_;refine AllReadyH.cons rfl (fun K hK=>?_) ?_
      ·refine Ah (by rfl) (by rfl) (.tmp 6) (.tmp 29) (by rfl) (w.heap.size+1+1) (by rfl) (by rfl) n6 ?_;clear n6;intro wx15 n6 hk15;replace oK:=oK.kept hk15 (fun z hz e=>by have:=(oK.lt z hz).1;have:=HLT.out;unfold only at e;omega);replace oD:=oD.kept hk15 (fun z hz e=>by have:=(oD.lt z hz).1;have:=HLT.out;unfold only at e;omega);refine hK.out _ _ (hHeld.trans hk15 (fun _ _ h=>h) (fun k _ e=>by unfold only at e;show _<_;omega)) (fun hHeld=>?_);clear hK K
       try simp only[Act.put,Qa,Qb,Qc]
       refine wpAnyH_done (by kernel_rfl) ?_ _;try go_wp2
       refine bodyPost_ret (As rfl _ (w.heap.size+1+1) _ rfl n6) rfl ?_;exact⟨_,rfl,Nv.ownI oK.sl oD.sl HWK.out HWD.out,hK0.trans hHeld (fun _ _ h=>h) (fun k hk h=>absurd hk (by have h':w.heap.size+1<k:=h;omega)),FrV.of (FrV.nil _ _) (fun k e=>by have:=oK.lt k e;first|omega|(have:=hK0.size;omega)) (fun k e=>by have:=oD.lt k e;first|omega|(have:=hK0.size;omega))⟩
      exact AllReadyH.nil
     exact AllReadyH.nil
    exact AllReadyH.nil
   exact AllReadyH.nil
  refine AllReadyH.cons rfl (fun K hK=>?_) ?_
  ·refine BG (d:=27) (by rfl) (by rfl) (.tmp 24) (.tmp 26) (by rfl) (by rfl) (by rfl) ?_;intro wx12 gI hVI hk12 hg12;replace hK1S:=hK1S.keptN hk12;replace n6:=n6.kept hk12 (fun h=>h);refine hK.out _ _ (hHeld.thenN hk12) (fun hHeld=>?_);clear hK K;try simp only[Act.put,Qa,Qb,Qc]
   refine wpAnyH_ready (rs:=[6]) (by kernel_rfl) (by simp) ?_;refine AllReadyH.cons rfl (fun K hK=>?_) ?_
   ·refine CA (d:=21) (by rfl) (by rfl) (.tmp 16) (.tmp 18) (.tmp 20) (by rfl) (by rfl) (by rfl) (by rfl) ?_;intro wx6 gS hVS hk6 hg6;replace hK1S:=hK1S.keptN hk6;replace hVI:=hVI.keptN hk6;replace n6:=n6.kept hk6 (fun h=>h);refine hK.out _ _ (hHeld.thenN hk6) (fun hHeld=>?_);clear hK K;try simp only[Act.put,Qa,Qb,Qc]
    refine wpAnyH_ready (rs:=[7]) (by kernel_rfl) (by simp) ?_;refine AllReadyH.cons rfl (fun K hK=>?_) ?_
    ·go_simp;go_wp2_with (go_at_call 205;refine(HCS.out _ gS gK hHeld hVS hK1S).mono ?_;rintro e wx7 ⟨bA,mA,dA,rfl,oK,hk7⟩);replace oK:=oK.mem hHeld.size;replace hK1S:=hK1S.keptN hk7;replace hVS:=hVS.keptN hk7;replace hVI:=hVI.keptN hk7;replace n6:=n6.kept hk7 (fun h=>h);refine hK.out _ _ (hHeld.thenN hk7) (fun hHeld=>?_);clear hK K;try simp only[Act.put,Qa,Qb,Qc]
     refine wpAnyH_ready (rs:=[13]) (by kernel_rfl) (by simp) ?_;refine AllReadyH.cons rfl (fun K hK=>?_) ?_
     ·go_simp;go_wp2_with (go_at_call 206;refine(HCI.out _ gI hHeld hVI).mono ?_;rintro e wx13 ⟨bB,mB,dB,rfl,oD,hk13⟩);replace oD:=oD.mem hHeld.size;replace hVI:=hVI.keptN hk13;replace oK:=oK.keptN hk13;replace n6:=n6.kept hk13 (fun h=>h);refine hK.out _ _ (hHeld.thenN hk13) (fun hHeld=>?_);clear hK K;try simp only[Act.put,Qa,Qb,Qc]
      refine Aa (i:=14) (d:=29) (v:=?_) rfl rfl (by kernel_rfl) (by kernel_rfl) (by kernel_rfl) (fun _ _ _ h=>h) (Or.inl ⟨by rfl,?_⟩) (by assumption) ?_;rotate_left
      ·intro W hSW;try dsimp only at hSW
       go_simp;try with_reducible rfl
      try simp only[Act.put,Qa,Qb,Qc]
      refine wpAnyH_ready (rs:=[15]) (by kernel_rfl) (by simp) ?_;refine AllReadyH.cons rfl (fun K hK=>?_) ?_
      ·refine Ah (by rfl) (by rfl) (.tmp 6) (.tmp 29) (by rfl) (w.heap.size+1+1) (by rfl) (by rfl) n6 ?_;clear n6;intro wx15 n6 hk15;replace oK:=oK.kept hk15 (fun z hz e=>by have:=(oK.lt z hz).1;have:=HLT.out;unfold only at e;omega);replace oD:=oD.kept hk15 (fun z hz e=>by have:=(oD.lt z hz).1;have:=HLT.out;unfold only at e;omega);refine hK.out _ _ (hHeld.trans hk15 (fun _ _ h=>h) (fun k _ e=>by unfold only at e;show _<_;omega)) (fun hHeld=>?_);clear hK K
       try simp only[Act.put,Qa,Qb,Qc]
       refine wpAnyH_done (by kernel_rfl) ?_ _;try go_wp2
       refine bodyPost_ret (As rfl _ (w.heap.size+1+1) _ rfl n6) rfl ?_;exact⟨_,rfl,Nv.ownI oK.sl oD.sl HWK.out HWD.out,hK0.trans hHeld (fun _ _ h=>h) (fun k hk h=>absurd hk (by have h':w.heap.size+1<k:=h;omega)),FrV.of (FrV.nil _ _) (fun k e=>by have:=oK.lt k e;first|omega|(have:=hK0.size;omega)) (fun k e=>by have:=oD.lt k e;first|omega|(have:=hK0.size;omega))⟩
      exact AllReadyH.nil
     exact AllReadyH.nil
    exact AllReadyH.nil
   exact AllReadyH.nil
  exact AllReadyH.nil
 refine AllReadyH.cons rfl (fun K hK=>?_) ?_
 ·refine BG (d:=27) (by rfl) (by rfl) (.tmp 24) (.tmp 26) (by rfl) (by rfl) (by rfl) ?_;intro wx12 gI hVI hk12 hg12;replace n6:=n6.kept hk12 (fun h=>h);refine hK.out _ _ (hHeld.thenN hk12) (fun hHeld=>?_);clear hK K;try simp only[Act.put,Qa,Qb,Qc]
  refine wpAnyH_ready (rs:=[3]) (by kernel_rfl) (by simp) ?_;refine AllReadyH.cons rfl (fun K hK=>?_) ?_
  ·refine Fu (d:=18) (by rfl) (by rfl) (.tmp 17) (by rfl) (by rfl) ?_;intro wx3 gK hK1S hk3 hg3;replace hVI:=hVI.keptN hk3;replace n6:=n6.kept hk3 (fun h=>h);refine hK.out _ _ (hHeld.thenN hk3) (fun hHeld=>?_);clear hK K;try simp only[Act.put,Qa,Qb,Qc]
   refine wpAnyH_ready (rs:=[6]) (by kernel_rfl) (by simp) ?_;refine AllReadyH.cons rfl (fun K hK=>?_) ?_
   ·refine CA (d:=21) (by rfl) (by rfl) (.tmp 16) (.tmp 18) (.tmp 20) (by rfl) (by rfl) (by rfl) (by rfl) ?_;intro wx6 gS hVS hk6 hg6;replace hK1S:=hK1S.keptN hk6;replace hVI:=hVI.keptN hk6;replace n6:=n6.kept hk6 (fun h=>h);refine hK.out _ _ (hHeld.thenN hk6) (fun hHeld=>?_);clear hK K;try simp only[Act.put,Qa,Qb,Qc]
    refine wpAnyH_ready (rs:=[7]) (by kernel_rfl) (by simp) ?_;refine AllReadyH.cons rfl (fun K hK=>?_) ?_
    ·go_simp;go_wp2_with (go_at_call 205;refine(HCS.out _ gS gK hHeld hVS hK1S).mono ?_;rintro e wx7 ⟨bA,mA,dA,rfl,oK,hk7⟩);replace oK:=oK.mem hHeld.size;replace hK1S:=hK1S.keptN hk7;replace hVS:=hVS.keptN hk7;replace hVI:=hVI.keptN hk7;replace n6:=n6.kept hk7 (fun h=>h);refine hK.out _ _ (hHeld.thenN hk7) (fun hHeld=>?_);clear hK K;try simp only[Act.put,Qa,Qb,Qc]
     refine wpAnyH_ready (rs:=[13]) (by kernel_rfl) (by simp) ?_;refine AllReadyH.cons rfl (fun K hK=>?_) ?_
     ·go_simp;go_wp2_with (go_at_call 206;refine(HCI.out _ gI hHeld hVI).mono ?_;rintro e wx13 ⟨bB,mB,dB,rfl,oD,hk13⟩);replace oD:=oD.mem hHeld.size;replace hVI:=hVI.keptN hk13;replace oK:=oK.keptN hk13;replace n6:=n6.kept hk13 (fun h=>h);refine hK.out _ _ (hHeld.thenN hk13) (fun hHeld=>?_);clear hK K;try simp only[Act.put,Qa,Qb,Qc]
      refine Aa (i:=14) (d:=29) (v:=?_) rfl rfl (by kernel_rfl) (by kernel_rfl) (by kernel_rfl) (fun _ _ _ h=>h) (Or.inl ⟨by rfl,?_⟩) (by assumption) ?_;rotate_left
      ·intro W hSW;try dsimp only at hSW
       go_simp;try with_reducible rfl
      try simp only[Act.put,Qa,Qb,Qc]
      refine wpAnyH_ready (rs:=[15]) (by kernel_rfl) (by simp) ?_;refine AllReadyH.cons rfl (fun K hK=>?_) ?_
      ·refine Ah (by rfl) (by rfl) (.tmp 6) (.tmp 29) (by rfl) (w.heap.size+1+1) (by rfl) (by rfl) n6 ?_;clear n6;intro wx15 n6 hk15;replace oK:=oK.kept hk15 (fun z hz e=>by have:=(oK.lt z hz).1;have:=HLT.out;unfold only at e;omega);replace oD:=oD.kept hk15 (fun z hz e=>by have:=(oD.lt z hz).1;have:=HLT.out;unfold only at e;omega);refine hK.out _ _ (hHeld.trans hk15 (fun _ _ h=>h) (fun k _ e=>by unfold only at e;show _<_;omega)) (fun hHeld=>?_);clear hK K
       try simp only[Act.put,Qa,Qb,Qc]
       refine wpAnyH_done (by kernel_rfl) ?_ _;try go_wp2
       refine bodyPost_ret (As rfl _ (w.heap.size+1+1) _ rfl n6) rfl ?_;exact⟨_,rfl,Nv.ownI oK.sl oD.sl HWK.out HWD.out,hK0.trans hHeld (fun _ _ h=>h) (fun k hk h=>absurd hk (by have h':w.heap.size+1<k:=h;omega)),FrV.of (FrV.nil _ _) (fun k e=>by have:=oK.lt k e;first|omega|(have:=hK0.size;omega)) (fun k e=>by have:=oD.lt k e;first|omega|(have:=hK0.size;omega))⟩
      exact AllReadyH.nil
     exact AllReadyH.nil
    exact AllReadyH.nil
   exact AllReadyH.nil
  exact AllReadyH.nil
 exact AllReadyH.nil
set_option maxRecDepth 100000 in
theorem Ke(x y:Value)(n m:Nd)(B:Nat)(k:ByteArray)(w:World)(hN:Nv B w x n)(hM:Nv B w y m)(hl:n.leaf=true)(h1:n.ps.length<=1048576)(h2:m.ps.length<=1048576) :
  Calls prog 181 #[x,y,.string k] w fun e w'=>∃z,e=.returned z/\Nv w'.heap.size w' z (n.join m k)/\Kp none' w w'/\FrV w.heap.size w'.heap.size z:=by
 have HJ:Hid (n.join m k=⟨true,[n.ps,m.ps].flatten,[],[]⟩):=by show _=_;unfold Nd.join;simp[hl]
 have HWL:Hid (∀p∈[n.ps,m.ps].flatten,p.k.size<=maxLen/\p.v.size<=maxLen):=by
  intro p hp;simp only[List.flatten_cons,List.flatten_nil,List.append_nil,List.mem_append]at hp;rcases hp with hp|hp
  ·exact hN.wf.p p hp
  ·exact hM.wf.p p hp
 rw[HJ.out];obtain⟨⟨pv,kv,dv,rfl,hP,hS,hD⟩,_⟩:=hN;obtain⟨⟨pv',kv',dv',rfl,hP',hS',hD'⟩,_⟩:=hM;obtain⟨p1,c1,e1,_⟩:=id hP;obtain⟨p2,c2,e2,_⟩:=id hS;obtain⟨p3,c3,e3,_⟩:=id hD;obtain⟨p4,c4,e4,_⟩:=id hP';obtain⟨p5,c5,e5,_⟩:=id hS';obtain⟨p6,c6,e6,_⟩:=id hD';subst e1 e2 e3 e4 e5 e6;rw[hl];obtain⟨lp,Hlp⟩:∃l,Hid (n.ps.length=l):=⟨_,rfl⟩;obtain⟨lk,Hlk⟩:∃l,Hid (n.ks.length=l):=⟨_,rfl⟩;obtain⟨ld,Hld⟩:∃l,Hid (n.kd.length=l):=⟨_,rfl⟩;obtain⟨lp',Hlp'⟩:∃l,Hid (m.ps.length=l):=⟨_,rfl⟩
 obtain⟨lk',Hlk'⟩:∃l,Hid (m.ks.length=l):=⟨_,rfl⟩;obtain⟨ld',Hld'⟩:∃l,Hid (m.kd.length=l):=⟨_,rfl⟩;obtain⟨lf',Hlf'⟩:∃l,Hid (m.leaf=l):=⟨_,rfl⟩;have HLS:Hid ([n.ps,m.ps].flatten.length<=100000000):=by show _<=_;simp;omega
 rw[Hlp.out,Hlk.out,Hld.out,Hlp'.out,Hlk'.out,Hld'.out,Hlf'.out];rw[Hlp.out]at hP;rw[Hlp'.out]at hP';obtain⟨o0,ho0⟩:∃o,o=Obj.cells #[.bool true,.slice p1 lp c1,.slice p2 lk c2,.slice p3 ld c3] 35:=⟨_,rfl⟩;obtain⟨o1,ho1⟩:∃o,o=Obj.cells #[.bool lf',.slice p4 lp' c4,.slice p5 lk' c5,.slice p6 ld' c6] 35:=⟨_,rfl⟩;obtain⟨o2,ho2⟩:∃o,o=Obj.cells #[.bool false,.slice none 0 0,.slice none 0 0,.slice none 0 0] 35:=⟨_,rfl⟩
 have hx0:Nb (w.alloc o0) w.heap.size true (.slice p1 lp c1) (.slice p2 lk c2) (.slice p3 ld c3):=by rw[ho0];exact Nb.new _ _ _ _ _
 have hy0:Nb ((w.alloc o0).alloc o1) (w.heap.size+1) lf' (.slice p4 lp' c4) (.slice p5 lk' c5) (.slice p6 ld' c6):=by
  have:=Nb.new (w.alloc o0) lf' (.slice p4 lp' c4) (.slice p5 lk' c5) (.slice p6 ld' c6);rw[show (w.alloc o0).heap.size=w.heap.size+1 by simp,<-ho1]at this;exact this
 have n6:Nb (((w.alloc o0).alloc o1).alloc o2) (w.heap.size+1+1) false (.slice none 0 0) (.slice none 0 0) (.slice none 0 0):=by
  have:=Nb.new ((w.alloc o0).alloc o1) false (.slice none 0 0) (.slice none 0 0) (.slice none 0 0);rw[show ((w.alloc o0).alloc o1).heap.size=w.heap.size+1+1 by simp,<-ho2]at this;exact this
 have hx1:=(hx0.kept (Kp.alloc none' _ o1) (fun h=>h)).kept (Kp.alloc none' _ o2) (fun h=>h);have hy1:=hy0.kept (Kp.alloc none' _ o2) (fun h=>h);have hK0:Kp none' w (((w.alloc o0).alloc o1).alloc o2):=((Kp.alloc _ _ _).thenN (Kp.alloc _ _ _)).thenN (Kp.alloc _ _ _);subst ho0 ho1 ho2;clear hS hS' hD hD' h1 h2 hl;obtain⟨L,HL⟩:∃L,Hid ([n.ps,m.ps].flatten=L):=⟨[n.ps,m.ps].flatten,hide rfl⟩;rw[HL.out]at HWL |-;go_enter func181,ntmps181;go_upto_region 2 with fail
 generalize ((w.alloc (Obj.cells #[.bool true,.slice p1 lp c1,.slice p2 lk c2,.slice p3 ld c3] 35)).alloc (Obj.cells #[.bool lf',.slice p4 lp' c4,.slice p5 lk' c5,.slice p6 ld' c6] 35)).alloc (Obj.cells #[.bool false,.slice none 0 0,.slice none 0 0,.slice none 0 0] 35)=w1 at *;have HLT:Hid (w.heap.size+1+1<w1.heap.size):=n6.lt;have c1':=hx1.c1;have c2':=hy1.c1;have hKp:Kp none' w1 (w1.alloc (.cells #[.slice p1 lp c1,.slice p4 lp' c4] 31)):=Kp.alloc _ _ _
 have HLF:Hid (Calls prog 64 #[.slice (some ⟨w1.heap.size,0,none⟩) 2 2] (w1.alloc (.cells #[.slice p1 lp c1,.slice p4 lp' c4] 31)) fun e w'=>∃a m c,e=.returned (.agg #[.bool true,.slice a m c,.slice none 0 0,.slice none 0 0])/\OwP w' w1.heap.size (.slice a m c) L/\Kp none' w1 w'/\Nb w' (w.heap.size+1+1) false (.slice none 0 0) (.slice none 0 0) (.slice none 0 0)):=by
  refine(CN _ [.slice p1 lp c1,.slice p4 lp' c4] [n.ps,m.ps] (w1.heap.size+1) B _ (BI w1 [.slice p1 lp c1,.slice p4 lp' c4] 31 w1.heap.size 2 rfl rfl (by omega)) rfl ?_ HLS.out).mono ?_
  ·intro i h h';match i,h with
   | 0,_=>exact hP.keptN (hK0.thenN hKp)
   | 1,_=>exact hP'.keptN (hK0.thenN hKp)
  ·rintro e w' ⟨b,e',rfl,hO,hK⟩;rw[HL.out]at hO |-;exact⟨_,_,_,rfl,hO.mono (by simp),hKp.thenN hK,n6.kept (hKp.thenN hK) (fun h=>h)⟩
 clear hP hP' hx0 hx1 hy0 hy1 n6;go_wp2_with (first
  | (go_at_call 64;refine HLF.out.mono ?_;rintro e w2 ⟨a6,m6,c6,rfl,hO2,hK2,n6⟩)
  | (refine Af rfl rfl (.tmp 6) (.tmp 14) rfl (w.heap.size+1+1) rfl rfl n6 ?_;clear n6;intro w3 n6 hK3)
  | fail)
 refine bodyPost_ret (As rfl _ (w.heap.size+1+1) _ rfl n6) rfl ?_;exact⟨_,rfl,Nv.own (hO2.kept hK3 (fun z hz e=>by have:=(hO2.lt z hz).1;have:=HLT.out;unfold only at e;omega)).prs HWL.out,Ax (hK0.thenN hK2) (by omega) hK3,FrV.of (fun k e=>by have:=hO2.lt k e;have:=HLT.out;first|omega|(have:=hK3.size;omega)) (FrV.nil _ _) (FrV.nil _ _)⟩
theorem Gq(x y:Value)(n m:Nd)(B:Nat)(k:ByteArray)(w:World)(hN:Nv B w x n)(hM:Nv B w y m)(hB:B<=w.heap.size)(hkm:k.size<=maxLen)(h0:n.ps.length<=1048576)(h0':m.ps.length<=1048576)(h1:n.ks.length<=1048576)(h2:m.ks.length<=1048576)(h3:n.kd.length<=1048577)(h4:m.kd.length<=1048577) :
  Calls prog 181 #[x,y,.string k] w fun e w'=>∃z,e=.returned z/\Nv w'.heap.size w' z (n.join m k)/\Kp none' w w'/\FrV w.heap.size w'.heap.size z:=by
 cases h:n.leaf with
 | true=>exact Ke x y n m B k w hN hM h h0 h0'
 | false=>exact IT x y n m B k w hN hM hB hkm h h1 h2 h3 h4
end Go.Proofs.YtgcgacjhkhjhmaaGreatDoor
