/- Part of the proof: contracts over the turned program. -/
import Derived.Test.YtgcgacjhkhjhmaaGreatDoorX20
set_option linter.unusedVariables false
set_option maxHeartbeats 4000000
open Go.Proofs.Tryz
namespace Go.Proofs.YtgcgacjhkhjhmaaGreatDoor
def DownR (S : Sw) (n : Nat) (U : Nat → Bool) (K d : Nat) (z : Int) (og : List Int) (lo hi : ByteArray) (prs : List Pr) (R : Gr) : Prop :=
  (R.e = 8 ∧ Ac S n U R.C) ∨ (R.e = 0 ∧ R.C.k ≤ K ∧ ∃ f : Fo d, fOk d f lo hi ∧ fIn R.C.at d f ∧ fprs d f = prs ∧
    ((R.go = true ∧ R.ab = fnd d f ∧ (fnd d f).size ≤ 330 ∧ Pst S n U R.C og (z :: fpgs d f) (fpgs d f)) ∨
     (R.go = false ∧ R.C.at z = some (fnd d f) ∧ fne d f ∧ (fnd d f).size ≤ 256 ∧ Pst S n U R.C og (z :: fpgs d f) (z :: fpgs d f))))
structure Cx (S:Sw) (n:Nat) (U:Nat->Bool) (d:Nat) (z:Int) (ks:List ByteArray) (ts:List (Int × Fo d)) (lo hi:ByteArray):Prop where
 hS:Tk S n U
 hf:fOk (d+1) (ks,ts) lo hi
 hin:fIn (vS S) (d+1) (ks,ts)
 ho:OgOk n U (z::fpgs (d+1) (ks,ts))
 hz:vS S z=some (fnd (d+1) (ks,ts))
 hne:ks≠[]
 hsz:(fnd (d+1) (ks,ts)).size<=256
theorem Cx.og{S:Sw}{n:Nat}{U:Nat->Bool}{d:Nat}{z:Int}{ks:List ByteArray}{A G B:List (Int × Fo d)}{lo hi:ByteArray}(h:Cx S n U d z ks (A++G++B) lo hi):OgOk n U (G.flatMap (tpg d)):=by
 have ho:=h.ho;rw[BT,List.flatMap_append,List.flatMap_append]at ho;refine⟨fun x=>?_,fun x hx=>ho.2 x (List.mem_cons_of_mem _ (List.mem_append_left _ (List.mem_append_right _ hx)))⟩;have:=ho.1 x;simp only[List.count_cons,List.count_append]at this;omega
theorem Pst.used{S:Sw}{n:Nat}{U:Nat->Bool}{C:Cg}{og ng wg:List Int}(h:Pst S n U C og ng wg)(ho:OgOk n U og){y:Int}(hy:y∈ng):0<y/\y<(n:Int)/\(U y.toNat||C.tk.contains y)=true:=by
 have h1:=h.pm y;have h2:=Ae.1 hy;by_cases e:0<og.count y
 ·have:=ho.2 y (Ae.2 e);exact⟨this.1,this.2.1,by rw[this.2.2];rfl⟩
 ·have hm:y∈C.tk:=Ae.2 (by omega);have:=h.ac.tk y hm;exact⟨this.1,this.2.1,by rw[List.contains_iff_mem.2 hm];simp⟩
theorem JA{C:Cg}{a b y:Int}{x x':Nd}(h:y≠a)(h':y≠b):((C.write a x).write b x').at y=C.at y:=by rw[BE h',BE h]
theorem BD(d:Nat)(ks:List ByteArray)(ts:List (Int × Fo d)):fprs (d+1) (ks,ts)=ts.flatMap (fun t=>fprs d t.2):=rfl
theorem O2(ks:List ByteArray)(i:Nat)(x:ByteArray):((ks.take i++[x]++ks.drop i).map kSize).sum=(ks.map kSize).sum+kSize x:=by
 have:=Au kSize ks i;simp only[List.map_append,List.sum_append,List.map_cons,List.map_nil,List.sum_cons,List.sum_nil];omega
theorem H7(ks:List ByteArray)(i j:Nat)(h:i<=j)(x:List ByteArray):((ks.take i++x++ks.drop j).map kSize).sum<=(ks.map kSize).sum+(x.map kSize).sum:=by
 have h1:=Au kSize ks i;have h2:=Au kSize (ks.drop i) (j - i);rw[List.drop_drop,show i+(j - i)=j by omega]at h2;simp only[List.map_append,List.sum_append];omega
theorem DI{k:ByteArray}(h:okKey k=true):kSize k<=35:=by have:=AN h;show 3+k.size<=35;omega
theorem Lx{S:Sw}{n:Nat}{U:Nat->Bool}{K d:Nat}{z:Int}{ks:List ByteArray}{A B:List (Int × Fo d)}{s:Int × Fo d}{lo hi:ByteArray}(X:Cx S n U d z ks (A++[s]++B) lo hi)(C:Cg)(f1:Fo d)(hok:fOk d f1 (lowB ks lo A.length) (ks.getD A.length hi))(hin:fIn C.at d f1)(hz:C.at s.1=some (fnd d f1))(hne:fne d f1)(hsz:(fnd d f1).size<=256)(hP:Pst S n U C (tpg d s) (s.1::fpgs d f1) (s.1::fpgs d f1))(hk:C.k<=K)(ab:Nd) :
  DownR S n U K (d+1) z (z::fpgs (d+1) (ks,A++[s]++B)) lo hi (A.flatMap (fun t=>fprs d t.2)++fprs d f1++B.flatMap (fun t=>fprs d t.2)) ⟨C,ab,false,0⟩:=by
 have hs:=X.og.2 s.1 (by simp[tpg]);have hn:=X.hS.l1;have hG:([s]:List (Int × Fo d)).flatMap (tpg d)=tpg d s:=by simp
 have hG':([(s.1,f1)]:List (Int × Fo d)).flatMap (tpg d)=s.1::fpgs d f1:=by simp[tpg]
 obtain⟨r1,r2,r3,r4⟩:=D3 X.hS d z ks A [s] B lo hi X.hf X.hin X.ho C [(s.1,f1)] [] (by simp) (by
  show tOk d (s.1,f1) _ (ks.getD (A.length+1 - 1) hi);rw[show A.length+1 - 1=A.length by omega];exact⟨⟨by omega,by show s.1<=65535;omega⟩,hne,hsz,hok⟩) (fun k hk=>by cases hk) (by rw[hG,hG'];exact hP) (fun t ht=>by rw[List.mem_singleton.1 ht];exact⟨hz,hin⟩)
 have ek:ks.take A.length++[]++ks.drop (A.length+[s].length - 1)=ks:=by
  rw[List.append_nil,show A.length+[s].length - 1=A.length by simp,List.take_append_drop]
 rw[ek]at r1 r2 r3;have en:fnd (d+1) (ks,A++[(s.1,f1)]++B)=fnd (d+1) (ks,A++[s]++B):=by
  show (⟨false,[],ks,(A++[(s.1,f1)]++B).map Prod.fst⟩:Nd)=⟨false,[],ks,(A++[s]++B).map Prod.fst⟩;simp
 refine .inr ⟨rfl,hk,(ks,A++[(s.1,f1)]++B),r1,r2,by rw[BD];simp,.inr ⟨rfl,by rw[r4,en];exact X.hz,X.hne,by rw[en];exact X.hsz,?_⟩⟩;exact⟨r3.ac,r3.pm,r3.wn,r3.we,fun p hp=>List.mem_cons_of_mem _ (r3.wi p hp)⟩
theorem Ju{S:Sw}{n:Nat}{U:Nat->Bool}{K d:Nat}{z:Int}{ks:List ByteArray}{A B:List (Int × Fo d)}{s:Int × Fo d}{lo hi:ByteArray}(X:Cx S n U d z ks (A++[s]++B) lo hi)(C:Cg)(f1:Fo d)(hok:fOk d f1 (lowB ks lo A.length) (ks.getD A.length hi))(hin:fIn C.at d f1)(hne:fne d f1)(hsz:(fnd d f1).size<=256)(hP:Pst S n U C (tpg d s) (s.1::fpgs d f1) (fpgs d f1))(hk:C.k<=K)(ab:Nd) :
  DownR S n U K (d+1) z (z::fpgs (d+1) (ks,A++[s]++B)) lo hi (A.flatMap (fun t=>fprs d t.2)++fprs d f1++B.flatMap (fun t=>fprs d t.2)) ⟨C.write s.1 (fnd d f1),ab,false,0⟩:=by
 have hG:([s]:List (Int × Fo d)).flatMap (tpg d)=tpg d s:=by simp
 have hog:=X.og;rw[hG]at hog;have h1:=hP.one hog s.1;simp only[List.count_cons,beq_self_eq_true,if_pos]at h1;have hno:=hP.ws_no (z:=s.1) (by omega);refine Lx X (C.write s.1 (fnd d f1)) f1 hok (Bm d f1 hin (fun y hy=>BE (fun e=>?_))) (at_new (CY hno)) hne hsz (hP.write s.1 _ hno ((AQ (AG d f1 _ _ hok)).2 hsz) (fun y hy=>List.mem_cons_of_mem _ hy) List.mem_cons_self) hk ab;have:=Ae.1 hy;rw[e]at this;omega
theorem OF{S:Sw}{n:Nat}{U:Nat->Bool}{K d:Nat}{z:Int}{ks:List ByteArray}{A B:List (Int × Fo d)}{s:Int × Fo d}{lo hi:ByteArray}(X:Cx S n U d z ks (A++[s]++B) lo hi)(C:Cg)(f1:Fo d)(hok:fOk d f1 (lowB ks lo A.length) (ks.getD A.length hi))(hin:fIn C.at d f1)(hg:256<(fnd d f1).size)(hsz:(fnd d f1).size<=330)(hP:Pst S n U C (tpg d s) (s.1::fpgs d f1) (fpgs d f1))(hk:C.k<=K) :
  DownR S n U K (d+1) z (z::fpgs (d+1) (ks,A++[s]++B)) lo hi (A.flatMap (fun t=>fprs d t.2)++fprs d f1++B.flatMap (fun t=>fprs d t.2)) ⟨C.split s.1 (fnd d f1),C.splitAb A.length (fnd d f1) (fnd (d+1) (ks,A++[s]++B)),true,C.takeZ.2⟩:=by
 have hG:([s]:List (Int × Fo d)).flatMap (tpg d)=tpg d s:=by simp
 have hog:=X.og;rw[hG]at hog;obtain⟨t1,t2,t3,t4⟩:=hP.ac.take;rcases t4 with t4|⟨t4,t5,t6⟩
 ·refine .inl ⟨t4,?_⟩;show Ac S n U (C.split s.1 (fnd d f1));unfold Cg.split;rw[t4,if_neg (by decide)];exact t1
 ·obtain⟨fa,fb,q1,q2,q3,q4,q5,q6,q7,q8,q9,q10,q11,q12⟩:=JT d f1 _ _ hok hg hsz;obtain⟨p,hp⟩:∃p,p=C.takeZ.1:=⟨_,rfl⟩;rw[<-hp]at t5;have hG':([(s.1,fa),(p,fb)]:List (Int × Fo d)).flatMap (tpg d)=(s.1::fpgs d fa)++(p::fpgs d fb):=by simp[tpg]
  have hP1:Pst S n U C.take (tpg d s) ((s.1::fpgs d fa)++(p::fpgs d fb)) (fpgs d f1):=by
   refine⟨t1,fun x=>?_,by rw[t2];exact hP.wn,by rw[t2];exact hP.we,by rw[t2];exact hP.wi⟩;have a1:=t5 x;have a2:=hP.pm x;rw[q10]at a2;simp only[List.count_append,List.count_cons,List.count_nil]at a1 a2 |-;omega
  have hone:=hP1.one hog;have c1:=hone s.1;have c2:=hone p;simp only[List.count_append,List.count_cons,beq_self_eq_true,if_pos]at c1 c2;have hsp:s.1≠p:=fun e=>by rw[e]at c1;simp only[beq_self_eq_true,if_pos]at c1;omega
  have hf1:∀y,(fpgs d f1).count y=(fpgs d fa).count y+(fpgs d fb).count y:=fun y=>by rw[q10,List.count_append]
  have hno:=hP1.ws_no (z:=s.1) (by rw[hf1];omega);have hno2:p ∉ (C.take.write s.1 (fnd d fa)).ws.map Prod.fst:=by
   show p ∉ (C.take.ws++[(s.1,fnd d fa)]).map Prod.fst;rw[List.map_append];intro hm;rcases List.mem_append.1 hm with e|e
   ·exact hP1.ws_no (z:=p) (by rw[hf1];omega) e
   ·have:p=s.1:=by simpa using e
    exact hsp this.symm
  have hra:=(AQ (AG d fa _ _ q3)).2 q7;have hrb:=(AQ (AG d fb _ _ q4)).2 q8;have hP2:Pst S n U (C.take.write s.1 (fnd d fa)) (tpg d s) ((s.1::fpgs d fa)++(p::fpgs d fb)) (s.1::fpgs d f1):=hP1.write s.1 _ hno hra (fun y hy=>List.mem_cons_of_mem _ hy) List.mem_cons_self;have hP3:Pst S n U ((C.take.write s.1 (fnd d fa)).write p (fnd d fb)) (tpg d s) ((s.1::fpgs d fa)++(p::fpgs d fb)) ((s.1::fpgs d fa)++(p::fpgs d fb)):=hP2.write p _ hno2 hrb (fun y hy=>by
   rcases List.mem_cons.1 hy with e|e
   ·rw[e];simp
   ·rw[q10]at e;rcases List.mem_append.1 e with e|e
    ·exact List.mem_append_left _ (List.mem_cons_of_mem _ e)
    ·exact List.mem_append_right _ (List.mem_cons_of_mem _ e)) (by simp)
  have hup:0<p/\p<(n:Int):=by
   have:=hP3.used hog (y:=p) (by simp);exact⟨this.1,this.2.1⟩
  have hus:0<s.1/\s.1<(n:Int):=by
   have:=hog.2 s.1 List.mem_cons_self;exact⟨this.1,this.2.1⟩
  have hn:=X.hS.l1;have hat:∀y∈fpgs d f1,((C.take.write s.1 (fnd d fa)).write p (fnd d fb)).at y=C.at y:=fun y hy=>by
   have hc:=Ae.1 hy;rw[hf1]at hc;have h1:y≠s.1:=fun e=>by rw[e]at hc;omega
   have h2:y≠p:=fun e=>by rw[e]at hc;omega
   rw[JA h1 h2];have:=hP.used hog (List.mem_cons_of_mem s.1 hy);exact t6 y this.1 this.2.1 this.2.2
  have hinab:=q12 _ (Bm (V':=((C.take.write s.1 (fnd d fa)).write p (fnd d fb)).at) d f1 hin hat);have esplit:C.split s.1 (fnd d f1)=(C.take.write s.1 (fnd d fa)).write p (fnd d fb):=by unfold Cg.split;rw[t4,if_pos rfl,q1,q2,hp]
  obtain⟨r1,r2,r3,r4⟩:=D3 X.hS d z ks A [s] B lo hi X.hf X.hin X.ho ((C.take.write s.1 (fnd d fa)).write p (fnd d fb)) [(s.1,fa),(p,fb)] [(fnd d f1).mid] (by simp) (by
   show tOk d (s.1,fa) _ _/\tOk d (p,fb) _ (ks.getD (A.length+1 - 1) hi);rw[show A.length+1 - 1=A.length by omega];exact⟨⟨⟨by show 1<=s.1;omega,by show s.1<=65535;omega⟩,q5,q7,q3⟩,⟨⟨by show 1<=p;omega,by show p<=65535;omega⟩,q6,q8,q4⟩⟩) (fun k hk=>by rw[List.mem_singleton.1 hk];exact q9) (by rw[hG,hG'];exact hP3) (fun t ht=>by
    rcases List.mem_cons.1 ht with e|e
    ·rw[e];exact⟨by show ((C.take.write s.1 (fnd d fa)).write p (fnd d fb)).at s.1=_;rw[BE hsp];exact at_new (CY hno),hinab.1⟩
    ·rw[List.mem_singleton.1 e];exact⟨at_new (CY hno2),hinab.2⟩)
  have ek:ks.drop (A.length+[s].length - 1)=ks.drop A.length:=by rw[show A.length+[s].length - 1=A.length by simp]
  rw[ek]at r1 r2 r3;refine .inr ⟨t4,by show (C.split s.1 (fnd d f1)).k<=K;rw[esplit];show C.take.k<=K;rw[t3];exact hk,(ks.take A.length++[(fnd d f1).mid]++ks.drop A.length,A++[(s.1,fa),(p,fb)]++B),r1,by show fIn (C.split s.1 (fnd d f1)).at _ _;rw[esplit];exact r2,by rw[BD,q11];simp,.inl ⟨rfl,?_,?_,by show Pst S n U (C.split s.1 (fnd d f1)) _ _ _;rw[esplit];exact r3⟩⟩
  ·show C.splitAb A.length (fnd d f1) (fnd (d+1) (ks,A++[s]++B))=_;unfold Cg.splitAb;rw[t4,if_pos rfl];show (⟨false,[],insAt ks A.length (fnd d f1).mid,insAt ((A++[s]++B).map Prod.fst) (A.length+1) C.takeZ.1⟩:Nd)=⟨false,[],ks.take A.length++[(fnd d f1).mid]++ks.drop A.length,(A++[(s.1,fa),(p,fb)]++B).map Prod.fst⟩;rw[<-hp];unfold insAt;have e1:((A++[s]++B).map Prod.fst).take (A.length+1)=A.map Prod.fst++[s.1]:=by
    rw[<-List.map_take,CX A [s] B 1 (by simp)];simp
   have e2:((A++[s]++B).map Prod.fst).drop (A.length+1)=B.map Prod.fst:=by
    rw[<-List.map_drop,CJ A [s] B 1 (by simp)];simp
   rw[e1,e2];simp
  ·show 4+((ks.take A.length++[(fnd d f1).mid]++ks.drop A.length).map kSize).sum<=330;rw[O2];have h1:4+(ks.map kSize).sum<=256:=X.hsz;have h2:=DI q9;omega
theorem Cx.pair{S:Sw}{n:Nat}{U:Nat->Bool}{d:Nat}{z:Int}{ks:List ByteArray}{A B:List (Int × Fo d)}{u v:Int × Fo d}{lo hi:ByteArray}(X:Cx S n U d z ks (A++[u,v]++B) lo hi) :
  A.length<ks.length/\okKey (ks.getD A.length ⟨#[]⟩)=true/\tOk d u (lowB ks lo A.length) (ks.getD A.length ⟨#[]⟩)/\tOk d v (ks.getD A.length ⟨#[]⟩) (ks.getD (A.length+1) hi)/\lessB (lowB ks lo A.length) (ks.getD A.length ⟨#[]⟩)=true/\((ks.getD (A.length+1) hi).size=0\/lessB (ks.getD A.length ⟨#[]⟩) (ks.getD (A.length+1) hi)=true):=by
 have hlen:(A++[u,v]++B).length=ks.length+1:=Bb _ _ _ _ X.hf.2;have hl:A.length<ks.length:=by simp only[List.length_append,List.length_cons,List.length_nil]at hlen;omega
 have h1:=(DK A [u,v] B ks lo hi (by simp) X.hf.2).1;have e:(ks.drop A.length).take ([u,v].length - 1)=[ks.getD A.length ⟨#[]⟩]:=by
  rw[List.drop_eq_getElem_cons hl,List.getD_eq_getElem?_getD,List.getElem?_eq_getElem hl];rfl
 rw[e,show A.length+[u,v].length - 1=A.length+1 by simp]at h1;have hk:okKey (ks.getD A.length ⟨#[]⟩)=true:=by
  rw[List.getD_eq_getElem?_getD,List.getElem?_eq_getElem hl];exact X.hf.1 _ (List.getElem_mem hl)
 obtain⟨h2,h3⟩:=h1;have h3':tOk d v (ks.getD A.length ⟨#[]⟩) (ks.getD (A.length+1) hi):=h3;refine⟨hl,hk,h2,h3',?_,?_⟩
 ·rcases (Dd d u _ _ h2).lt with e|e
  ·have:=AN hk;omega
  ·exact e
 ·exact(Dd d v _ _ h3').lt
structure Two (S:Sw) (n:Nat) (U:Nat->Bool) (d:Nat) (ks:List ByteArray) (i:Nat) (lo hi:ByteArray) (C:Cg) (u v:Int × Fo d) (fu fv:Fo d):Prop where
 ou:fOk d fu (lowB ks lo i) (ks.getD i ⟨#[]⟩)
 ov:fOk d fv (ks.getD i ⟨#[]⟩) (ks.getD (i+1) hi)
 iu:fIn C.at d fu
 iv:fIn C.at d fv
 ps:Pst S n U C (tpg d u++tpg d v) ((u.1::fpgs d fu)++(v.1::fpgs d fv)) (fpgs d fu++fpgs d fv)
theorem Cx.og2{S:Sw}{n:Nat}{U:Nat->Bool}{d:Nat}{z:Int}{ks:List ByteArray}{A B:List (Int × Fo d)}{u v:Int × Fo d}{lo hi:ByteArray}(X:Cx S n U d z ks (A++[u,v]++B) lo hi):OgOk n U (tpg d u++tpg d v):=by
 have:=X.og;simpa using this
theorem Gf{α:Type}(A:List α)(u v:α)(B:List α):(A++[u,v]++B).eraseIdx (A.length+1)=A++[u]++B/\(A++[u,v]++B).eraseIdx A.length=A++[v]++B:=by
 constructor
 ·rw[List.eraseIdx_eq_take_drop_succ,CX A [u,v] B 1 (by simp),show A.length+1+1=A.length+2 by omega,CJ A [u,v] B 2 (by simp)];simp
 ·have h1:=CX A [u,v] B 0 (by simp);rw[Nat.add_zero]at h1;rw[List.eraseIdx_eq_take_drop_succ,h1,CJ A [u,v] B 1 (by simp)];simp
theorem MG{S:Sw}{n:Nat}{U:Nat->Bool}{K d:Nat}{z:Int}{ks:List ByteArray}{A B:List (Int × Fo d)}{u v:Int × Fo d}{lo hi:ByteArray}(X:Cx S n U d z ks (A++[u,v]++B) lo hi)(C:Cg)(fu fv:Fo d)(T:Two S n U d ks A.length lo hi C u v fu fv)(hne:fne d fu\/fne d fv)(hsz:(fnd d (fjoin d fu fv (ks.getD A.length ⟨#[]⟩))).size<=256)(kz:Nat)(hkz:kz<=K) :
  DownR S n U K (d+1) z (z::fpgs (d+1) (ks,A++[u,v]++B)) lo hi (A.flatMap (fun t=>fprs d t.2)++(fprs d fu++fprs d fv)++B.flatMap (fun t=>fprs d t.2)) ⟨{ ({ C with k:=kz }.write u.1 (fnd d (fjoin d fu fv (ks.getD A.length ⟨#[]⟩))))with sp:=C.sp++[v.1] },(fnd (d+1) (ks,A++[u,v]++B)).lose (A.length+1),true,0⟩:=by
 obtain⟨hl,hok,tu,tv,hlt,hgt⟩:=X.pair;have hog:=X.og2;have hJ:=E9 d fu fv _ _ _ T.ou T.ov hok hlt hgt;have hone:=T.ps.one hog;have c1:=hone u.1;simp only[List.count_append,List.count_cons,beq_self_eq_true,if_pos]at c1;have hno:=T.ps.ws_no (z:=u.1) (by rw[List.count_append];omega);obtain⟨J,hJe⟩:∃J,J=fjoin d fu fv (ks.getD A.length ⟨#[]⟩):=⟨_,rfl⟩;rw[<-hJe]at hJ hsz |-;have epg:fpgs d J=fpgs d fu++fpgs d fv:=by rw[hJe];exact Gh _ _ _ _
 have epr:fprs d J=fprs d fu++fprs d fv:=by rw[hJe];exact Gi _ _ _ _
 have hu:=hog.2 u.1 (by simp[tpg]);have hn:=X.hS.l1;obtain⟨C',hC'⟩:∃C':Cg,C'={ ({ C with k:=kz }.write u.1 (fnd d J))with sp:=C.sp++[v.1] }:=⟨_,rfl⟩;have hat:∀y,C'.at y=(C.write u.1 (fnd d J)).at y:=fun y=>by rw[hC'];rfl
 have hP:Pst S n U C' (tpg d u++tpg d v) (u.1::fpgs d J) (u.1::fpgs d J):=by
  have h1:=T.ps.write u.1 (fnd d J) hno ((AQ (AG d J _ _ hJ)).2 hsz) (wg':=u.1::fpgs d J) (fun y hy=>by rw[epg];exact List.mem_cons_of_mem _ hy) List.mem_cons_self;refine⟨h1.ac.same (by rw[hC'];rfl) (by rw[hC'];rfl),fun x=>?_,by rw[hC'];exact h1.wn,by rw[hC'];exact h1.we,by rw[hC'];exact h1.wi⟩;have:=T.ps.pm x;have e1:C'.sp=C.sp++[v.1]:=by rw[hC']
  have e2:C'.tk=C.tk:=by rw[hC'];rfl
  rw[e1,e2,epg];simp only[List.count_append,List.count_cons,List.count_nil]at this |-;omega
 have hinJ:fIn C'.at d J:=by
  rw[hJe];refine IA d fu fv _ (Bm d fu T.iu (fun y hy=>?_)) (Bm d fv T.iv (fun y hy=>?_))
  ·rw[hat];exact BE (fun e=>by have:=Ae.1 hy;rw[e]at this;omega)
  ·rw[hat];exact BE (fun e=>by have:=Ae.1 hy;rw[e]at this;omega)
 have hG:([u,v]:List (Int × Fo d)).flatMap (tpg d)=tpg d u++tpg d v:=by simp
 have hG':([(u.1,J)]:List (Int × Fo d)).flatMap (tpg d)=u.1::fpgs d J:=by simp[tpg]
 obtain⟨r1,r2,r3,r4⟩:=D3 X.hS d z ks A [u,v] B lo hi X.hf X.hin X.ho C' [(u.1,J)] [] (by simp) (by
  show tOk d (u.1,J) _ (ks.getD (A.length+2 - 1) hi);rw[show A.length+2 - 1=A.length+1 by omega];exact⟨⟨by show 1<=u.1;omega,by show u.1<=65535;omega⟩,by rw[hJe];exact Nh d fu fv _ hne,hsz,hJ⟩) (fun k hk=>by cases hk) (by rw[hG,hG'];exact hP) (fun t ht=>by
   rw[List.mem_singleton.1 ht];exact⟨by rw[hat];exact at_new (CY hno),hinJ⟩)
 have ek:ks.take A.length++[]++ks.drop (A.length+[u,v].length - 1)=ks.eraseIdx A.length:=by
  rw[List.append_nil,show A.length+[u,v].length - 1=A.length+1 by simp,List.eraseIdx_eq_take_drop_succ]
 rw[ek]at r1 r2 r3;rw[<-hC'];refine .inr ⟨rfl,by rw[hC'];exact hkz,(ks.eraseIdx A.length,A++[(u.1,J)]++B),r1,r2,by rw[BD];simp[epr],.inl ⟨rfl,?_,?_,r3⟩⟩
 ·show (fnd (d+1) (ks,A++[u,v]++B)).lose (A.length+1)=_;unfold Nd.lose;show (⟨false,[],if ks.length=0 then ks else ks.eraseIdx (A.length+1 - 1),((A++[u,v]++B).map Prod.fst).eraseIdx (A.length+1)⟩:Nd)=⟨false,[],ks.eraseIdx A.length,(A++[(u.1,J)]++B).map Prod.fst⟩;rw[if_neg (by omega),show A.length+1 - 1=A.length by omega];have e1:((A++[u,v]++B).map Prod.fst).eraseIdx (A.length+1)=(A++[(u.1,J)]++B).map Prod.fst:=by
   have:=(Gf (A.map Prod.fst) u.1 v.1 (B.map Prod.fst)).1;rw[List.length_map]at this;simpa using this
  rw[e1]
 ·show 4+((ks.eraseIdx A.length).map kSize).sum<=330;have h1:4+(ks.map kSize).sum<=256:=X.hsz;have h2:=H7 ks A.length (A.length+1) (by omega) [];rw[List.append_nil,<-List.eraseIdx_eq_take_drop_succ]at h2;simp only[List.map_nil,List.sum_nil]at h2;omega
theorem MH{S:Sw}{n:Nat}{U:Nat->Bool}{K d:Nat}{z:Int}{ks:List ByteArray}{A B:List (Int × Fo d)}{u v:Int × Fo d}{lo hi:ByteArray}(X:Cx S n U d z ks (A++[u,v]++B) lo hi)(C:Cg)(fu fv:Fo d)(T:Two S n U d ks A.length lo hi C u v fu fv)(hg:256<(fnd d (fjoin d fu fv (ks.getD A.length ⟨#[]⟩))).size)(hsz:(fnd d (fjoin d fu fv (ks.getD A.length ⟨#[]⟩))).size<=330)(hk:C.k<=K) :
  DownR S n U K (d+1) z (z::fpgs (d+1) (ks,A++[u,v]++B)) lo hi (A.flatMap (fun t=>fprs d t.2)++(fprs d fu++fprs d fv)++B.flatMap (fun t=>fprs d t.2)) ⟨(C.write u.1 (fnd d (fjoin d fu fv (ks.getD A.length ⟨#[]⟩))).fst).write v.1 (fnd d (fjoin d fu fv (ks.getD A.length ⟨#[]⟩))).snd,{ fnd (d+1) (ks,A++[u,v]++B)with ks:=ks.set A.length (fnd d (fjoin d fu fv (ks.getD A.length ⟨#[]⟩))).mid },true,0⟩:=by
 obtain⟨hl,hok,tu,tv,hlt,hgt⟩:=X.pair;have hog:=X.og2;have hJ:=E9 d fu fv _ _ _ T.ou T.ov hok hlt hgt;have hone:=T.ps.one hog;have c1:=hone u.1;have c2:=hone v.1;simp only[List.count_append,List.count_cons,beq_self_eq_true,if_pos]at c1 c2;have huv:u.1≠v.1:=fun e=>by rw[e]at c1;simp only[beq_self_eq_true,if_pos]at c1;omega
 obtain⟨J,hJe⟩:∃J,J=fjoin d fu fv (ks.getD A.length ⟨#[]⟩):=⟨_,rfl⟩;rw[<-hJe]at hJ hsz hg |-;have epg:fpgs d J=fpgs d fu++fpgs d fv:=by rw[hJe];exact Gh _ _ _ _
 have epr:fprs d J=fprs d fu++fprs d fv:=by rw[hJe];exact Gi _ _ _ _
 obtain⟨fa,fb,q1,q2,q3,q4,q5,q6,q7,q8,q9,q10,q11,q12⟩:=JT d J _ _ hJ hg hsz;rw[q1,q2];have hab:∀y,(fpgs d fa).count y+(fpgs d fb).count y=(fpgs d fu).count y+(fpgs d fv).count y:=fun y=>by
  rw[<-List.count_append,<-q10,epg,List.count_append]
 have hu:=hog.2 u.1 (by simp[tpg]);have hv:=hog.2 v.1 (by simp[tpg]);have hn:=X.hS.l1;have hno:=T.ps.ws_no (z:=u.1) (by rw[List.count_append];omega);have hno2:v.1 ∉ (C.write u.1 (fnd d fa)).ws.map Prod.fst:=by
  show v.1 ∉ (C.ws++[(u.1,fnd d fa)]).map Prod.fst;rw[List.map_append];intro hm;rcases List.mem_append.1 hm with e|e
  ·exact T.ps.ws_no (z:=v.1) (by rw[List.count_append];omega) e
  ·have:v.1=u.1:=by simpa using e
   exact huv this.symm
 have h0:Pst S n U C (tpg d u++tpg d v) ((u.1::fpgs d fa)++(v.1::fpgs d fb)) (fpgs d fu++fpgs d fv):=⟨T.ps.ac,fun x=>by
  have h1:=T.ps.pm x;have h2:=hab x;simp only[List.count_append,List.count_cons]at h1 |-;omega,T.ps.wn,T.ps.we,T.ps.wi⟩
 have h1:=h0.write u.1 (fnd d fa) hno ((AQ (AG d fa _ _ q3)).2 q7) (wg':=u.1::(fpgs d fu++fpgs d fv)) (fun y hy=>List.mem_cons_of_mem _ hy) List.mem_cons_self;have h2:=h1.write v.1 (fnd d fb) hno2 ((AQ (AG d fb _ _ q4)).2 q8) (wg':=(u.1::fpgs d fa)++(v.1::fpgs d fb)) (fun y hy=>by
  rcases List.mem_cons.1 hy with e|e
  ·rw[e];simp
  ·have:=Ae.1 e;rw[List.count_append,<-hab]at this;refine Ae.2 ?_;simp only[List.count_append,List.count_cons];omega) (by simp)
 have hat:∀y∈fpgs d J,((C.write u.1 (fnd d fa)).write v.1 (fnd d fb)).at y=C.at y:=fun y hy=>by
  have hc:=Ae.1 hy;rw[epg,List.count_append]at hc;exact JA (fun e=>by rw[e]at hc;omega) (fun e=>by rw[e]at hc;omega)
 have hinJ:fIn C.at d J:=by rw[hJe];exact IA d fu fv _ T.iu T.iv
 have hinab:=q12 _ (Bm (V':=((C.write u.1 (fnd d fa)).write v.1 (fnd d fb)).at) d J hinJ hat);have hG:([u,v]:List (Int × Fo d)).flatMap (tpg d)=tpg d u++tpg d v:=by simp
 have hG':([(u.1,fa),(v.1,fb)]:List (Int × Fo d)).flatMap (tpg d)=(u.1::fpgs d fa)++(v.1::fpgs d fb):=by simp[tpg]
 obtain⟨r1,r2,r3,r4⟩:=D3 X.hS d z ks A [u,v] B lo hi X.hf X.hin X.ho ((C.write u.1 (fnd d fa)).write v.1 (fnd d fb)) [(u.1,fa),(v.1,fb)] [(fnd d J).mid] (by simp) (by
  show tOk d (u.1,fa) _ _/\tOk d (v.1,fb) _ (ks.getD (A.length+2 - 1) hi);rw[show A.length+2 - 1=A.length+1 by omega];exact⟨⟨⟨by show 1<=u.1;omega,by show u.1<=65535;omega⟩,q5,q7,q3⟩,⟨⟨by show 1<=v.1;omega,by show v.1<=65535;omega⟩,q6,q8,q4⟩⟩) (fun k hk=>by rw[List.mem_singleton.1 hk];exact q9) (by rw[hG,hG'];exact h2) (fun t ht=>by
   rcases List.mem_cons.1 ht with e|e
   ·rw[e];exact⟨by show ((C.write u.1 (fnd d fa)).write v.1 (fnd d fb)).at u.1=_;rw[BE huv];exact at_new (CY hno),hinab.1⟩
   ·rw[List.mem_singleton.1 e];exact⟨at_new (CY hno2),hinab.2⟩)
 have ek:ks.take A.length++[(fnd d J).mid]++ks.drop (A.length+[u,v].length - 1)=ks.set A.length (fnd d J).mid:=by
  rw[show A.length+[u,v].length - 1=A.length+1 by simp,List.set_eq_take_append_cons_drop,if_pos hl];simp
 have es:=H7 ks A.length (A.length+[u,v].length - 1) (by simp) [(fnd d J).mid];rw[ek]at r1 r2 r3 es;refine .inr ⟨rfl,hk,(ks.set A.length (fnd d J).mid,A++[(u.1,fa),(v.1,fb)]++B),r1,r2,by rw[BD,<-epr,q11];simp,.inl ⟨rfl,?_,?_,r3⟩⟩
 ·show (⟨false,[],ks.set A.length (fnd d J).mid,(A++[u,v]++B).map Prod.fst⟩:Nd)=⟨false,[],ks.set A.length (fnd d J).mid,(A++[(u.1,fa),(v.1,fb)]++B).map Prod.fst⟩;simp
 ·show 4+((ks.set A.length (fnd d J).mid).map kSize).sum<=330;have h1:4+(ks.map kSize).sum<=256:=X.hsz;have h3:=DI q9;simp only[List.map_cons,List.map_nil,List.sum_cons,List.sum_nil]at es;omega
theorem Jt{S:Sw}{n:Nat}{U:Nat->Bool}{K d:Nat}{z:Int}{ks:List ByteArray}{A B:List (Int × Fo d)}{u v s t:Int × Fo d}{lo hi:ByteArray}(X:Cx S n U d z ks (A++[u,v]++B) lo hi)(C:Cg)(hst:(s=u/\t=v)\/(s=v/\t=u))(hP:Pst S n U C (tpg d s) [s.1] [])(hk:C.k<=K) :
  DownR S n U K (d+1) z (z::fpgs (d+1) (ks,A++[u,v]++B)) lo hi (A.flatMap (fun t=>fprs d t.2)++fprs d t.2++B.flatMap (fun t=>fprs d t.2)) ⟨{ C with sp:=C.sp++[s.1] },⟨false,[],ks.eraseIdx A.length,(A++[t]++B).map Prod.fst⟩,true,0⟩:=by
 obtain⟨hl,hok,tu,tv,hlt,hgt⟩:=X.pair;have hog:=X.og2;have hs:=AN hok;have hT:tOk d t (lowB ks lo A.length) (ks.getD (A.length+1) hi):=by
  rcases hst with ⟨_,e⟩|⟨_,e⟩
  ·rw[e];exact Jm d v _ _ _ _ tv (AU hlt) (DM _)
  ·rw[e];refine Jm d u _ _ _ _ tu (AD _) ?_;rcases hgt with e|e
   ·exact .inl e
   ·exact .inr ⟨by omega,AU e⟩
 have htm:t∈A++[u,v]++B:=by rcases hst with ⟨_,e⟩|⟨_,e⟩<;>rw[e]<;>simp
 have hcnt:∀x,(tpg d u++tpg d v).count x=(tpg d s).count x+(tpg d t).count x:=fun x=>by
  rcases hst with ⟨e1,e2⟩|⟨e1,e2⟩<;>rw[e1,e2,List.count_append]<;>omega
 have hG:([u,v]:List (Int × Fo d)).flatMap (tpg d)=tpg d u++tpg d v:=by simp
 have hG':([t]:List (Int × Fo d)).flatMap (tpg d)=tpg d t:=by simp
 obtain⟨r1,r2,r3,r4⟩:=D3 X.hS d z ks A [u,v] B lo hi X.hf X.hin X.ho { C with sp:=C.sp++[s.1] } [t] [] (by simp) (by
  show tOk d t _ (ks.getD (A.length+2 - 1) hi);rw[show A.length+2 - 1=A.length+1 by omega];exact hT) (fun k hk=>by cases hk) (by
   rw[hG,hG'];refine⟨hP.ac.same rfl rfl,fun x=>?_,hP.wn,hP.we,fun p hp=>by have:=hP.wi p hp;cases this⟩
   have h1:=hP.pm x;have h2:=hcnt x;show _+(C.sp++[s.1]).count x=_;rw[List.count_append];show _=_+C.tk.count x;omega) (fun t' ht=>by
   rw[List.mem_singleton.1 ht];refine BL d t (X.hin t htm) (fun y hy=>?_);have hc:=Ae.1 hy;have hc':y∈tpg d u++tpg d v:=Ae.2 (by rw[hcnt];have:(tpg d t).count y=(t.1::fpgs d t.2).count y:=rfl;omega);have hu:=hog.2 y hc';have h1:=hog.1 y;rw[hcnt]at h1;have:(tpg d t).count y=(t.1::fpgs d t.2).count y:=rfl;exact hP.out X.hS (fun x hx=>by cases hx) hu.1 hu.2.1 hu.2.2 (by omega))
 have ek:ks.take A.length++[]++ks.drop (A.length+[u,v].length - 1)=ks.eraseIdx A.length:=by
  rw[List.append_nil,show A.length+[u,v].length - 1=A.length+1 by simp,List.eraseIdx_eq_take_drop_succ]
 rw[ek]at r1 r2 r3;refine .inr ⟨rfl,hk,(ks.eraseIdx A.length,A++[t]++B),r1,r2,by rw[BD];simp,.inl ⟨rfl,rfl,?_,r3⟩⟩;show 4+((ks.eraseIdx A.length).map kSize).sum<=330;have h1:4+(ks.map kSize).sum<=256:=X.hsz;have h2:=H7 ks A.length (A.length+1) (by omega) [];rw[List.append_nil,<-List.eraseIdx_eq_take_drop_succ]at h2;simp only[List.map_nil,List.sum_nil]at h2;omega
theorem Ly{S:Sw}{z:Int}{n:Nd}(h:vS S z=some n):ndE S z=0/\ndOf S z=n:=by
 unfold vS at h;by_cases e:ndE S z=0
 ·rw[if_pos e]at h;exact⟨e,Option.some.inj h⟩
 ·rw[if_neg e]at h;cases h
theorem Cg.co_ok{C:Cg}{z:Int}{n:Nd}(h:vS C.S z=some n)(hk:C.k<1000):C.coE z=0/\C.coN z=n/\C.co z={ C with k:=C.k+1 }:=by
 obtain⟨h1,h2⟩:=Ly h;have e:C.coE z=0:=by
  unfold Cg.coE trE;rw[if_pos h1,if_neg (by omega)]
 refine⟨e,?_,?_⟩
 ·unfold Cg.coN trN;rw[if_pos (show trE C.S C.k z 1=0 from e),h2]
 ·unfold Cg.co trK;rw[if_pos h1]
theorem NK(d:Nat)(f g:Fo d):(fnd d f).leaf=(fnd d g).leaf:=by cases d<;>rfl
theorem Two.k{S:Sw}{n:Nat}{U:Nat->Bool}{d:Nat}{ks:List ByteArray}{i:Nat}{lo hi:ByteArray}{C:Cg}{u v:Int × Fo d}{fu fv:Fo d}(T:Two S n U d ks i lo hi C u v fu fv)(k:Nat):Two S n U d ks i lo hi { C with k:=k } u v fu fv:=⟨T.ou,T.ov,T.iu,T.iv,⟨T.ps.ac.same rfl rfl,T.ps.pm,T.ps.wn,T.ps.we,T.ps.wi⟩⟩
theorem Lu{S:Sw}{n:Nat}{U:Nat->Bool}{C:Cg}{d:Nat}{s t:Int × Fo d}{ng wg:List Int}(hS:Tk S n U)(ho:OgOk n U (tpg d s++tpg d t))(hP:Pst S n U C (tpg d s) ng wg)(hw:∀x∈wg,x∈ng)(hin:tIn (vS S) d t):tIn C.at d t:=BL d t hin (fun y hy=>by
 have hm:y∈tpg d s++tpg d t:=List.mem_append_right _ hy
 have hu:=ho.2 y hm
 have h1:=ho.1 y
 have h2:=Ae.1 hy
 rw[List.count_append]at h1
 have:(tpg d t).count y=(t.1::fpgs d t.2).count y:=rfl
 exact hP.out hS hw hu.1 hu.2.1 hu.2.2 (by omega))
structure Side (S:Sw) (n:Nat) (U:Nat->Bool) (d:Nat) (z:Int) (ks:List ByteArray) (lo hi:ByteArray) (A B:List (Int × Fo d)) (s:Int × Fo d) (f1:Fo d) (C:Cg) (bt:Nat) (Ai Bi:List (Int × Fo d)) (u v:Int × Fo d) (fu fv:Fo d):Prop where
 ts:A++[s]++B=Ai++[u,v]++Bi
 len:Ai.length=bt
 two:Two S n U d ks Ai.length lo hi C u v fu fv
 sib:∃y:Int × Fo d,tIn (vS S) d y/\vS C.S y.1=some (fnd d y.2)/\coZ A.length bt (fnd (d+1) (ks,A++[s]++B))=y.1/\fne d y.2/\(fnd d y.2).size<=256/\((bt=A.length/\fu=f1/\fv=y.2)\/(bt≠A.length/\fu=y.2/\fv=f1))
 prs:Ai.flatMap (fun t=>fprs d t.2)++(fprs d fu++fprs d fv)++Bi.flatMap (fun t=>fprs d t.2)=A.flatMap (fun t=>fprs d t.2)++fprs d f1++B.flatMap (fun t=>fprs d t.2)
theorem IC{α:Type}(A M B:List α)(i:Nat)(x:α)(h:i<M.length):(A++M++B).getD (A.length+i) x=M.getD i x:=by
 rw[List.getD_eq_getElem?_getD,List.getD_eq_getElem?_getD,List.append_assoc,List.getElem?_append_right (by omega),Nat.add_sub_cancel_left,List.getElem?_append_left h]
theorem C8{d:Nat}(ks:List ByteArray)(A B:List (Int × Fo d))(u v:Int × Fo d):(fnd (d+1) (ks,A++[u,v]++B)).kd.getD A.length 0=u.1/\(fnd (d+1) (ks,A++[u,v]++B)).kd.getD (A.length+1) 0=v.1:=by
 have e:(fnd (d+1) (ks,A++[u,v]++B)).kd=A.map Prod.fst++[u.1,v.1]++B.map Prod.fst:=by
  show (A++[u,v]++B).map Prod.fst=_;simp
 rw[e];have h0:=IC (A.map Prod.fst) [u.1,v.1] (B.map Prod.fst) 0 0 (by simp);have h1:=IC (A.map Prod.fst) [u.1,v.1] (B.map Prod.fst) 1 0 (by simp);rw[List.length_map]at h0 h1;exact⟨h0,h1⟩
theorem Kl{S:Sw}{n:Nat}{U:Nat->Bool}{d:Nat}{z:Int}{ks:List ByteArray}{A B:List (Int × Fo d)}{s y:Int × Fo d}{lo hi:ByteArray}(X:Cx S n U d z ks (A++[s]++(y::B)) lo hi)(C:Cg)(f1:Fo d)(hok:fOk d f1 (lowB ks lo A.length) (ks.getD A.length hi))(hin:fIn C.at d f1)(hP:Pst S n U C (tpg d s) (s.1::fpgs d f1) (fpgs d f1)) :
  Side S n U d z ks lo hi A (y::B) s f1 C A.length A B s y f1 y.2:=by
 have e:A++[s]++(y::B)=A++[s,y]++B:=by simp
 have X':=X;rw[e]at X';obtain⟨hl,hkk,tu,tv,hlt,hgt⟩:=X'.pair;have hog:=X'.og2;have hy:tIn (vS S) d y:=X.hin y (by simp);have hyin:=Lu X.hS hog hP (fun x hx=>List.mem_cons_of_mem _ hx) hy;have ek:ks.getD A.length hi=ks.getD A.length ⟨#[]⟩:=by rw[List.getD_eq_getElem?_getD,List.getD_eq_getElem?_getD,List.getElem?_eq_getElem hl];rfl
 rw[ek]at hok;have hu:=hog.2 y.1 (by simp[tpg]);refine⟨e,rfl,⟨hok,tv.2.2.2,hin,hyin.2,⟨hP.ac,fun x=>?_,hP.wn,hP.we,fun p hp=>List.mem_append_left _ (hP.wi p hp)⟩⟩,⟨y,hy,?_,?_,tv.2.1,tv.2.2.1,.inl ⟨rfl,rfl,rfl⟩⟩,by simp⟩
 ·have:=hP.pm x;show ((s.1::fpgs d f1)++tpg d y).count x+_=_;simp only[List.count_append];omega
 ·rw[CF (hP.ac.read X.hS hu.1 hu.2.1 hu.2.2)];exact hy.1
 ·unfold coZ;rw[if_pos rfl,e];exact(C8 ks A B s y).2
theorem Mv{S:Sw}{n:Nat}{U:Nat->Bool}{d:Nat}{z:Int}{ks:List ByteArray}{A B:List (Int × Fo d)}{s x:Int × Fo d}{lo hi:ByteArray}(X:Cx S n U d z ks ((A++[x])++[s]++B) lo hi)(C:Cg)(f1:Fo d)(hok:fOk d f1 (lowB ks lo (A++[x]).length) (ks.getD (A++[x]).length hi))(hin:fIn C.at d f1)(hP:Pst S n U C (tpg d s) (s.1::fpgs d f1) (fpgs d f1)) :
  Side S n U d z ks lo hi (A++[x]) B s f1 C A.length A B x s x.2 f1:=by
 have e:(A++[x])++[s]++B=A++[x,s]++B:=by simp
 have X':=X;rw[e]at X';obtain⟨hl,hkk,tu,tv,hlt,hgt⟩:=X'.pair;have hog:=X'.og2;have hog':OgOk n U (tpg d s++tpg d x):=⟨fun y=>by have:=hog.1 y;rw[List.count_append]at this |-;omega,fun y hy=>hog.2 y (by rcases List.mem_append.1 hy with e|e;exact List.mem_append_right _ e;exact List.mem_append_left _ e)⟩;have hx:tIn (vS S) d x:=X.hin x (by simp);have hxin:=Lu X.hS hog' hP (fun x hx=>List.mem_cons_of_mem _ hx) hx;have elen:(A++[x]).length=A.length+1:=by simp
 rw[elen]at hok;have el:lowB ks lo (A.length+1)=ks.getD A.length ⟨#[]⟩:=by unfold lowB;rw[if_neg (by omega),Nat.add_sub_cancel]
 rw[el]at hok;have hu:=hog.2 x.1 (by simp[tpg]);refine⟨e,rfl,⟨tu.2.2.2,hok,hxin.2,hin,⟨hP.ac,fun y=>?_,hP.wn,hP.we,fun p hp=>List.mem_append_right _ (hP.wi p hp)⟩⟩,⟨x,hx,?_,?_,tu.2.1,tu.2.2.1,.inr ⟨by rw[elen];omega,rfl,rfl⟩⟩,by simp⟩
 ·have:=hP.pm y;show (tpg d x++(s.1::fpgs d f1)).count y+_=_;simp only[List.count_append];omega
 ·rw[CF (hP.ac.read X.hS hu.1 hu.2.1 hu.2.2)];exact hx.1
 ·unfold coZ;rw[if_neg (by rw[elen];omega),e];exact(C8 ks A B x s).1
theorem OX{S:Sw}{n:Nat}{U:Nat->Bool}{K d:Nat}{z:Int}{ks:List ByteArray}{A B:List (Int × Fo d)}{s:Int × Fo d}{lo hi:ByteArray}(X:Cx S n U d z ks (A++[s]++B) lo hi)(C:Cg)(f1:Fo d)(hok:fOk d f1 (lowB ks lo A.length) (ks.getD A.length hi))(hin:fIn C.at d f1)(hnw:(fnd d f1).without=false)(hsz:(fnd d f1).size<128)(hP:Pst S n U C (tpg d s) (s.1::fpgs d f1) (fpgs d f1))(hK:K<1000) :
  ∀(l:List Nat) (g:Option (Nat × Nd)) (kz:Nat),kz+l.length<=K->(∀bt∈l,∃Ai Bi u v fu fv,Side S n U d z ks lo hi A B s f1 C bt Ai Bi u v fu fv)->(∀q,g=some q->∃Ai Bi u v fu fv,Side S n U d z ks lo hi A B s f1 C q.1 Ai Bi u v fu fv/\q.2=fnd d (fjoin d fu fv (ks.getD q.1 ⟨#[]⟩))/\256<q.2.size)->(l≠[]\/g≠none) ->
  DownR S n U K (d+1) z (z::fpgs (d+1) (ks,A++[s]++B)) lo hi (A.flatMap (fun t=>fprs d t.2)++fprs d f1++B.flatMap (fun t=>fprs d t.2)) (gathG s.1 (fnd d f1) (fnd (d+1) (ks,A++[s]++B)) A.length l g { C with k:=kz }):=by
 have hPk:∀kz,Pst S n U { C with k:=kz } (tpg d s) (s.1::fpgs d f1) (fpgs d f1):=fun kz=>⟨hP.ac.same rfl rfl,hP.pm,hP.wn,hP.we,hP.wi⟩;have hright:=AG d f1 _ _ hok;intro l;induction l with
 | nil =>
  intro g kz hkz _ hg hne;cases g with
  | none=>rcases hne with h|h<;>exact absurd rfl h
  | some q =>
   obtain⟨Ai,Bi,u,v,fu,fv,hs,hq,hq'⟩:=hg q rfl;show DownR S n U K (d+1) z _ lo hi _ (Cg.gathF { C with k:=kz } s.1 (fnd d f1) (fnd (d+1) (ks,A++[s]++B)) (some q));unfold Cg.gathF;by_cases h1:(fnd d f1).kd.length=1
   ·simp only[if_pos h1];cases d with
    | zero=>cases h1
    | succ d =>
     obtain⟨y,_,_,_,_,hy,hf⟩:=hs.sib;have hl:f1.1.length=0:=by
      have:=Bb _ _ _ _ hok.2;have h2:(f1.2.map Prod.fst).length=1:=h1;rw[List.length_map]at h2;omega
     have hf1:(fnd (d+1) f1).size=4:=by
      show 4+(f1.1.map kSize).sum=4;rw[List.length_eq_zero_iff.1 hl];rfl
     have X':=X;rw[hs.ts]at X' |-;have hkk:=DI X'.pair.2.1;have hj:=JS d fu fv (ks.getD Ai.length ⟨#[]⟩);rw[<-hs.len]at hq;have hle:(fnd (d+1) (fjoin (d+1) fu fv (ks.getD Ai.length ⟨#[]⟩))).size<=330:=by
      rcases hf with ⟨_,e1,e2⟩|⟨_,e1,e2⟩<;>(rw[e1,e2]at hj |-;omega)
     have:=MH (K:=K) X' { C with k:=kz } fu fv (hs.two.k kz) (by rw[<-hq];exact hq') hle (by show kz<=K;simp at hkz;omega);rw[<-hq,hs.prs]at this;rw[<-hs.len,(C8 ks Ai Bi u v).1,(C8 ks Ai Bi u v).2];exact this
   ·simp only[if_neg h1];refine Ju X { C with k:=kz } f1 hok hin ?_ (by omega) (hPk kz) (by show kz<=K;simp at hkz;omega) _;cases d with
    | zero =>
     intro e;have:(fnd 0 f1).without=true:=by rw[show f1=([]:List Pr) from e];rfl
     rw[this]at hnw;cases hnw
    | succ d =>
     intro e;apply h1;show (f1.2.map Prod.fst).length=1;rw[List.length_map,Bb _ _ _ _ hok.2,show f1.1=[] from e];rfl
 | cons bt r ih =>
  intro g kz hkz hl hg hne;obtain⟨Ai,Bi,u,v,fu,fv,hs⟩:=hl bt List.mem_cons_self;obtain⟨y,hy,hyv,hco,hyn,hys,hf⟩:=hs.sib;simp only[List.length_cons]at hkz;obtain⟨c1,c2,c3⟩:=Cg.co_ok (C:={ C with k:=kz }) (z:=y.1) hyv (by show kz<1000;omega);have hJ:Cg.coJ { C with k:=kz } A.length bt (fnd d f1) (fnd (d+1) (ks,A++[s]++B))=fnd d (fjoin d fu fv (ks.getD bt ⟨#[]⟩)):=by
   unfold Cg.coJ;rw[hco,c2,Ni];rcases hf with ⟨e0,e1,e2⟩|⟨e0,e1,e2⟩
   ·rw[if_pos e0,e1,e2];rfl
   ·rw[if_neg e0,e1,e2];rfl
  have X':=X;rw[hs.ts]at X';obtain⟨_,hkk,_,_,hlt,hgt⟩:=X'.pair;have hJok:=E9 d fu fv _ _ _ hs.two.ou hs.two.ov hkk hlt hgt;have hwe:=AQ (AG d _ _ _ hJok);rw[hs.len]at hwe;show DownR S n U K (d+1) z _ lo hi _ (gathG s.1 (fnd d f1) (fnd (d+1) (ks,A++[s]++B)) A.length (bt::r) g { C with k:=kz });unfold gathG;rw[hco,if_pos c1,c2,if_pos (NK d y.2 f1),hJ];by_cases hw:(fnd d (fjoin d fu fv (ks.getD bt ⟨#[]⟩))).writeE=0
  ·rw[if_pos hw];have hfit:=hwe.1 hw;rw[<-hs.len]at hfit;have:=MG (K:=K) X' C fu fv hs.two (by rcases hf with ⟨_,e1,e2⟩|⟨_,e1,e2⟩;(right;rw[e2];exact hyn);(left;rw[e1];exact hyn)) hfit (kz+1) (by omega)
   rw[hs.prs]at this;rw[c3,hs.ts,<-hs.len,(C8 ks Ai Bi u v).1,(C8 ks Ai Bi u v).2];exact this
  ·rw[if_neg hw,c3];refine ih _ (kz+1) (by omega) (fun b hb=>hl b (List.mem_cons_of_mem _ hb)) (fun q hq=>?_) (.inr ?_)
   ·cases g with
    | some q'=>exact hg q hq
    | none =>
     have:(bt,fnd d (fjoin d fu fv (ks.getD bt ⟨#[]⟩)))=q:=Option.some.inj hq;subst this;refine⟨Ai,Bi,u,v,fu,fv,hs,rfl,?_⟩;show 256<(fnd d (fjoin d fu fv (ks.getD bt ⟨#[]⟩))).size;rcases Nat.lt_or_ge 256 (fnd d (fjoin d fu fv (ks.getD bt ⟨#[]⟩))).size with h|h
     ·exact h
     ·exact absurd (hwe.2 h) hw
   ·cases g<;>simp
theorem EF{d:Nat}{f:Fo d}{lo hi:ByteArray}(h:fOk d f lo hi)(hw:(fnd d f).without=true):d=0/\fprs d f=[]/\fpgs d f=[]:=by
 cases d with
 | zero =>
  obtain⟨h1,h2⟩:=Bool.and_eq_true_iff.1 hw;have h3:(fnd 0 f).ps=[]:=by simpa using h1
  exact⟨rfl,h3,rfl⟩
 | succ d =>
  obtain⟨h1,h2⟩:=Bool.and_eq_true_iff.1 hw;have h3:(f.2.map Prod.fst).length=0:=by simpa[fnd]using h2
  rw[List.length_map,Bb _ _ _ _ h.2]at h3;omega
theorem Nj{d:Nat}{f:Fo (d+1)}(h:fne (d+1) f):7<=(fnd (d+1) f).size:=by
 show 7<=4+(f.1.map kSize).sum;cases hf:f.1 with
 | nil=>exact absurd hf h
 | cons k ks =>
  simp only[List.map_cons,List.sum_cons];have:3<=kSize k:=by show 3<=3+k.size;omega
  omega
theorem K0{d:Nat}(ks:List ByteArray)(A B:List (Int × Fo d))(u v:Int × Fo d)(hl:A.length<ks.length):(fnd (d+1) (ks,A++[u,v]++B)).lose (A.length+1)=⟨false,[],ks.eraseIdx A.length,(A++[u]++B).map Prod.fst⟩/\(A.length=0->(fnd (d+1) (ks,A++[u,v]++B)).lose 0=⟨false,[],ks.eraseIdx 0,(A++[v]++B).map Prod.fst⟩):=by
 have he:=Gf (A.map Prod.fst) u.1 v.1 (B.map Prod.fst);rw[List.length_map]at he;have e0:(A++[u,v]++B).map Prod.fst=A.map Prod.fst++[u.1,v.1]++B.map Prod.fst:=by simp
 constructor
 ·show (⟨false,[],if ks.length=0 then ks else ks.eraseIdx (A.length+1 - 1),((A++[u,v]++B).map Prod.fst).eraseIdx (A.length+1)⟩:Nd)=_;rw[if_neg (by omega),show A.length+1 - 1=A.length by omega,e0,he.1];simp
 ·intro h0;show (⟨false,[],if ks.length=0 then ks else ks.eraseIdx (0 - 1),((A++[u,v]++B).map Prod.fst).eraseIdx 0⟩:Nd)=_;rw[if_neg (by omega),e0];rw[h0]at he;rw[he.2];simp
theorem MO{S:Sw}{n:Nat}{U:Nat->Bool}{K d:Nat}{z:Int}{ks:List ByteArray}{A B:List (Int × Fo d)}{s:Int × Fo d}{lo hi:ByteArray}(X:Cx S n U d z ks (A++[s]++B) lo hi)(C:Cg)(f1:Fo d)(hok:fOk d f1 (lowB ks lo A.length) (ks.getD A.length hi))(hin:fIn C.at d f1)(hsz:(fnd d f1).size<=330)(hP:Pst S n U C (tpg d s) (s.1::fpgs d f1) (fpgs d f1))(hsn:fne d s.2)(hk:C.k+2<=K)(hK:K<1000)(kid:Nat) :
  DownR S n U K (d+1) z (z::fpgs (d+1) (ks,A++[s]++B)) lo hi (A.flatMap (fun t=>fprs d t.2)++fprs d f1++B.flatMap (fun t=>fprs d t.2)) (C.below ⟨s.1,fnd d f1,kid,(fnd d s.2).size⟩ A.length (fnd (d+1) (ks,A++[s]++B))):=by
 have hlen:(A++[s]++B).length=ks.length+1:=Bb _ _ _ _ X.hf.2;simp only[List.length_append,List.length_cons,List.length_nil]at hlen;have hks:0<ks.length:=List.length_pos_iff.2 X.hne;unfold Cg.below;simp only;by_cases hw:(fnd d f1).without=true
 ·rw[if_pos hw];obtain⟨hd,hpr,hpg⟩:=EF hok hw;rw[hpr];have hP':Pst S n U C (tpg d s) [s.1] []:=by rw[hpg]at hP;exact hP
  rcases List.eq_nil_or_concat A with hA|⟨A',x,hA⟩
  ·subst hA;cases B with
   | nil=>simp only[List.length_nil]at hlen;omega
   | cons y B =>
    have e:([]:List (Int × Fo d))++[s]++(y::B)=[]++[s,y]++B:=by simp
    have X':=X;rw[e]at X' |-;have:=Jt (K:=K) X' C (.inl ⟨rfl,rfl⟩) hP' (by omega);rw[show ([]:List (Int × Fo d)).length=0 from rfl,(K0 ks [] B s y (by simpa using hks)).2 rfl];simpa using this
  ·rw[List.concat_eq_append]at hA;subst hA;have e:A'++[x]++[s]++B=A'++[x,s]++B:=by simp
   have X':=X;rw[e]at X' |-;have:=Jt (K:=K) X' C (.inr ⟨rfl,rfl⟩) hP' (by omega);have hl:A'.length<ks.length:=by simp at hlen;omega
   rw[show (A'++[x]).length=A'.length+1 by simp,(K0 ks A' B x s hl).1];simpa using this
 ·rw[if_neg hw];have hw':(fnd d f1).without=false:=by simpa using hw
  by_cases hg:256<(fnd d f1).size
  ·rw[if_pos hg];exact OF X C f1 hok hin hg hsz hP (by omega)
  ·rw[if_neg hg];by_cases hs:(fnd d f1).size<128/\(fnd d f1).size<(fnd d s.2).size
   ·rw[if_pos hs];unfold Cg.gather;have h2:(bts A.length (fnd (d+1) (ks,A++[s]++B))).length<=2:=by
     unfold bts;rw[List.length_append];split<;>split<;>simp
    refine OX X C f1 hok hin hw' hs.1 hP hK _ none C.k (by omega) (fun bt hb=>?_) (fun q hq=>by cases hq) (.inl ?_)
    ·unfold bts at hb;rcases List.mem_append.1 hb with h|h
     ·split at h
      ·rename_i hc;have hb':=List.mem_singleton.1 h;rcases List.eq_nil_or_concat A with hA|⟨A',x,hA⟩
       ·subst hA;simp at hc
       ·rw[List.concat_eq_append]at hA;subst hA;have e:bt=A'.length:=by rw[hb'];simp
        rw[e];exact⟨_,_,_,_,_,_,Mv X C f1 hok hin hP⟩
      ·cases h
     ·split at h
      ·rename_i hc;have hb':=List.mem_singleton.1 h;have hc':A.length<ks.length:=hc;cases B with
       | nil=>simp only[List.length_nil]at hlen;omega
       | cons y B =>
        rw[hb'];exact⟨_,_,_,_,_,_,Kl X C f1 hok hin hP⟩
      ·cases h
    ·unfold bts;by_cases hc:A.length<ks.length
     ·rw[if_pos (show A.length<(fnd (d+1) (ks,A++[s]++B)).ks.length from hc)];simp
     ·rw[if_pos (show 0<A.length/\A.length - 1<(fnd (d+1) (ks,A++[s]++B)).ks.length from ⟨by omega,by show A.length - 1<ks.length;omega⟩)];simp
   ·rw[if_neg hs];refine Ju X C f1 hok hin ?_ (by omega) hP (by omega) _;cases d with
    | zero =>
     intro e;have:(fnd 0 f1).without=true:=by rw[show f1=([]:List Pr) from e];rfl
     exact hw this
    | succ d =>
     intro e;have h1:=Nj hsn;have h2:(fnd (d+1) f1).size=4:=by
      show 4+(f1.1.map kSize).sum=4;rw[show f1.1=[] from e];rfl
     exact hs ⟨by omega,by omega⟩
def pmod(g:Nd->Nd):(d:Nat)->Int × Fo d->ByteArray->List Sp
 | 0,t,key=>[⟨t.1,g (fnd 0 t.2),An (fnd 0 t.2).ks key,(fnd 0 t.2).size⟩]
 | d+1,t,key=>⟨t.1,fnd (d+1) t.2,An t.2.1 key,(fnd (d+1) t.2).size⟩::(match t.2.2[An t.2.1 key]? with
  | some s=>pmod g d s key
  | none=>[])
structure Lf (key:ByteArray) (g:Nd->Nd) (h:List Pr->List Pr):Prop where
 nd:∀ps,g ⟨true,ps,[],[]⟩=⟨true,h ps,[],[]⟩
 ok:∀ps lo hi,Bw ps lo hi->inB key lo hi=true->Bw (h ps) lo hi
 sz:∀ps,Asc ps->((h ps).map Pr.size).sum<=(ps.map Pr.size).sum+74
 mid:∀A M B:List Pr,(∀p∈A,lessB p.k key=true)->(∀p∈B,lessB key p.k=true)->h (A++M++B)=A++h M++B
theorem Ac.zero{S:Sw}{n:Nat}{U:Nat->Bool}(hS:Tk S n U)(k:Nat):Ac S n U ⟨S,k,[],[],[]⟩:=⟨hS.congr (fun i _ _=>by simp),.refl _,(fun z hz=>by cases hz),List.nodup_nil,fun _ _ _ _=>rfl⟩
theorem KU{S:Sw}{n:Nat}{U:Nat->Bool}(hS:Tk S n U){key:ByteArray}{g:Nd->Nd}{h:List Pr->List Pr}(L:Lf key g h)(k0:Nat):∀(d:Nat) (t:Int × Fo d) (lo hi:ByteArray),tOk d t lo hi->tIn (vS S) d t->inB key lo hi=true->OgOk n U (tpg d t)->k0+2*d<1000 ->
  ∃a l,pmod g d t key=a::l/\a.page=t.1/\a.was=(fnd d t.2).size/\DownR S n U (k0+2*d) d t.1 (tpg d t) lo hi (h (fprs d t.2)) ((⟨S,k0,[],[],[]⟩:Cg).down a l)
 | 0,t,lo,hi,ht,hin,hb,ho,hK=>by
  have hl:Bw t.2 lo hi:=ht.2.2.2
  refine⟨_,_,rfl,rfl,rfl,.inr ⟨rfl,Nat.le_refl _,h t.2,L.ok _ _ _ hl hb,trivial,rfl,.inl ⟨rfl,L.nd t.2,?_,⟨Ac.zero hS k0,fun x=>rfl,List.nodup_nil,(fun p hp=>by cases hp),(fun p hp=>by cases hp)⟩⟩⟩⟩
  show 2+((h t.2).map Pr.size).sum<=330
  have h1:2+(List.map Pr.size t.2).sum<=256:=ht.2.2.1
  have h2:=L.sz t.2 hl.2
  omega
 | d+1,t,lo,hi,ht,hin,hb,ho,hK=>by
  obtain⟨z,ks,ts⟩:=t
  have hf:fOk (d+1) (ks,ts) lo hi:=ht.2.2.2
  obtain⟨A,s,B,e,hA,hib,pA,pB⟩:=GX (fun (t:Int × Fo d)=>fprs d t.2) (fun t x y ht=>Dd d t x y ht) key ks ts lo hi hf.1 hf.2 hb
  subst e
  have X:Cx S n U d z ks (A++[s]++B) lo hi:=⟨hS,hf,hin.2,ho,hin.1,ht.2.1,ht.2.2.1⟩
  have hc:=(DK A [s] B ks lo hi (by simp) hf.2).1
  have hs:tOk d s (lowB ks lo A.length) (ks.getD A.length hi):=by
   have e1:(ks.drop A.length).take ([s].length - 1)=[]:=by simp
   rw[e1,show A.length+[s].length - 1=A.length by simp]at hc;exact hc
  have hog:OgOk n U (tpg d s):=by have:=X.og;simpa using this
  obtain⟨b,l,eb,hbp,hbw,hR⟩:=KU hS L k0 d s _ _ hs (hin.2 s (by simp)) hib hog (by omega);have eidx:(A++[s]++B)[An ks key]?=some s:=by
   rw[<-hA,List.append_assoc,List.getElem?_append_right (Nat.le_refl _),Nat.sub_self];rfl
  refine⟨⟨z,fnd (d+1) (ks,A++[s]++B),An ks key,(fnd (d+1) (ks,A++[s]++B)).size⟩,b::l,?_,rfl,rfl,?_⟩
  ·show _::(match (A++[s]++B)[An ks key]? with|some s=>pmod g d s key|none=>[])=_;rw[eidx,<-eb]
  ·have eprs:h (fprs (d+1) (ks,A++[s]++B))=A.flatMap (fun t=>fprs d t.2)++h (fprs d s.2)++B.flatMap (fun t=>fprs d t.2):=by
    rw[BD,List.flatMap_append,List.flatMap_append];have:([s]:List (Int × Fo d)).flatMap (fun t=>fprs d t.2)=fprs d s.2:=by simp
    rw[this];exact L.mid _ _ _ pA pB
   show DownR S n U _ (d+1) z (z::fpgs (d+1) (ks,A++[s]++B)) lo hi (h (fprs (d+1) (ks,A++[s]++B))) _;rw[eprs,<-hA];unfold Cg.down;obtain⟨R,hRe⟩:∃R,R=Cg.down ⟨S,k0,[],[],[]⟩ b l:=⟨_,rfl⟩;rw[<-hRe]at hR |-;rcases hR with ⟨h1,h2⟩|⟨h1,h2,f1,h3,h4,h5,h6⟩
   ·rw[if_neg (by rw[h1];decide)];exact .inl ⟨h1,h2⟩
   ·rw[if_pos h1,<-h5];rcases h6 with ⟨g1,g2,g3,g4⟩|⟨g1,g2,g3,g4,g5⟩
    ·rw[if_pos g1];have:=MO (K:=k0+2*(d+1)) X R.C f1 h3 h4 g3 g4 hs.2.1 (by omega) hK b.kid;rw[<-hbp,<-hbw,<-g2]at this;exact this
    ·rw[if_neg (by rw[g1];simp)];exact Lx X R.C f1 h3 h4 g2 g3 g4 g5 (by omega) _
def eB:ByteArray:=⟨#[]⟩
def RootR(S:Sw)(n:Nat)(U:Nat->Bool)(og:List Int)(prs:List Pr)(C:Cg)(z:Int):Prop :=
 (z=0/\prs=[]/\Pst S n U C og [] [])\/∃(d:Nat) (f:Fo d),tOk d (z,f) eB eB/\tIn C.at d (z,f)/\fprs d f=prs/\Pst S n U C og (z::fpgs d f) (z::fpgs d f)
theorem Lp{S:Sw}{n:Nat}{U:Nat->Bool}(hS:Tk S n U){K d:Nat}{z:Int}{og:List Int}{prs:List Pr}(ho:OgOk n U og)(C:Cg)(f:Fo d)(hz:0<z/\z<(n:Int))(hok:fOk d f eB eB)(hin:fIn C.at d f)(hpr:fprs d f=prs)(hsz:(fnd d f).size<=330)(hP:Pst S n U C og (z::fpgs d f) (fpgs d f)) :
  ((C.rootZ z (fnd d f)).2=8/\Ac S n U (C.root z (fnd d f)))\/((C.rootZ z (fnd d f)).2=0/\RootR S n U og prs (C.root z (fnd d f)) (C.rootZ z (fnd d f)).1):=by
 have hn:=hS.l1;have hone:=hP.one ho;have cz:=hone z;simp only[List.count_cons,beq_self_eq_true,if_pos]at cz;unfold Cg.rootZ Cg.root;by_cases hw:(fnd d f).without=true
 ·rw[if_pos hw,if_pos hw];obtain⟨_,h1,h2⟩:=EF hok hw;refine .inr ⟨rfl,.inl ⟨rfl,by rw[<-hpr];exact h1,⟨hP.ac.same rfl rfl,fun x=>?_,hP.wn,hP.we,fun p hp=>by have:=hP.wi p hp;rw[h2]at this;exact this⟩⟩⟩;have:=hP.pm x;rw[h2]at this;show _+(C.sp++[z]).count x=_+C.tk.count x;rw[List.count_append];simp only[List.count_nil]at this |-;omega
 ·rw[if_neg hw,if_neg hw];by_cases h1:(fnd d f).kd.length=1
  ·rw[if_pos h1,if_pos h1];cases d with
   | zero=>cases h1
   | succ d =>
    obtain⟨ks,ts⟩:=f;have hl:ts.length=1:=by rw[<-List.length_map (f:=Prod.fst)];exact h1
    obtain⟨t,ht⟩:=List.length_eq_one_iff.1 hl;have hlen:ts.length=ks.length+1:=Bb _ _ _ _ hok.2;have hk:ks=[]:=List.length_eq_zero_iff.1 (by omega);subst ht hk;have ht:tOk d t eB eB:=hok.2;have ein:tIn C.at d t:=hin t List.mem_cons_self;have epg:fpgs (d+1) (([]:List ByteArray),[t])=t.1::fpgs d t.2:=by rw[BT];simp[tpg]
    refine .inr ⟨rfl,.inr ⟨d,t.2,ht,ein,by rw[<-hpr,BD];simp,⟨hP.ac.same rfl rfl,fun x=>?_,hP.wn,hP.we,fun p hp=>by have:=hP.wi p hp;rw[epg]at this;exact this⟩⟩⟩;have:=hP.pm x;rw[epg]at this;show (t.1::fpgs d t.2).count x+(C.sp++[z]).count x=_+C.tk.count x;rw[List.count_append];simp only[List.count_cons,List.count_nil]at this |-;omega
  ·rw[if_neg h1,if_neg h1];have hfne:fne d f:=by
    cases d with
    | zero =>
     intro e;have:(fnd 0 f).without=true:=by rw[show f=([]:List Pr) from e];rfl
     exact hw this
    | succ d =>
     intro e;apply h1;show (f.2.map Prod.fst).length=1;rw[List.length_map,Bb _ _ _ _ hok.2,show f.1=[] from e];rfl
   by_cases hg:256<(fnd d f).size
   ·rw[if_pos hg,if_pos hg];unfold Cg.raiseZ Cg.raise;obtain⟨t1,t2,t3,t4⟩:=hP.ac.take;rcases t4 with t4|⟨t4,t5,t6⟩
    ·rw[if_neg (by rw[t4];decide),if_neg (by rw[t4];decide)];exact .inl ⟨t4,t1⟩
    ·rw[if_pos t4,if_pos t4];obtain⟨u1,u2,u3,u4⟩:=t1.take;rcases u4 with u4|⟨u4,u5,u6⟩
     ·rw[if_neg (by rw[u4];decide),if_neg (by rw[u4];decide)];refine .inl ⟨u4,?_⟩;unfold Cg.split;rw[if_neg (by rw[u4];decide)];exact u1
     ·rw[if_pos u4,if_pos u4];obtain⟨fa,fb,q1,q2,q3,q4,q5,q6,q7,q8,q9,q10,q11,q12⟩:=JT d f _ _ hok hg hsz;obtain⟨p,hp⟩:∃p,p=C.takeZ.1:=⟨_,rfl⟩;obtain⟨q,hq⟩:∃q,q=C.take.takeZ.1:=⟨_,rfl⟩;rw[<-hp]at t5 |-;rw[<-hq]at u5;have es:C.take.split z (fnd d f)=(C.take.take.write z (fnd d fa)).write q (fnd d fb):=by unfold Cg.split;rw[if_pos u4,q1,q2,hq]
      have ea:C.take.splitAb 0 (fnd d f) ⟨false,[],[],[z]⟩=fnd (d+1) ([(fnd d f).mid],[(z,fa),(q,fb)]):=by
       unfold Cg.splitAb;rw[if_pos u4,<-hq];rfl
      rw[es,ea];have hf1:∀y,(fpgs d f).count y=(fpgs d fa).count y+(fpgs d fb).count y:=fun y=>by rw[q10,List.count_append]
      have hP1:Pst S n U C.take.take og (p::((z::fpgs d fa)++(q::fpgs d fb))) (fpgs d f):=by
       refine⟨u1,fun x=>?_,by rw[u2,t2];exact hP.wn,by rw[u2,t2];exact hP.we,by rw[u2,t2];exact hP.wi⟩;have a1:=t5 x;have a2:=u5 x;have a3:=hP.pm x;have a4:=hf1 x;simp only[List.count_append,List.count_cons,List.count_nil]at a1 a2 a3 |-;omega
      have hone1:=hP1.one ho;have c1:=hone1 z;have c2:=hone1 q;have c3:=hone1 p;simp only[List.count_append,List.count_cons,beq_self_eq_true,if_pos]at c1 c2 c3;have hzq:z≠q:=fun e=>by rw[e]at c1;simp only[beq_self_eq_true,if_pos]at c1;omega
      have hpz:p≠z:=fun e=>by rw[e]at c3;simp only[beq_self_eq_true,if_pos]at c3;omega
      have hpq:p≠q:=fun e=>by rw[e]at c3;simp only[beq_self_eq_true,if_pos]at c3;omega
      have hno:=hP1.ws_no (z:=z) (by rw[hf1];omega);have hno2:q ∉ (C.take.take.write z (fnd d fa)).ws.map Prod.fst:=by
       show q ∉ (C.take.take.ws++[(z,fnd d fa)]).map Prod.fst;rw[List.map_append];intro hm;rcases List.mem_append.1 hm with e|e
       ·exact hP1.ws_no (z:=q) (by rw[hf1];omega) e
       ·exact hzq (by simpa using Eq.symm (by simpa using e:q=z))
      have hno3:p ∉ ((C.take.take.write z (fnd d fa)).write q (fnd d fb)).ws.map Prod.fst:=by
       show p ∉ (C.take.take.ws++[(z,fnd d fa)]++[(q,fnd d fb)]).map Prod.fst;rw[List.map_append,List.map_append];intro hm;rcases List.mem_append.1 hm with e|e
       ·rcases List.mem_append.1 e with e|e
        ·exact hP1.ws_no (z:=p) (by rw[hf1];omega) e
        ·exact hpz (by simpa using e)
       ·exact hpq (by simpa using e)
      have hup:=hP1.used ho (y:=p) (by simp);have huq:=hP1.used ho (y:=q) (by simp);have hTa:tOk d (z,fa) eB (fnd d f).mid:=⟨⟨by show 1<=z;omega,by show z<=65535;omega⟩,q5,q7,q3⟩;have hTb:tOk d (q,fb) (fnd d f).mid eB:=⟨⟨by show 1<=q;omega,by show q<=65535;omega⟩,q6,q8,q4⟩;have hR:fOk (d+1) ([(fnd d f).mid],[(z,fa),(q,fb)]) eB eB:=⟨fun k hk=>by rw[List.mem_singleton.1 hk];exact q9,hTa,hTb⟩;have hRs:(fnd (d+1) ([(fnd d f).mid],[(z,fa),(q,fb)])).size<=256:=by
       show 4+([(fnd d f).mid].map kSize).sum<=256;have:=DI q9;simp only[List.map_cons,List.map_nil,List.sum_cons,List.sum_nil];omega
      have epg:fpgs (d+1) ([(fnd d f).mid],[(z,fa),(q,fb)])=(z::fpgs d fa)++(q::fpgs d fb):=by rw[BT];simp[tpg]
      have hP2:=hP1.write z (fnd d fa) hno ((AQ (AG d fa _ _ q3)).2 q7) (wg':=p::((z::fpgs d fa)++(q::fpgs d fb))) (fun y hy=>by
       refine List.mem_cons_of_mem _ ?_;rw[q10]at hy;rcases List.mem_append.1 hy with e|e
       ·exact List.mem_append_left _ (List.mem_cons_of_mem _ e)
       ·exact List.mem_append_right _ (List.mem_cons_of_mem _ e)) (by simp)
      have hP3:=hP2.write q (fnd d fb) hno2 ((AQ (AG d fb _ _ q4)).2 q8) (fun y hy=>hy) (by simp);have hP4:=hP3.write p (fnd (d+1) ([(fnd d f).mid],[(z,fa),(q,fb)])) hno3 ((AQ (AG (d+1) _ _ _ hR)).2 hRs) (fun y hy=>hy) List.mem_cons_self;have hat:∀y∈fpgs d f,(((C.take.take.write z (fnd d fa)).write q (fnd d fb)).write p (fnd (d+1) ([(fnd d f).mid],[(z,fa),(q,fb)]))).at y=C.at y:=fun y hy=>by
       have hc:=Ae.1 hy;rw[hf1]at hc;rw[BE (fun e=>by rw[e]at hc;omega),JA (fun e=>by rw[e]at hc;omega) (fun e=>by rw[e]at hc;omega)];have hu:=hP.used ho (List.mem_cons_of_mem z hy);rw[u6 y hu.1 hu.2.1 ?_]
       ·exact t6 y hu.1 hu.2.1 hu.2.2
       ·have hm:y∈p::((z::fpgs d fa)++(q::fpgs d fb)):=Ae.2 (by simp only[List.count_append,List.count_cons];omega);rcases Bool.or_eq_true_iff.1 hu.2.2 with e|e
        ·rw[e];rfl
        ·have h0:0<C.tk.count y:=Ae.1 (List.contains_iff_mem.1 e);have a1:=t5 y;have:0<C.take.tk.count y:=by
          have a3:=hP.pm y;have a4:=hone y;have a5:=Ae.1 hy;simp only[List.count_cons,List.count_nil]at a1 a3 a4;omega
         rw[List.contains_iff_mem.2 (Ae.2 this)];simp
      have hinab:=q12 _ (Bm (V':=(((C.take.take.write z (fnd d fa)).write q (fnd d fb)).write p (fnd (d+1) ([(fnd d f).mid],[(z,fa),(q,fb)]))).at) d f hin hat);refine .inr ⟨rfl,.inr ⟨d+1,([(fnd d f).mid],[(z,fa),(q,fb)]),⟨⟨by show 1<=p;omega,by show p<=65535;omega⟩,(fun e=>by cases e),hRs,hR⟩,⟨at_new (CY hno3),fun t ht=>?_⟩,by rw[BD,<-hpr,q11];simp,by rw[epg];exact hP4⟩⟩;have ht':t∈[(z,fa),(q,fb)]:=ht;rcases List.mem_cons.1 ht' with e|e
      ·rw[e];refine⟨?_,hinab.1⟩;show (((C.take.take.write z (fnd d fa)).write q (fnd d fb)).write p _).at z=_;rw[BE hpz.symm,BE hzq];exact at_new (CY hno)
      ·rw[List.mem_singleton.1 e];refine⟨?_,hinab.2⟩;show (((C.take.take.write z (fnd d fa)).write q (fnd d fb)).write p _).at q=_;rw[BE hpq.symm];exact at_new (CY hno2)
   ·rw[if_neg hg,if_neg hg];have hno:=hP.ws_no (z:=z) (by omega);have hsz':(fnd d f).size<=256:=by omega
    refine .inr ⟨rfl,.inr ⟨d,f,⟨⟨by show 1<=z;omega,by show z<=65535;omega⟩,hfne,hsz',hok⟩,⟨at_new (CY hno),Bm d f hin (fun y hy=>BE (fun e=>?_))⟩,hpr,hP.write z _ hno ((AQ (AG d f _ _ hok)).2 hsz') (fun y hy=>List.mem_cons_of_mem _ hy) List.mem_cons_self⟩⟩;have:=Ae.1 hy;rw[e]at this;omega
theorem MI{x:Nd}(h:x.writeE=0):x.write.size=256:=by
 unfold Nd.write;rw[if_pos h];show x.page.toArray.size=256;rw[List.size_toArray];exact CO h
theorem Tk.write{S:Sw}{n:Nat}{U:Nat->Bool}(h:Tk S n U)(z:Int)(x:ByteArray)(h0:0<z)(h1:z<(n:Int))(hu:U z.toNat=true)(hx:x.size=256):S.write z x={ S with now:=S.now.set z.toNat x }/\Tk (S.write z x) n U:=by
 have ht:AW S.now z=true:=by
  unfold AW;rw[h.len,h.us z.toNat (by omega) (by omega),hu];simp[h0,h1]
 have e:S.write z x={ S with now:=S.now.set z.toNat x }:=by
  unfold Sw.write Sw.writeE;rw[if_pos (by rw[if_neg (by rw[h.ov];simp),if_pos ht,if_pos hx])]
 refine⟨e,?_⟩;rw[e];exact h.put z.toNat x (by omega) hx
theorem GI{n:Nat}{U:Nat->Bool}:∀(ws:List (Int × Nd)) (S:Sw),Tk S n U->(ws.map Prod.fst).Nodup->(∀p∈ws,(0<p.1/\p.1<(n:Int)/\U p.1.toNat=true)/\p.2.writeE=0) ->
  Tk (writeL S ws) n U/\S.From (writeL S ws)/\(∀i,(∀p∈ws,p.1.toNat≠i)->(writeL S ws).now.getD i ⟨#[]⟩=S.now.getD i ⟨#[]⟩)/\∀p∈ws,(writeL S ws).now.getD p.1.toNat ⟨#[]⟩=p.2.write
 | [],S,h,_,_=>⟨h,.refl _,fun _ _=>rfl,fun p hp=>by cases hp⟩
 | p::ws,S,h,hn,hw=>by
  obtain⟨⟨h0,h1,hu⟩,he⟩:=hw p List.mem_cons_self
  have hn':p.1 ∉ ws.map Prod.fst/\(ws.map Prod.fst).Nodup:=List.nodup_cons.1 hn
  obtain⟨e,ht⟩:=h.write p.1 p.2.write h0 h1 hu (MI he)
  obtain⟨i1,i2,i3,i4⟩:=GI ws (S.write p.1 p.2.write) ht hn'.2 (fun q hq=>hw q (List.mem_cons_of_mem _ hq))
  have el:writeL S (p::ws)=writeL (S.write p.1 p.2.write) ws:=rfl
  rw[el]
  refine⟨i1,(JR _ _ _).trans i2,fun i hi=>?_,fun q hq=>?_⟩
  ·rw[i3 i (fun q hq=>hi q (List.mem_cons_of_mem _ hq)),e]
   exact getD_set_ne _ _ _ _ _ (hi p List.mem_cons_self)
  ·rcases List.mem_cons.1 hq with e'|e'
   ·rw[e',i3 p.1.toNat (fun q hq e2=>?_),e]
    ·show (S.now.set p.1.toNat p.2.write).getD p.1.toNat _=_
     rw[List.getD_eq_getElem?_getD,List.getElem?_set,if_pos rfl,if_pos (by rw[h.len];omega)]
     rfl
    ·have hq':=(hw q (List.mem_cons_of_mem _ hq)).1
     have:q.1=p.1:=by omega
     exact hn'.1 (List.mem_map.2 ⟨q,hq,this⟩)
   ·exact i4 q e'
theorem DF {n : Nat} : ∀ (l : List Int) (S : Sw) (U : Nat → Bool), Tk S n U → l.Nodup → (∀ z ∈ l, 0 < z ∧ z < (n : Int) ∧ U z.toNat = true) →
    Tk (dropL S l) n (fun i => U i && !l.contains (i : Int)) ∧ S.From (dropL S l) ∧ ∀ i, 0 < i → (dropL S l).now.getD i ⟨#[]⟩ = S.now.getD i ⟨#[]⟩
  | [], S, U, h, _, _ => ⟨h.congr (fun i _ _ => by simp), .refl _, fun _ _ => rfl⟩
  | z :: l, S, U, h, hn, hw => by
    obtain ⟨h0, h1, hu⟩ := hw z List.mem_cons_self
    have hn' := List.nodup_cons.1 hn
    obtain ⟨hE, ht⟩ := h.drop z h0 h1 hu
    obtain ⟨i1, i2, i3⟩ := DF l (S.drop z) _ ht hn'.2 (fun y hy => by
      have := hw y (List.mem_cons_of_mem _ hy)
      refine ⟨this.1, this.2.1, ?_⟩
      have hne : y.toNat ≠ z.toNat := fun e => hn'.1 (by have : y = z := by omega
                                                         rw [← this]; exact hy)
      show (!(y.toNat == z.toNat) && U y.toNat) = true
      rw [this.2.2]
      simpa using hne)
    have el : dropL S (z :: l) = dropL (S.drop z) l := rfl
    rw [el]
    refine ⟨i1.congr (fun i hi hin => ?_), (LS _ _).trans i2, fun i hi => ?_⟩
    · have : ((i : Int) == z) = (i == z.toNat) := by
        by_cases e : (i : Int) = z
        · have e' : i = z.toNat := by omega
          rw [show ((i : Int) == z) = true by simpa using e, show (i == z.toNat) = true by simpa using e']
        · have e' : ¬ i = z.toNat := by omega
          rw [show ((i : Int) == z) = false by simpa using e, show (i == z.toNat) = false by simpa using e']
      rw [List.contains_cons, this]
      cases (i == z.toNat) <;> cases U i <;> cases l.contains (i : Int) <;> rfl
    · rw [i3 i hi]
      unfold Sw.drop
      rw [if_pos hE]
      show (turnL S.now z.toNat).getD i _ = _
      unfold turnL
      exact getD_set_ne _ _ _ _ _ (by omega)
theorem OS{l:List (Int × Nd)}(hn:(l.map Prod.fst).Nodup){p:Int × Nd}(hp:p∈l):l.find? (fun q=>q.1==p.1)=some p:=by
 induction l with
 | nil=>cases hp
 | cons q l ih =>
  have hn':q.1 ∉ l.map Prod.fst/\(l.map Prod.fst).Nodup:=List.nodup_cons.1 hn;rcases List.mem_cons.1 hp with e|e
  ·rw[e];simp
  ·have:(q.1==p.1)=false:=by
    have:q.1≠p.1:=fun e'=>hn'.1 (List.mem_map.2 ⟨p,e,e'.symm⟩);simpa using this
   rw[List.find?_cons,this];exact ih hn'.2 e
def Hold(S:Sw)(z:Int)(prs:List Pr)(pgs:List Int):Prop:=(z=0/\prs=[]/\pgs=[])\/∃(d:Nat) (f:Fo d),tOk d (z,f) eB eB/\tIn (vS S) d (z,f)/\fprs d f=prs/\pgs=z::fpgs d f
structure Left (S:Sw) (n:Nat) (U:Nat->Bool) (pgs:List Int) (S':Sw) (z':Int) (prs':List Pr) (U':Nat->Bool) (pgs':List Int):Prop where
 tk:Tk S' n U'
 fr:S.From S'
 ho:Hold S' z' prs' pgs'
 og:OgOk n U' pgs'
 us:∀i:Nat,0<i->i<n->(U' i=true↔((U i=true/\(i:Int) ∉ pgs)\/(i:Int)∈pgs'))
 rd:∀i:Nat,0<i->i<n->U i=true->(i:Int) ∉ pgs->S'.now.getD i ⟨#[]⟩=S.now.getD i ⟨#[]⟩
 nw:∀i:Nat,0<i->i<n->U i=true->(i:Int) ∉ pgs->(i:Int) ∉ pgs'
theorem JV{S S':Sw}{z:Int}{prs:List Pr}{pgs:List Int}(h:Hold S z prs pgs)(hv:∀y∈pgs,vS S' y=vS S y):Hold S' z prs pgs:=by
 rcases h with h|⟨d,f,h1,h2,h3,h4⟩
 ·exact .inl h
 ·exact .inr ⟨d,f,h1,BL d (z,f) h2 (fun y hy=>hv y (by rw[h4];exact hy)),h3,h4⟩
theorem LI{S:Sw}{n:Nat}{U:Nat->Bool}(hS:Tk S n U){og:List Int}(ho:OgOk n U og){prs:List Pr}{C:Cg}{z:Int}(hR:RootR S n U og prs C z) :
  C.commitE=0/\∃U' pgs',Left S n U og C.commitS z prs U' pgs':=by
 obtain⟨ng,hP,hat⟩:∃ng,Pst S n U C og ng ng/\((z=0/\prs=[]/\ng=[])\/∃(d:Nat) (f:Fo d),tOk d (z,f) eB eB/\tIn C.at d (z,f)/\fprs d f=prs/\ng=z::fpgs d f):=by
  rcases hR with ⟨h1,h2,h3⟩|⟨d,f,h1,h2,h3,h4⟩
  ·exact⟨[],h3,.inl ⟨h1,h2,rfl⟩⟩
  ·exact⟨_,h4,.inr ⟨d,f,h1,h2,h3,rfl⟩⟩
 have hone:=hP.one ho;have hkids:∀y∈ng,∃x,C.at y=some x/\∀c∈x.kd,c∈ng:=by
  intro y hy;rcases hat with ⟨_,_,e⟩|⟨d,f,h1,h2,h3,e⟩
  ·rw[e]at hy;cases hy
  ·rw[e]at hy;have:=Iv (V:=C.at) (d+1) (([]:List ByteArray),[(z,f)]) (fun t ht=>by rw[List.mem_singleton.1 ht];exact h2) y (by rw[BT];simpa[tpg]using hy);obtain⟨x,hx,hk⟩:=this;refine⟨x,hx,fun c hc=>?_⟩;have:=hk c hc;rw[BT]at this;rw[e];simpa[tpg]using this
 have hws:∀p∈C.ws,C.at p.1=some p.2:=fun p hp=>by
  unfold Cg.at;rw[OS hP.wn hp]
 have htang:C.tangled=false:=by
  unfold Cg.tangled;rw[Bool.or_eq_false_iff];constructor
  ·rw[List.any_eq_false];intro p hp hh;obtain⟨c,hc,hcs⟩:=List.any_eq_true.1 hh;obtain⟨x,hx,hk⟩:=hkids p.1 (hP.wi p hp);rw[hws p hp]at hx;have hx':=Option.some.inj hx;subst hx';have h1:=Ae.1 (hk c hc);have h2:=Ae.1 (List.contains_iff_mem.1 hcs);have:=hone c;omega
  ·rw[Bool.not_eq_false',decide_eq_true_iff];refine List.nodup_append.2 ⟨List.nodup_iff_count.2 (fun a=>by have:=hone a;omega),hP.wn,fun a ha b hb e=>?_⟩;subst e;obtain⟨p,hp,e⟩:=List.mem_map.1 hb;have h1:=Ae.1 (hP.wi p hp);rw[e]at h1;have h2:=Ae.1 ha;have:=hone a;omega
 have hE:C.commitE=0:=by
  unfold Cg.commitE;rw[htang,if_neg (by simp),if_pos];rw[List.all_eq_true];intro p hp;rw[hP.we p hp];rfl
 refine⟨hE,?_⟩;have eS:C.commitS=dropL (writeL C.S C.ws) C.sp:=by unfold Cg.commitS;rw[if_pos hE]
 rw[eS];have hcast:∀y:Int,0<y->((y.toNat:Nat):Int)=y:=fun y hy=>by omega
 obtain⟨w1,w2,w3,w4⟩:=GI C.ws C.S hP.ac.ht hP.wn (fun p hp=>⟨by
  have:=hP.used ho (hP.wi p hp);exact⟨this.1,this.2.1,by rw[hcast p.1 this.1];exact this.2.2⟩,hP.we p hp⟩)
 have hspu:∀y∈C.sp,0<y/\y<(n:Int)/\(U y.toNat||C.tk.contains y)=true:=by
  intro y hy;have h1:=hP.pm y;have h2:=Ae.1 hy;by_cases e:0<og.count y
  ·have:=ho.2 y (Ae.2 e);exact⟨this.1,this.2.1,by rw[this.2.2];rfl⟩
  ·have hm:y∈C.tk:=Ae.2 (by omega);have:=hP.ac.tk y hm;exact⟨this.1,this.2.1,by rw[List.contains_iff_mem.2 hm];simp⟩
 obtain⟨d1,d2,d3⟩:=DF C.sp (writeL C.S C.ws) _ w1 (List.nodup_iff_count.2 (fun a=>by have:=hone a;omega)) (fun y hy=>by
  have:=hspu y hy;exact⟨this.1,this.2.1,by rw[hcast y this.1];exact this.2.2⟩)
 obtain⟨S',hS'⟩:∃S',S'=dropL (writeL C.S C.ws) C.sp:=⟨_,rfl⟩;rw[<-hS']at d1 d2 d3 |-;have hU':∀i:Nat,0<i->i<n->(((U i||C.tk.contains (i:Int))&&!C.sp.contains (i:Int))=true↔((U i=true/\(i:Int) ∉ og)\/(i:Int)∈ng)):=by
  intro i hi hin;have h1:=hP.pm (i:Int);have h2:=hone (i:Int);have e1:C.tk.contains (i:Int)=decide (0<C.tk.count (i:Int)):=by rw[Bool.eq_iff_iff,List.contains_iff_mem,decide_eq_true_iff];exact Ae
  have e2:C.sp.contains (i:Int)=decide (0<C.sp.count (i:Int)):=by rw[Bool.eq_iff_iff,List.contains_iff_mem,decide_eq_true_iff];exact Ae
  have e3:(i:Int)∈og↔0<og.count (i:Int):=Ae;have e4:(i:Int)∈ng↔0<ng.count (i:Int):=Ae;have e5:0<og.count (i:Int)->U i=true:=fun h=>by have:=(ho.2 _ (Ae.2 h)).2.2;simpa using this
  have e6:U i=true->C.tk.count (i:Int)=0:=fun h=>hP.ac.tkU (x:=(i:Int)) (by simpa using h);rw[e1,e2,e3,e4];simp only[Bool.and_eq_true,Bool.or_eq_true,decide_eq_true_iff,Bool.not_eq_true',decide_eq_false_iff_not];constructor
  ·rintro ⟨h3|h3,h4⟩
   ·by_cases h5:0<og.count (i:Int)
    ·right;have:=e6 h3;omega
    ·left;exact⟨h3,h5⟩
   ·right;omega
  ·rintro (⟨h3,h4⟩|h3)
   ·have:=e6 h3;exact⟨.inl h3,by omega⟩
   ·refine⟨?_,by omega⟩;by_cases h5:0<og.count (i:Int)
    ·exact .inl (e5 h5)
    ·right;omega
 have hng:∀y∈ng,0<y/\y<(n:Int)/\((U y.toNat||C.tk.contains ((y.toNat:Nat):Int))&&!C.sp.contains ((y.toNat:Nat):Int))=true:=fun y hy=>by
  have h1:=hP.used ho hy;refine⟨h1.1,h1.2.1,?_⟩;exact(hU' y.toNat (by omega) (by omega)).2 (.inr (by rw[hcast y h1.1];exact hy))
 have hread:∀y∈ng,vS S' y=C.at y:=by
  intro y hy;obtain⟨h1,h2,h3⟩:=hng y hy;have hr:=d1.read h1 h2 h3;by_cases hm:y∈C.ws.map Prod.fst
  ·obtain⟨p,hp,e⟩:=List.mem_map.1 hm;subst e;rw[hws p hp];have e1:S'.now.getD p.1.toNat ⟨#[]⟩=p.2.write:=by rw[d3 p.1.toNat (by omega)];exact w4 p hp
   rw[e1]at hr;have hrd:=EB (hP.we p hp);have hnE:ndE S' p.1=0:=by
    unfold ndE;rw[hr];show (if (0:Int)=0 then _ else _)=0;rw[if_pos rfl,hrd];rfl
   unfold vS;rw[if_pos hnE];unfold ndOf;rw[hr];show some (if (0:Int)=0 then _ else _)=_;rw[if_pos rfl,hrd];rfl
  ·rw[Ih (CY hm)];refine CF ?_;have hu:=hP.used ho hy;rw[hr,hP.ac.ht.read h1 h2 (by rw[hcast y h1];exact hu.2.2),d3 y.toNat (by omega),w3 y.toNat (fun p hp e=>?_)];have:=hP.used ho (hP.wi p hp);exact hm (List.mem_map.2 ⟨p,hp,by omega⟩)
 refine⟨_,ng,d1,(hP.ac.fr.trans w2).trans d2,?_,⟨fun x=>by have:=hone x;omega,fun y hy=>hng y hy⟩,hU',fun i hi hin hu ho'=>?_,fun i hi hin hu ho' hm=>?_⟩
 ·rcases hat with h|⟨d,f,h1,h2,h3,e⟩
  ·exact .inl h
  ·refine .inr ⟨d,f,h1,BL d (z,f) h2 (fun y hy=>hread y (by rw[e];exact hy)),h3,e⟩
 ·have hc0:og.count (i:Int)=0:=by
   rcases Nat.eq_zero_or_pos (og.count (i:Int))with e|e
   ·exact e
   ·exact absurd (Ae.2 e) ho'
  have hno:=hP.no (y:=(i:Int)) (by simpa using hu) hc0;rw[d3 i hi,w3 i (fun p hp e=>?_)]
  ·exact hP.ac.rd i hi hin hu
  ·have h1:=Ae.1 (hP.wi p hp);have h2:=hP.used ho (hP.wi p hp);rw[show p.1=(i:Int) by omega]at h1;omega
 ·have h1:=hP.pm (i:Int);have h2:=hP.ac.tkU (x:=(i:Int)) (by simpa using hu);have h3:=Ae.1 hm;have hc0:og.count (i:Int)=0:=by
   rcases Nat.eq_zero_or_pos (og.count (i:Int))with e|e
   ·exact e
   ·exact absurd (Ae.2 e) ho'
  omega
theorem KN{S:Sw}{n:Nat}{U:Nat->Bool}(hS:Tk S n U){C:Cg}(hA:Ac S n U C):Tk (dropL C.S C.tk) n U/\S.From (dropL C.S C.tk)/\∀i,0<i->i<n->U i=true->(dropL C.S C.tk).now.getD i ⟨#[]⟩=S.now.getD i ⟨#[]⟩:=by
 have hcast:∀y:Int,0<y->((y.toNat:Nat):Int)=y:=fun y hy=>by omega
 obtain⟨d1,d2,d3⟩:=DF C.tk C.S _ hA.ht hA.nd (fun z hz=>by
  have:=hA.tk z hz;exact⟨this.1,this.2.1,by rw[hcast z this.1,List.contains_iff_mem.2 hz];simp⟩)
 refine⟨d1.congr (fun i hi hin=>?_),hA.fr.trans d2,fun i hi hin hu=>by rw[d3 i hi];exact hA.rd i hi hin hu⟩;cases hc:C.tk.contains (i:Int) with
 | false=>simp
 | true =>
  have:=(hA.tk _ (List.contains_iff_mem.1 hc)).2.2;have hu:U i=false:=by simpa using this
  rw[hu];rfl
theorem CZ{S:Sw}{n:Nat}{U:Nat->Bool}(hS:Tk S n U){z:Int}{prs:List Pr}{pgs:List Int}(hH:Hold S z prs pgs)(ho:OgOk n U pgs){S':Sw}(h1:Tk S' n U)(h2:S.From S')(h3:∀i,0<i->i<n->U i=true->S'.now.getD i ⟨#[]⟩=S.now.getD i ⟨#[]⟩):Left S n U pgs S' z prs U pgs:=by
 refine⟨h1,h2,JV hH (fun y hy=>?_),ho,fun i hi hin=>?_,fun i hi hin hu _=>h3 i hi hin hu,fun _ _ _ _ h=>h⟩
 ·have hu:=ho.2 y hy;refine CF ?_;rw[h1.read hu.1 hu.2.1 hu.2.2,hS.read hu.1 hu.2.1 hu.2.2,h3 y.toNat (by omega) (by omega) hu.2.2]
 ·constructor
  ·intro hu;by_cases hm:(i:Int)∈pgs
   ·exact .inr hm
   ·exact .inl ⟨hu,hm⟩
  ·rintro (h|h)
   ·exact h.1
   ·have:=(ho.2 _ h).2.2;simpa using this
end Go.Proofs.YtgcgacjhkhjhmaaGreatDoor
