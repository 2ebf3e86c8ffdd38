/- Part of the proof: contracts over the turned program. -/
import Derived.Test.YtjojffepakclcaaGreatDoorX19
set_option linter.unusedVariables false
set_option maxHeartbeats 4000000
open Go.Proofs.Tryz
namespace Go.Proofs.YtjojffepakclcaaGreatDoor
theorem Jk:∀(n:Nat) (l:List Int),(∀x,l.count x<=1)->(∀z∈l,0<z/\z<=(n:Int))->l.length<=n
 | 0,l,_,h=>by
  cases l with
  | nil=>simp
  | cons z l=>have:=h z List.mem_cons_self;omega
 | n+1,l,hc,h=>by
  have h1:=Jk n (l.filter (fun x=>x != ((n+1:Nat):Int))) (fun x=>Nat.le_trans (List.Sublist.count_le x List.filter_sublist) (hc x)) (fun z hz=>by
   obtain⟨h2,h3⟩:=List.mem_filter.1 hz
   have h4:z≠((n+1:Nat):Int):=by simpa using h3
   have:=h z h2
   omega)
  have h2:l.length=(l.filter (fun x=>x != ((n+1:Nat):Int))).length+l.count ((n+1:Nat):Int):=by
   have e:=List.length_eq_countP_add_countP (fun x=>x != ((n+1:Nat):Int)) (l:=l);rw[List.countP_eq_length_filter]at e;rw[e];congr 1;unfold List.count;congr 1;funext x;cases hx:(x==((n+1:Nat):Int))<;>simp only[bne,hx]<;>rfl
  have:=hc ((n+1:Nat):Int);omega
theorem OgOk.few{n:Nat}{U:Nat->Bool}{og:List Int}(h:OgOk n U og)(hn:0<n):og.length<=n - 1:=Jk (n - 1) og h.1 (fun z hz=>by have:=h.2 z hz;omega)
theorem Fy{α:Type}(f:α->Nat)(M:Nat):∀(l:List α),(∀x∈l,M<=f x)->M*l.length<=(l.map f).sum
 | [],_=>by simp
 | x::l,h=>by
  have:=Fy f M l (fun y hy=>h y (List.mem_cons_of_mem _ hy))
  have h0:=h x List.mem_cons_self
  simp only[List.map_cons,List.sum_cons,List.length_cons]
  rw[Nat.mul_add]
  omega
theorem Jg{α:Type}(f g:α->Nat):∀(l:List α),(∀x∈l,f x+1<=2*g x)->(l.map f).sum+l.length<=2*(l.map g).sum
 | [],_=>by simp
 | x::l,h=>by
  have:=Jg f g l (fun y hy=>h y (List.mem_cons_of_mem _ hy))
  have h0:=h x List.mem_cons_self
  simp only[List.map_cons,List.sum_cons,List.length_cons]
  omega
theorem deep:∀(d:Nat) (t:Int × Fo d) (lo hi:ByteArray),tOk d t lo hi->2 ^ d<=(fprs d t.2).length/\(tpg d t).length+1<=2*(fprs d t.2).length/\2 ^ (d+1) - 1<=(tpg d t).length
 | 0,t,lo,hi,h=>by
  have h1:0<(fprs 0 t.2).length:=List.length_pos_iff.2 h.2.1
  have h2:(tpg 0 t).length=1:=rfl
  simp only[Nat.pow_zero,Nat.zero_add,Nat.pow_one]
  omega
 | d+1,t,lo,hi,h=>by
  have hall:=D9 (R:=fun (t:Int × Fo d)=>2 ^ d<=(fprs d t.2).length/\(tpg d t).length+1<=2*(fprs d t.2).length/\2 ^ (d+1) - 1<=(tpg d t).length) (fun t a b ht=>deep d t a b ht) _ _ _ _ h.2.2.2.2
  have hlen:=A0 _ _ _ _ h.2.2.2.2
  have hks:0<t.2.1.length:=List.length_pos_iff.2 h.2.1
  have e1:(fprs (d+1) t.2).length=(t.2.2.map (fun t=>(fprs d t.2).length)).sum:=List.length_flatMap
  have e2:(tpg (d+1) t).length=(t.2.2.map (fun t=>(tpg d t).length)).sum+1:=by
   show (t.1::t.2.2.flatMap (tpg d)).length=_;rw[List.length_cons,List.length_flatMap]
  have a1:=Fy (fun (t:Int × Fo d)=>(fprs d t.2).length) (2 ^ d) t.2.2 (fun x hx=>(hall x hx).1);have a2:=Jg (fun (t:Int × Fo d)=>(tpg d t).length) (fun t=>(fprs d t.2).length) t.2.2 (fun x hx=>(hall x hx).2.1);have a3:=Fy (fun (t:Int × Fo d)=>(tpg d t).length) (2 ^ (d+1) - 1) t.2.2 (fun x hx=>(hall x hx).2.2);have b1:2 ^ d*2<=2 ^ d*t.2.2.length:=Nat.mul_le_mul_left _ (by omega);have b3:(2 ^ (d+1) - 1)*2<=(2 ^ (d+1) - 1)*t.2.2.length:=Nat.mul_le_mul_left _ (by omega);rw[e1,e2]
  have p1:2 ^ (d+1)=2 ^ d*2:=Nat.pow_succ ..;have p2:2 ^ (d+1+1)=2 ^ (d+1)*2:=Nat.pow_succ ..;refine⟨by omega,by omega,by omega⟩
theorem C9{n:Nat}{U:Nat->Bool}{d:Nat}{t:Int × Fo d}{lo hi:ByteArray}(h:tOk d t lo hi)(ho:OgOk n U (tpg d t))(h0:0<n)(h1:n<=160):d<=6/\(tpg d t).length<=159:=by
 have h2:=ho.few h0;have h3:=(deep d t lo hi h).2.2;refine⟨?_,by omega⟩;rcases Nat.lt_or_ge d 7 with e|e
 ·omega
 ·have:2 ^ 8<=2 ^ (d+1):=Nat.pow_le_pow_right (by omega) (by omega);omega
theorem El{S:Sw}{z:Int}{x:Nd}(h:vS S z=some x){k:Nat}{lv:Int}(hl:lv<=40)(hk:k<1000):trE S k z lv=0/\ndOf S z=x:=by
 obtain⟨h1,h2⟩:=KG h;refine⟨?_,h2⟩;unfold trE;rw[if_pos h1,if_neg (by omega)]
theorem Fz(k:ByteArray):lessB k eB=false:=by
 unfold lessB eB;cases h:k.data.toList<;>rfl
theorem B2(k:ByteArray):inB k eB eB=true:=Ay.2 ⟨Fz k,.inl rfl⟩
theorem JB{d:Nat}{z:Int}{ks:List ByteArray}{ts:List (Int × Fo d)}{lo hi key:ByteArray}(hf:fOk (d+1) (ks,ts) lo hi)(hb:inB key lo hi=true):∃A s B,ts=A++[s]++B/\ts[An ks key]?=some s/\(ts.map Prod.fst).getD (An ks key) 0=s.1/\tOk d s (lowB ks lo A.length) (ks.getD A.length hi)/\inB key (lowB ks lo A.length) (ks.getD A.length hi)=true/\(∀p∈A.flatMap (fun t=>fprs d t.2),lessB p.k key=true)/\(∀p∈B.flatMap (fun t=>fprs d t.2),lessB key p.k=true):=by
 obtain⟨A,s,B,e,hA,hib,pA,pB⟩:=GI (fun (t:Int × Fo d)=>fprs d t.2) (fun t x y ht=>B6 d t x y ht) key ks ts lo hi hf.1 hf.2 hb;subst e;have hc:=(Ee A [s] B ks lo hi (by simp) hf.2).1;have hs:tOk d s (lowB ks lo A.length) (ks.getD A.length hi):=by
  have e1:(ks.drop A.length).take ([s].length - 1)=[]:=by simp
  rw[e1,show A.length+[s].length - 1=A.length by simp]at hc;exact hc
 have eidx:(A++[s]++B)[An ks key]?=some s:=by
  rw[<-hA,List.append_assoc,List.getElem?_append_right (Nat.le_refl _),Nat.sub_self];rfl
 exact⟨A,s,B,rfl,eidx,by rw[List.getD_eq_getElem?_getD,List.getElem?_map,eidx];rfl,hs,hib,pA,pB⟩
theorem KD{g:Nd->Nd}{key:ByteArray}:∀(d:Nat) (t:Int × Fo d),pmod g d t key≠[]
 | 0,t=>by simp[pmod]
 | d+1,t=>by simp[pmod]
theorem DB{S:Sw}{key:ByteArray}:∀(d:Nat) (t:Int × Fo d) (lo hi:ByteArray),tOk d t lo hi->tIn (vS S) d t->inB key lo hi=true->∀(f:Nat) (acc:List Sp) (k:Nat),d<f->acc.length+d<40->k+d<1000 ->
  wayG S key f acc t.1 k=(acc++pmod id d t key,0,k+d+1)
 | 0,t,lo,hi,ht,hin,hb,f,acc,k,hf,ha,hk=>by
  obtain⟨f,rfl⟩:∃g,f=g+1:=⟨f - 1,by omega⟩
  obtain⟨e1,e2⟩:=El hin.1 (k:=k) (lv:=acc.length+1) (by omega) (by omega)
  unfold wayG
  rw[if_pos e1,e2,if_pos (show (fnd 0 t.2).leaf=true from rfl)]
  rfl
 | d+1,t,lo,hi,ht,hin,hb,f,acc,k,hf,ha,hk=>by
  obtain⟨f,rfl⟩:∃g,f=g+1:=⟨f - 1,by omega⟩
  obtain⟨z,ks,ts⟩:=t
  obtain⟨e1,e2⟩:=El hin.1 (k:=k) (lv:=acc.length+1) (by omega) (by omega)
  obtain⟨A,s,B,e,hidx,hgd,hs,hib,_,_⟩:=JB (z:=z) ht.2.2.2 hb
  unfold wayG
  rw[if_pos e1,e2,if_neg (by show ¬(false=true);simp)]
  show wayG S key f (acc++[⟨z,fnd (d+1) (ks,ts),An ks key,_⟩]) ((ts.map Prod.fst).getD (An ks key) 0) (k+1)=_
  rw[hgd,DB d s _ _ hs (hin.2 s (by rw[e];simp)) hib f _ (k+1) (by omega) (by simp only[List.length_append,List.length_cons,List.length_nil];omega) (by omega)]
  show _=(acc++(_::(match ts[An ks key]? with|some s=>pmod id d s key|none=>[])),0,_)
  rw[hidx,List.append_assoc,show k+1+d+1=k+(d+1)+1 by omega]
  rfl
theorem GY(g:Nd->Nd)(a:Sp){l:List Sp}(h:l≠[]):setLast g (a::l)=a::setLast g l:=by
 cases l with
 | nil=>exact absurd rfl h
 | cons b l=>rfl
theorem JC(a:Sp){l:List Sp}(h:l≠[]):lastN (a::l)=lastN l:=by
 cases l with
 | nil=>exact absurd rfl h
 | cons b l=>unfold lastN;rw[List.getLast?_cons_cons]
theorem BK{key:ByteArray}(g:Nd->Nd):∀(d:Nat) (t:Int × Fo d) (lo hi:ByteArray),tOk d t lo hi->inB key lo hi=true->setLast g (pmod id d t key)=pmod g d t key
 | 0,t,lo,hi,_,_=>rfl
 | d+1,t,lo,hi,ht,hb=>by
  obtain⟨z,ks,ts⟩:=t
  obtain⟨A,s,B,e,hidx,hgd,hs,hib,_,_⟩:=JB (z:=z) ht.2.2.2 hb
  show setLast g (_::(match ts[An ks key]? with|some s=>pmod id d s key|none=>[]))=_::(match ts[An ks key]? with|some s=>pmod g d s key|none=>[])
  rw[hidx,GY g _ (KD d s),BK g d s _ _ hs hib]
theorem GK{key:ByteArray}:∀(d:Nat) (t:Int × Fo d) (lo hi:ByteArray),tOk d t lo hi->inB key lo hi=true->∃A ps B,fprs d t.2=A++ps++B/\(∀p∈A,lessB p.k key=true)/\(∀p∈B,lessB key p.k=true)/\lastN (pmod id d t key)=⟨true,ps,[],[]⟩
 | 0,t,lo,hi,_,_=>⟨[],t.2,[],by show t.2=[]++List.append (α:=Pr) t.2 [];exact(List.append_nil _).symm,(fun p hp=>by cases hp),(fun p hp=>by cases hp),rfl⟩
 | d+1,t,lo,hi,ht,hb=>by
  obtain⟨z,ks,ts⟩:=t
  obtain⟨A,s,B,e,hidx,hgd,hs,hib,pA,pB⟩:=JB (z:=z) ht.2.2.2 hb
  obtain⟨A',ps,B',e',hA',hB',hl⟩:=GK d s _ _ hs hib
  refine⟨A.flatMap (fun t=>fprs d t.2)++A',ps,B'++B.flatMap (fun t=>fprs d t.2),?_,fun p hp=>?_,fun p hp=>?_,?_⟩
  ·show ts.flatMap (fun t=>fprs d t.2)=_
   rw[e,List.flatMap_append,List.flatMap_append]
   have:([s]:List (Int × Fo d)).flatMap (fun t=>fprs d t.2)=fprs d s.2:=by simp
   rw[this,e']
   simp only[List.append_assoc]
  ·rcases List.mem_append.1 hp with e|e
   ·exact pA p e
   ·exact hA' p e
  ·rcases List.mem_append.1 hp with e|e
   ·exact hB' p e
   ·exact pB p e
  ·show lastN (_::(match ts[An ks key]? with|some s=>pmod id d s key|none=>[]))=_
   rw[hidx,JC _ (KD d s)]
   exact hl
theorem J4{S:Sw}{n:Nat}{U:Nat->Bool}(hS:Tk S n U){z:Int}{prs prs':List Pr}{pgs:List Int}(hH:Hold S z prs pgs)(ho:OgOk n U pgs)(C:Cg)(way:List Sp)(h:((C.settle way).2.2=8/\Ac S n U (C.settle way).1)\/((C.settle way).2.2=0/\RootR S n U pgs prs' (C.settle way).1 (C.settle way).2.1)) :
  (C.putE way=0/\∃U' pgs',Left S n U pgs (C.putS way) (C.putZ z way) prs' U' pgs')\/(C.putE way=8/\C.putZ z way=z/\Left S n U pgs (C.putS way) z prs U pgs):=by
 rcases h with ⟨h1,h2⟩|⟨h1,h2⟩
 ·right;have e:C.putE way=8:=by unfold Cg.putE;rw[if_neg (by rw[h1];decide),h1]
  obtain⟨b1,b2,b3⟩:=O6 hS h2;refine⟨e,by unfold Cg.putZ;rw[if_neg (by rw[e];decide)],?_⟩;have es:C.putS way=dropL (C.settle way).1.S (C.settle way).1.tk:=by unfold Cg.putS;rw[if_neg (by rw[e];decide)]
  rw[es];exact Dc hS hH ho b1 b2 b3
 ·left;obtain⟨c1,U',pgs',c2⟩:=Mk hS ho h2;have e:C.putE way=0:=by unfold Cg.putE;rw[if_pos h1,c1]
  refine⟨e,U',pgs',?_⟩;have es:C.putS way=(C.settle way).1.commitS:=by unfold Cg.putS;rw[if_pos e]
  have ez:C.putZ z way=(C.settle way).2.1:=by unfold Cg.putZ;rw[if_pos e]
  rw[es,ez];exact c2
theorem Nq{S:Sw}{n:Nat}{U:Nat->Bool}(hS:Tk S n U){key:ByteArray}{g:Nd->Nd}{h:List Pr->List Pr}(L:Lf key g h){d:Nat}{z:Int}{f:Fo d}(ht:tOk d (z,f) eB eB)(hin:tIn (vS S) d (z,f))(ho:OgOk n U (z::fpgs d f))(k0:Nat)(hk:k0<900) :
  (((⟨S,k0,[],[],[]⟩:Cg).settle (pmod g d (z,f) key)).2.2=8/\Ac S n U ((⟨S,k0,[],[],[]⟩:Cg).settle (pmod g d (z,f) key)).1)\/(((⟨S,k0,[],[],[]⟩:Cg).settle (pmod g d (z,f) key)).2.2=0/\RootR S n U (z::fpgs d f) (h (fprs d f)) ((⟨S,k0,[],[],[]⟩:Cg).settle (pmod g d (z,f) key)).1 ((⟨S,k0,[],[],[]⟩:Cg).settle (pmod g d (z,f) key)).2.1):=by
 have hd:=C9 ht ho hS.l0 hS.l1;obtain⟨a,l,e,hap,haw,hR⟩:=K7 hS L k0 d (z,f) eB eB ht hin (B2 key) ho (by omega);rw[e];simp only[Cg.settle];obtain⟨R,hRe⟩:∃R,R=Cg.down ⟨S,k0,[],[],[]⟩ a l:=⟨_,rfl⟩;rw[<-hRe]at hR |-;have hzz:=ho.2 z List.mem_cons_self;rcases hR with ⟨h1,h2⟩|⟨h1,h2,f1,h3,h4,h5,h6⟩
 ·rw[if_neg (by rw[h1];decide)];exact .inl ⟨h1,h2⟩
 ·rw[if_pos h1];rcases h6 with ⟨g1,g2,g3,g4⟩|⟨g1,g2,g3,g4,g5⟩
  ·rw[if_pos g1,hap,g2];exact KX hS (K:=0) ho R.C f1 ⟨hzz.1,hzz.2.1⟩ h3 h4 h5 g3 g4
  ·rw[if_neg (by rw[g1];simp),hap];exact .inr ⟨rfl,.inr ⟨d,f1,⟨ht.1,g3,g4,h3⟩,⟨g2,h4⟩,h5,g5⟩⟩
theorem Lf.put(key val:ByteArray)(hk:okKey key=true)(hv:val.size<=40):Lf key (fun n=>n.put key val) (fun l=>putL l key val):=⟨fun ps=>rfl,fun ps lo hi h hb=>JE h hk hv hb,fun ps h=>(Lt ps h key val (AE hk).2 hv).1,fun A M B h1 h2=>MB A M B key val h1 h2⟩
theorem Lf.cut(key:ByteArray):Lf key (fun n=>n.cut key) (fun l=>cutP l key):=⟨fun ps=>rfl,fun ps lo hi h hb=>Jw h,fun ps h=>by have:=Lg ps key;omega,fun A M B h1 h2=>IB A M B key h1 h2⟩
theorem Pv{S:Sw}{n:Nat}{U:Nat->Bool}(hS:Tk S n U){z:Int}{prs:List Pr}{pgs:List Int}(hH:Hold S z prs pgs)(ho:OgOk n U pgs)(key:ByteArray):getT S z key=if hasN prs key then (getL prs key,true,0) else (⟨#[]⟩,false,0):=by
 rcases hH with ⟨h1,h2,h3⟩|⟨d,f,h1,h2,h3,h4⟩
 ·unfold getT;rw[if_pos h1,h2];rfl
 ·rw[h4]at ho;have hd:=C9 h1 ho hS.l0 hS.l1;have hz0:z≠0:=fun e=>by have:=h1.1.1;simp only[e]at this;omega
  obtain⟨A,ps,B,e,hA,hB,hl⟩:=GK d (z,f) eB eB h1 (B2 key);have hw:=DB d (z,f) eB eB h1 h2 (B2 key) 41 [] 0 (by omega) (by simp;omega) (by omega);simp only[List.nil_append]at hw;have e':prs=A++ps++B:=by rw[<-h3];exact e
  unfold getT;rw[if_neg hz0,show wayG S key 41 [] z 0=_ from hw];simp only[if_true];rw[hl,e',D7 A ps B key hA hB];by_cases hh:hasN ps key=true
  ·rw[if_pos hh,if_pos hh,MY A ps B key hA hB hh];rfl
  ·rw[if_neg hh,if_neg hh]
theorem PC{S:Sw}{n:Nat}{U:Nat->Bool}(hS:Tk S n U){z:Int}{prs:List Pr}{pgs:List Int}(hH:Hold S z prs pgs)(ho:OgOk n U pgs)(key val:ByteArray)(hk:okKey key=true)(hv:val.size<=40) :
  (putTE S z key val=0/\∃U' pgs',Left S n U pgs (putTS S z key val) (putTZ S z key val) (putL prs key val) U' pgs')\/(putTE S z key val=8/\putTZ S z key val=z/\Left S n U pgs (putTS S z key val) z prs U pgs):=by
 have hks:=AE hk;have hE:argE key val=false:=decide_eq_false (by omega);unfold putTE putTZ putTS;simp only[hE,Bool.false_eq_true,if_false];rcases hH with ⟨h1,h2,h3⟩|⟨d,f,h1,h2,h3,h4⟩
 ·subst h1 h2 h3;have hH0:Hold S 0 [] []:=.inl ⟨rfl,rfl,rfl⟩;have hc0:(cg0 S).leafE 0 key=S.takeE.2:=rfl;have hcW:(cg0 S).leafW 0 key=[⟨S.takeE.1,⟨true,[],[],[]⟩,0,0⟩]:=rfl;have hcC:(cg0 S).leaf 0 key=(cg0 S).take:=rfl;rw[hc0,hcW,hcC];rcases (Ac.zero hS 0).takeS with ⟨t1,t2,t3,t4,t5⟩|⟨t1,t2⟩
  ·have t1':S.takeE.2=0:=t1;rw[t1'];simp only[if_true];have et:(cg0 S).take=⟨S.take (fillB 0),0,[],[S.takeE.1],[]⟩:=by
    unfold Cg.take;rw[if_pos (show (cg0 S).sp.length=0 from rfl)];show (⟨S.take (fillB 0),0,[],if S.takeE.2=0 then []++[S.takeE.1] else [],[]⟩:Cg)=_;rw[t1',if_pos rfl];rfl
   rw[et];refine J4 hS hH0 ho _ _ ?_;show ((Cg.settle ⟨S.take (fillB 0),0,[],[S.takeE.1],[]⟩ [⟨S.takeE.1,⟨true,[⟨key,val⟩],[],[]⟩,0,0⟩]).2.2=8/\_)\/_
   exact KX hS (K:=0) (d:=0) ho _ [⟨key,val⟩] ⟨t2.1,t2.2.1⟩ ⟨fun p hp=>by rw[List.mem_singleton.1 hp];exact⟨hk,hv,B2 key⟩,List.pairwise_singleton _ _⟩ trivial rfl (by show 2+(2+key.size+val.size+0)<=330;omega) ⟨t4.same rfl rfl,fun x=>by show _+0=0+_;rw[Nat.add_zero,Nat.zero_add];rfl,List.nodup_nil,(fun p hp=>by cases hp),(fun p hp=>by cases hp)⟩
  ·have t1':S.takeE.2=8:=t1;rw[t1'];right;refine⟨rfl,rfl,?_⟩;have et:(cg0 S).take.S=S:=t2;rw[if_neg (by decide),et];exact Dc hS hH0 ho hS (.refl _) (fun _ _ _ _=>rfl)
 ·subst h4;have hd:=C9 h1 ho hS.l0 hS.l1;have hz0:z≠0:=fun e=>by have:=h1.1.1;simp only[e]at this;omega
  have hw:=DB d (z,f) eB eB h1 h2 (B2 key) 41 [] 0 (by omega) (by simp;omega) (by omega);simp only[List.nil_append]at hw;have e1:(cg0 S).leafE z key=0:=by unfold Cg.leafE;rw[if_neg hz0];show (wayG S key 41 [] z 0).2.1=0;rw[show wayG S key 41 [] z 0=_ from hw]
  have e2:(cg0 S).leafW z key=pmod id d (z,f) key:=by unfold Cg.leafW;rw[if_neg hz0];show (wayG S key 41 [] z 0).1=_;rw[show wayG S key 41 [] z 0=_ from hw]
  have e3:(cg0 S).leaf z key=⟨S,0+d+1,[],[],[]⟩:=by unfold Cg.leaf;rw[if_neg hz0];show (⟨S,(wayG S key 41 [] z 0).2.2,[],[],[]⟩:Cg)=_;rw[show wayG S key 41 [] z 0=_ from hw]
  simp only[e1,if_true];rw[e2,e3,BK _ d (z,f) eB eB h1 (B2 key),<-h3];exact J4 hS (.inr ⟨d,f,h1,h2,rfl,rfl⟩) ho _ _ (Nq hS (Lf.put key val hk hv) h1 h2 ho _ (by omega))
theorem Px{S:Sw}{n:Nat}{U:Nat->Bool}(hS:Tk S n U){z:Int}{prs:List Pr}{pgs:List Int}(hH:Hold S z prs pgs)(ho:OgOk n U pgs)(key:ByteArray) :
  (delTE S z key=0/\delTB S z key=hasN prs key/\∃U' pgs',Left S n U pgs (delTS S z key) (delTZ S z key) (if hasN prs key then cutP prs key else prs) U' pgs')\/(delTE S z key=8/\delTB S z key=false/\delTZ S z key=z/\Left S n U pgs (delTS S z key) z prs U pgs):=by
 have hHH:=hH;rcases hH with ⟨h1,h2,h3⟩|⟨d,f,h1,h2,h3,h4⟩
 ·subst h1 h2 h3;left;have e0:delTE S 0 key=0:=rfl;have eq:delQ S 0 key=false:=rfl;refine⟨e0,by unfold delTB;rw[eq];rfl,U,[],?_⟩;have ez:delTZ S 0 key=0:=by unfold delTZ;rw[eq];rfl
  have es:delTS S 0 key=S:=by unfold delTS;rw[eq];rfl
  rw[ez,es];exact Dc hS hHH ho hS (.refl _) (fun _ _ _ _=>rfl)
 ·subst h4;have hd:=C9 h1 ho hS.l0 hS.l1;have hz0:z≠0:=fun e=>by have:=h1.1.1;simp only[e]at this;omega
  obtain⟨A,ps,B,e,hA,hB,hl⟩:=GK d (z,f) eB eB h1 (B2 key);have hw:=DB d (z,f) eB eB h1 h2 (B2 key) 41 [] 0 (by omega) (by simp;omega) (by omega);simp only[List.nil_append]at hw;have hw':wayG S key 41 [] z 0=(pmod id d (z,f) key,0,0+d+1):=hw;have e':prs=A++ps++B:=by rw[<-h3];exact e
  have hh:hasN (lastN (wayG S key 41 [] z 0).1).ps key=hasN prs key:=by rw[hw',e',D7 A ps B key hA hB];show hasN (lastN (pmod id d (z,f) key)).ps key=_;rw[hl]
  have hq:delQ S z key=hasN prs key:=by
   unfold delQ;rw[hh,show (wayG S key 41 [] z 0).2.1=0 by rw[hw']];simp[hz0]
  have hE:delTE S z key=if hasN prs key then (delC S z key).putE (delW S z key) else 0:=by
   unfold delTE;rw[if_neg hz0,hh,if_pos (by rw[hw'])]
  unfold delTB delTZ delTS;rw[hE,hq];cases hp:hasN prs key with
  | false =>
   left;simp only[Bool.false_eq_true,if_false,Bool.false_and];exact⟨trivial,trivial,U,_,Dc hS hHH ho hS (.refl _) (fun _ _ _ _=>rfl)⟩
  | true =>
   simp only[if_true,Bool.true_and];have ec:delC S z key=⟨S,0+d+1,[],[],[]⟩:=by unfold delC;rw[hw'];rfl
   have ew:delW S z key=pmod (fun n=>n.cut key) d (z,f) key:=by unfold delW;rw[hw'];exact BK _ d (z,f) eB eB h1 (B2 key)
   rw[ec,ew];have hc:=Nq hS (Lf.cut key) h1 h2 ho (0+d+1) (by omega);rw[h3]at hc;rcases J4 hS hHH ho _ _ hc with ⟨f1,f2⟩|⟨f1,f2,f3⟩
   ·left;rw[f1];exact⟨rfl,rfl,f2⟩
   ·right;rw[f1];exact⟨rfl,rfl,f2,f3⟩
theorem Ga{α:Type}{P:α->ByteArray->ByteArray->Prop}(Q:α->List Pr)(hP:∀t a b,P t a b->Rng (Q t) a b)(fr:ByteArray):∀(ks:List ByteArray) (ts:List α) (lo hi:ByteArray),(∀k∈ks,okKey k=true)->AD P ks ts lo hi ->
  ∃A B,ts=A++B/\A.length=An ks fr/\AD P (ks.drop A.length) B (lowB ks lo A.length) hi/\∀p∈A.flatMap Q,lessB p.k fr=true
 | [],[t],lo,hi,_,h=>⟨[],[t],rfl,rfl,h,fun p hp=>by cases hp⟩
 | k::ks,t::ts,lo,hi,hk,h=>by
  have hk':=fun x hx=>hk x (List.mem_cons_of_mem k hx)
  have hs:=AE (hk k List.mem_cons_self)
  have hall:=BW Q hP (k::ks) (t::ts) lo hi hk h
  cases hlt:lessB fr k with
  | true =>
   refine⟨[],t::ts,rfl,?_,h,fun p hp=>by cases hp⟩
   rw[CV (fun x hx=>?_)];rfl
   rcases List.mem_cons.1 hx with e|e
   ·rw[e];exact hlt
   ·exact AP hlt ((List.pairwise_cons.1 hall.2.1).1 x e)
  | false =>
   obtain⟨A,B,e,hl,hB,hA⟩:=Ga Q hP fr ks ts k hi hk' h.2
   refine⟨t::A,B,by rw[e];rfl,?_,?_,fun p hp=>?_⟩
   ·rw[EI,hlt,List.length_cons,hl];simp[Nat.add_comm]
   ·have e1:lowB (k::ks) lo (t::A).length=lowB ks k A.length:=by
     unfold lowB;rw[if_neg (by simp)];by_cases h0:A.length=0
     ·rw[if_pos h0,List.length_cons,h0];rfl
     ·obtain⟨n,hn⟩:=Nat.exists_eq_succ_of_ne_zero h0;rw[if_neg h0,List.length_cons,hn];rfl
    rw[e1];exact hB
   ·rw[List.flatMap_cons]at hp;rcases List.mem_append.1 hp with e|e
    ·have h1:=Ay.1 ((hP t lo k h.1).2.2 p e);rcases h1.2 with e|e
     ·omega
     ·exact CN e hlt
    ·exact hA p e
 | [],[],_,_,_,h=>h.elim
 | _::_,[],_,_,_,h=>h.elim
 | [],_::_::_,_,_,_,h=>h.elim
def OvL(fr up:ByteArray)(pgs:List Int)(prs:List Pr)(L:Lo)(R:Int × Lo):Prop :=
 R.1=0/\R.2.pairs=L.pairs++prs.filter (fun p=>inB p.k fr up)/\R.2.k<=L.k+pgs.length/\(fr=eB->up=eB->(∀x,(L.pages++pgs).count x<=1)->R.2.pages=L.pages++pgs)
theorem I8{d:Nat}(fr up:ByteArray)(rec:Int->Lo->Int × Lo)(all:List ByteArray):∀(B:List (Int × Fo d)) (ks:List ByteArray) (i:Nat) (lo hi:ByteArray) (L:Lo),AD (tOk d) ks B lo hi->(∀k∈ks,okKey k=true)->ks=all.drop i->(0<i->lo=all.getD (i - 1) ⟨#[]⟩)->(∀t∈B,∀M:Lo,M.k+(tpg d t).length<=1000->OvL fr up (tpg d t) (fprs d t.2) M (rec t.1 M))->L.k+(B.flatMap (tpg d)).length<=1000 ->
  OvL fr up (B.flatMap (tpg d)) (B.flatMap (fun t=>fprs d t.2)) L (overK rec all up (B.map Prod.fst) i L)
 | [],ks,i,lo,hi,L,h,_,_,_,_,_=>by cases ks<;>exact h.elim
 | t::B,ks,i,lo,hi,L,h,hk,hall,hlo,hrec,hL=>by
  have hprs:=BW (fun (t:Int × Fo d)=>fprs d t.2) (fun t x y ht=>B6 d t x y ht) ks (t::B) lo hi hk h
  rw[List.map_cons]
  unfold overK
  by_cases hc:0<i/\inB (all.getD (i - 1) ⟨#[]⟩) ⟨#[]⟩ up=false
  ·rw[if_pos hc,<-hlo hc.1]at *
   have hc2:¬(lessB lo eB=false/\(up.size=0\/lessB lo up=true)):=fun hh=>by
    have:=Ay.2 hh
    rw[show inB lo eB up=inB lo ⟨#[]⟩ up from rfl,hc.2]at this
    cases this
   have hup:up.size≠0/\lessB lo up=false:=by
    refine⟨fun e=>hc2 ⟨Fz lo,.inl e⟩,?_⟩;cases e:lessB lo up with
    | false=>rfl
    | true=>exact absurd ⟨Fz lo,.inr e⟩ hc2
   refine⟨rfl,?_,by show L.k<=_;omega,fun _ e2=>?_⟩
   ·show L.pairs=_;have:((t::B).flatMap (fun t=>fprs d t.2)).filter (fun p=>inB p.k fr up)=[]:=List.filter_eq_nil_iff.2 (fun p hp hh=>by
     have h1:=Ay.1 (hprs.1.2.2 p hp);have h2:=Ay.1 hh;rcases h2.2 with e|e
     ·exact hup.1 e
     ·have:=Ps hup.2 h1.1;rw[e]at this;cases this)
    rw[this,List.append_nil]
   ·exact absurd (show up.size=0 by rw[e2];rfl) hup.1
  ·rw[if_neg hc];have elen:((t::B).flatMap (tpg d)).length=(tpg d t).length+(B.flatMap (tpg d)).length:=by rw[List.flatMap_cons,List.length_append]
   rw[elen]at hL;obtain⟨r1,r2,r3,r4⟩:=hrec t List.mem_cons_self L (by omega);rw[if_pos r1];cases B with
   | nil =>
    simp only[List.map_nil,overK];refine⟨rfl,by simpa using r2,by simpa using r3,fun e1 e2 hcnt=>by simpa using r4 e1 e2 (by simpa using hcnt)⟩
   | cons s B =>
    cases ks with
    | nil=>exact h.elim
    | cons k ks =>
     have hdrop:ks=all.drop (i+1):=by
      have:=congrArg List.tail hall;rw[List.tail_drop]at this;exact this
     have hk0:k=all.getD i ⟨#[]⟩:=by
      have:=congrArg List.head? hall;rw[List.head?_drop]at this;rw[List.getD_eq_getElem?_getD,<-this];rfl
     obtain⟨s1,s2,s3,s4⟩:=I8 fr up rec all (s::B) ks (i+1) k hi (rec t.1 L).2 h.2 (fun x hx=>hk x (List.mem_cons_of_mem _ hx)) hdrop (fun _=>by rw[Nat.add_sub_cancel];exact hk0) (fun t' ht'=>hrec t' (List.mem_cons_of_mem _ ht')) (by omega);refine⟨s1,?_,by rw[elen];omega,fun e1 e2 hcnt=>?_⟩
     ·rw[s2,r2,List.flatMap_cons (x:=t),List.filter_append,List.append_assoc]
     ·rw[List.flatMap_cons,<-List.append_assoc]at hcnt |-;have h4:=r4 e1 e2 (fun x=>by have:=hcnt x;rw[List.count_append]at this;omega);rw[s4 e1 e2 (fun x=>by rw[h4];exact hcnt x),h4]
theorem OF{ks:List ByteArray}(h:∀k∈ks,okKey k=true):An ks eB=0:=CV (fun x hx=>by
 have hs:=AE (h x hx)
 cases e:lessB eB x with
 | true=>rfl
 | false =>
  have e2:=Br e (Fz x)
  have e3:x.size=0:=by rw[<-e2];rfl
  omega)
theorem KY{S:Sw}(fr up:ByteArray):∀(d:Nat) (t:Int × Fo d) (lo hi:ByteArray),tOk d t lo hi->tIn (vS S) d t->∀(f:Nat) (lv:Int) (L:Lo),d<f->lv+d<=40->L.k+(tpg d t).length<=1000->OvL fr up (tpg d t) (fprs d t.2) L (overG S fr up f t.1 lv L)
 | 0,t,lo,hi,ht,hin,f,lv,L,hf,hlv,hk=>by
  obtain⟨f,rfl⟩:∃g,f=g+1:=⟨f - 1,by omega⟩
  have hl:(tpg 0 t).length=1:=rfl
  obtain⟨e1,e2⟩:=El hin.1 (k:=L.k) (lv:=lv) (by omega) (by omega)
  unfold overG
  rw[if_pos e1,e2]
  show OvL fr up [t.1] t.2 L (0,{ ({ L with k:=L.k+1 }.meet t.1)with pairs:=L.pairs++List.filter (α:=Pr) (fun p=>inB p.k fr up) t.2 })
  have hm:({ L with k:=L.k+1 }.meet t.1).k=L.k+1:=by unfold Lo.meet;split<;>rfl
  refine⟨rfl,rfl,by show ({ L with k:=L.k+1 }.meet t.1).k<=_;rw[hm];simp,fun _ _ hc=>?_⟩
  show ({ L with k:=L.k+1 }.meet t.1).pages=_
  unfold Lo.meet
  have:=hc t.1
  rw[List.count_append]at this
  have h1:([t.1]:List Int).count t.1=1:=by simp
  have:L.pages.contains t.1=false:=by
   cases e:L.pages.contains t.1 with
   | false=>rfl
   | true=>have:=Ae.1 (List.contains_iff_mem.1 e);omega
  rw[if_neg (by show ¬(L.pages.contains t.1=true);rw[this];simp)]
 | d+1,t,lo,hi,ht,hin,f,lv,L,hf,hlv,hk=>by
  obtain⟨f,rfl⟩:∃g,f=g+1:=⟨f - 1,by omega⟩;obtain⟨z,ks,ts⟩:=t;have hfo:fOk (d+1) (ks,ts) lo hi:=ht.2.2.2;have hl:(tpg (d+1) (z,(ks,ts))).length=1+(ts.flatMap (tpg d)).length:=by show (z::ts.flatMap (tpg d)).length=_;rw[List.length_cons,Nat.add_comm]
  rw[hl]at hk;obtain⟨e1,e2⟩:=El hin.1 (k:=L.k) (lv:=lv) (by omega) (by omega);obtain⟨A,B,e,hA,hB,hpA⟩:=Ga (fun (t:Int × Fo d)=>fprs d t.2) (fun t x y ht=>B6 d t x y ht) fr ks ts lo hi hfo.1 hfo.2;unfold overG;rw[if_pos e1,e2];obtain⟨M,hM⟩:∃M:Lo,M={ ({ L with k:=L.k+1 }.meet z)with pairs:=L.pairs }:=⟨_,rfl⟩;have hMk:M.k=L.k+1:=by rw[hM];unfold Lo.meet;split<;>rfl
  have hMp:M.pairs=L.pairs:=by rw[hM]
  show OvL fr up (z::ts.flatMap (tpg d)) (ts.flatMap (fun t=>fprs d t.2)) L (overK (fun x N=>overG S fr up f x (lv+1) N) ks up ((ts.map Prod.fst).drop (An ks fr)) (An ks fr) { ({ L with k:=L.k+1 }.meet z)with pairs:=L.pairs++([]:List Pr).filter (fun p=>inB p.k fr up) });have hM':({ ({ L with k:=L.k+1 }.meet z)with pairs:=L.pairs++([]:List Pr).filter (fun p=>inB p.k fr up) }:Lo)=M:=by rw[hM];simp
  rw[hM',<-hA,<-List.map_drop];have eB':ts.drop A.length=B:=by rw[e,List.drop_left]
  rw[eB'];have ets:(ts.flatMap (tpg d)).length=(A.flatMap (tpg d)).length+(B.flatMap (tpg d)).length:=by rw[e,List.flatMap_append,List.length_append]
  obtain⟨r1,r2,r3,r4⟩:=I8 fr up (fun x N=>overG S fr up f x (lv+1) N) ks B (ks.drop A.length) A.length (lowB ks lo A.length) hi M hB (fun k hk=>hfo.1 k (List.mem_of_mem_drop hk)) rfl (fun h0=>by unfold lowB;rw[if_neg (by omega)]) (fun s hs N hN=>by
   have hs':s∈ts:=by rw[e];exact List.mem_append_right _ hs
   have hall:=D9 (R:=fun (s:Int × Fo d)=>∃a b,tOk d s a b) (fun s a b h=>⟨a,b,h⟩) _ _ _ _ hfo.2 s hs';obtain⟨a,b,hab⟩:=hall;exact KY fr up d s a b hab (hin.2 s hs') f (lv+1) N (by omega) (by omega) hN) (by omega)
  refine⟨r1,?_,by show _<=L.k+(ts.flatMap (tpg d)).length.succ;omega,fun f1 f2 hc=>?_⟩
  ·rw[r2,hMp,e,List.flatMap_append,List.filter_append];have:(A.flatMap (fun t=>fprs d t.2)).filter (fun p=>inB p.k fr up)=[]:=List.filter_eq_nil_iff.2 (fun p hp hh=>by
    have h1:=hpA p hp;have h2:=Ay.1 hh;rw[h1]at h2;cases h2.1)
   rw[this,List.nil_append]
  ·have hA0:A.length=0:=by rw[hA,f1];exact OF hfo.1
   have hA':A=[]:=List.length_eq_zero_iff.1 hA0;have hB':ts=B:=by rw[e,hA'];rfl
   have hMg:M.pages=L.pages++[z]:=by
    rw[hM];show ({ L with k:=L.k+1 }.meet z).pages=_;unfold Lo.meet;have:=hc z;rw[List.count_append,List.count_cons]at this;simp only[beq_self_eq_true,if_pos]at this;have:L.pages.contains z=false:=by
     cases e:L.pages.contains z with
     | false=>rfl
     | true=>have:=Ae.1 (List.contains_iff_mem.1 e);omega
    rw[if_neg (by show ¬(L.pages.contains z=true);rw[this];simp)]
   rw[r4 f1 f2 (fun x=>by
    have:=hc x;rw[hMg,<-hB'];simp only[List.count_append,List.count_cons,List.count_nil]at this |-;omega),hMg,<-hB']
   simp
def SnL(pgs:List Int)(D:Int)(L:Lo):Bool × Lo:=(true,{ L with k:=L.k+pgs.length,pages:=L.pages++pgs,depth:=D })
theorem Gt{d:Nat}(D:Int)(fr up:ByteArray)(rec:Int->ByteArray->ByteArray->Lo->Bool × Lo)(all:List ByteArray):∀(B:List (Int × Fo d)) (ks:List ByteArray) (i:Nat) (lo:ByteArray) (L:Lo),AD (tOk d) ks B lo up->ks=all.drop i->i<=all.length->lo=(if 0<i then all.getD (i - 1) ⟨#[]⟩ else fr)->(∀t∈B,∀(a b:ByteArray) (M:Lo),tOk d t a b->M.k+(tpg d t).length<=1000->(∀x,(M.pages++tpg d t).count x<=1)->(M.depth=0\/M.depth=D)->rec t.1 a b M=SnL (tpg d t) D M)->L.k+(B.flatMap (tpg d)).length<=1000->(∀x,(L.pages++B.flatMap (tpg d)).count x<=1)->(L.depth=0\/L.depth=D) ->
  Bx rec all fr up (B.map Prod.fst) i L=SnL (B.flatMap (tpg d)) D L
 | [],ks,i,lo,L,h,_,_,_,_,_,_,_=>by cases ks<;>exact h.elim
 | t::B,ks,i,lo,L,h,hall,hi,hlo,hrec,hL,hc,hD=>by
  have elen:((t::B).flatMap (tpg d)).length=(tpg d t).length+(B.flatMap (tpg d)).length:=by rw[List.flatMap_cons,List.length_append]
  have ecnt:∀x,(L.pages++tpg d t++B.flatMap (tpg d)).count x<=1:=fun x=>by have:=hc x;rw[List.flatMap_cons,<-List.append_assoc]at this;exact this
  rw[elen]at hL
  rw[List.map_cons]
  unfold Bx
  rw[<-hlo]
  cases B with
  | nil =>
   cases ks with
   | cons k ks=>cases ks<;>exact h.2.elim
   | nil =>
    have hil:¬i<all.length:=fun hh=>by
     have:=congrArg List.length hall
     rw[List.length_drop]at this
     simp at this
     omega
    rw[if_neg hil]
    have hr:=hrec t List.mem_cons_self lo up L h (by omega) (fun x=>by have:=ecnt x;rw[List.count_append]at this;omega) hD
    rw[hr]
    simp[SnL,Bx]
  | cons s B =>
   cases ks with
   | nil=>exact h.elim
   | cons k ks =>
    have hil:i<all.length:=by
     have:=congrArg List.length hall;rw[List.length_drop,List.length_cons]at this;omega
    have hdrop:ks=all.drop (i+1):=by
     have:=congrArg List.tail hall;rw[List.tail_drop]at this;exact this
    have hk0:all.getD i ⟨#[]⟩=k:=by
     have:=congrArg List.head? hall;rw[List.head?_drop]at this;rw[List.getD_eq_getElem?_getD,<-this];rfl
    rw[if_pos hil,hk0];have hr:=hrec t List.mem_cons_self lo k L h.1 (by omega) (fun x=>by have:=ecnt x;rw[List.count_append]at this;omega) hD;rw[hr];show (if true=true then Bx rec all fr up ((s::B).map Prod.fst) (i+1) { L with k:=L.k+(tpg d t).length,pages:=L.pages++tpg d t,depth:=D } else _)=_
    rw[if_pos rfl,Gt D fr up rec all (s::B) ks (i+1) k _ h.2 hdrop (by omega) (by rw[if_pos (by omega),Nat.add_sub_cancel,hk0]) (fun t' ht'=>hrec t' (List.mem_cons_of_mem _ ht')) (by show L.k+(tpg d t).length+_<=1000;omega) ecnt (.inr rfl)];unfold SnL;rw[elen];simp only[List.flatMap_cons (x:=t),List.append_assoc,Nat.add_assoc]
theorem MA{ps:List Pr}{lo hi:ByteArray}(h:Bw ps lo hi)(hne:ps≠[])(D:Int):leafB ps D D lo hi=true:=by
 unfold leafB;cases ps with
 | nil=>exact absurd rfl hne
 | cons p ps =>
  have h1:=(h.1 p List.mem_cons_self).2.2;have h2:=(h.1 _ (List.getLast_mem hne)).2.2;rw[List.head?_cons,List.getLast?_eq_some_getLast hne];simp[h1,h2]
theorem Iv{S:Sw}(D:Int)(hD0:D≠0):∀(d:Nat) (t:Int × Fo d) (lo hi:ByteArray),tOk d t lo hi->tIn (vS S) d t->∀(f:Nat) (lv:Int) (L:Lo),d<f->lv+d=D->D<=40->L.k+(tpg d t).length<=1000->(∀x,(L.pages++tpg d t).count x<=1)->(L.depth=0\/L.depth=D)->AI S f t.1 lv lo hi L=SnL (tpg d t) D L
 | 0,t,lo,hi,ht,hin,f,lv,L,hf,hlv,hD,hk,hc,hdep=>by
  obtain⟨f,rfl⟩:∃g,f=g+1:=⟨f - 1,by omega⟩
  have hl:(tpg 0 t).length=1:=rfl
  obtain⟨e1,e2⟩:=El hin.1 (k:=L.k) (lv:=lv) (by omega) (by omega)
  have hcz:=hc t.1
  have hct:(tpg 0 t).count t.1=1:=by simp[tpg,fpgs]
  rw[List.count_append]at hcz
  have hno:L.pages.contains t.1=false:=by
   cases e:L.pages.contains t.1 with
   | false=>rfl
   | true=>have:=Ae.1 (List.contains_iff_mem.1 e);omega
  have hlv':lv=D:=by omega
  have hdd:(if L.depth=0 then lv else L.depth)=D:=by rcases hdep with e|e<;>rw[e];(rw[if_pos rfl];exact hlv');rw[if_neg hD0]
  unfold AI;rw[if_pos e1,hno,e2];simp only[Bool.false_eq_true,if_false];rw[if_pos (show (fnd 0 t.2).leaf=true from rfl),hdd,hlv'];show (leafB t.2 D D lo hi,_)=_;rw[MA ht.2.2.2 ht.2.1];rfl
 | d+1,t,lo,hi,ht,hin,f,lv,L,hf,hlv,hD,hk,hc,hdep=>by
  obtain⟨f,rfl⟩:∃g,f=g+1:=⟨f - 1,by omega⟩;obtain⟨z,ks,ts⟩:=t;have hfo:fOk (d+1) (ks,ts) lo hi:=ht.2.2.2;have hl:(tpg (d+1) (z,(ks,ts))).length=1+(ts.flatMap (tpg d)).length:=by show (z::ts.flatMap (tpg d)).length=_;rw[List.length_cons,Nat.add_comm]
  have htp:tpg (d+1) (z,(ks,ts))=[z]++ts.flatMap (tpg d):=rfl;rw[hl]at hk;obtain⟨e1,e2⟩:=El hin.1 (k:=L.k) (lv:=lv) (by omega) (by omega);have hcz:=hc z;rw[htp,List.count_append,List.count_append]at hcz;have hz1:([z]:List Int).count z=1:=by simp
  have hno:L.pages.contains z=false:=by
   cases e:L.pages.contains z with
   | false=>rfl
   | true=>have:=Ae.1 (List.contains_iff_mem.1 e);omega
  unfold AI;rw[if_pos e1,hno,e2];simp only[Bool.false_eq_true,if_false];rw[if_neg (show ¬((fnd (d+1) (z,ks,ts).2).leaf=true) from by show ¬(false=true);simp),if_neg (show ¬((fnd (d+1) (z,ks,ts).2).ks.length=0) from fun e=>ht.2.1 (List.length_eq_zero_iff.1 e))];show Bx (fun x a b M=>AI S f x (lv+1) a b M) ks lo hi (ts.map Prod.fst) 0 { L with k:=L.k+1,pages:=L.pages++[z] }=_
  rw[Gt D lo hi (fun x a b M=>AI S f x (lv+1) a b M) ks ts ks 0 lo { L with k:=L.k+1,pages:=L.pages++[z] } hfo.2 rfl (by omega) (by simp) (fun s hs a b M hab hM hMc hMd=>Iv D hD0 d s a b hab (hin.2 s hs) f (lv+1) M (by omega) (by omega) hD hM hMc hMd) (by show L.k+1+_<=1000;omega) (fun x=>by
   have:=hc x;rw[htp,<-List.append_assoc]at this;exact this) hdep]
  unfold SnL;rw[hl,htp];simp only[List.append_assoc,Nat.add_assoc]
theorem Gl{S:Sw}{n:Nat}{U:Nat->Bool}(hS:Tk S n U){z:Int}{prs:List Pr}{pgs:List Int}(hH:Hold S z prs pgs)(ho:OgOk n U pgs)(fr up:ByteArray):OvL fr up pgs prs ⟨0,[],[],0⟩ (over S z fr up):=by
 unfold over;rcases hH with ⟨h1,h2,h3⟩|⟨d,f,h1,h2,h3,h4⟩
 ·rw[if_pos h1,h2,h3];exact⟨rfl,rfl,Nat.le_refl _,fun _ _ _=>rfl⟩
 ·subst h4;have hd:=C9 h1 ho hS.l0 hS.l1;have hz0:z≠0:=fun e=>by have:=h1.1.1;simp only[e]at this;omega
  rw[if_neg hz0,<-h3];exact KY fr up d (z,f) eB eB h1 h2 41 1 ⟨0,[],[],0⟩ (by omega) (by omega) (by show 0+_<=1000;omega)
theorem Md{S:Sw}{n:Nat}{U:Nat->Bool}(hS:Tk S n U){z:Int}{prs:List Pr}{pgs:List Int}(hH:Hold S z prs pgs)(ho:OgOk n U pgs)(fr up:ByteArray):scanE S z fr up=0/\scanL S z fr up=prs.filter (fun p=>inB p.k fr up):=by
 obtain⟨h1,h2,_,_⟩:=Gl hS hH ho fr up;have e:scanE S z fr up=0:=h1;refine⟨e,?_⟩;unfold scanL;rw[if_pos e,h2];rfl
theorem LY{S:Sw}{n:Nat}{U:Nat->Bool}(hS:Tk S n U){z:Int}{prs:List Pr}{pgs:List Int}(hH:Hold S z prs pgs)(ho:OgOk n U pgs):dropE S z=0/\Tk (dropT S z) n (fun i=>U i&&!pgs.contains (i:Int))/\S.From (dropT S z)/\∀i,0<i->(dropT S z).now.getD i ⟨#[]⟩=S.now.getD i ⟨#[]⟩:=by
 obtain⟨h1,_,_,h4⟩:=Gl hS hH ho eB eB;have e:dropE S z=0:=h1;have hp:=h4 rfl rfl (fun x=>by show (([]:List Int)++pgs).count x<=1;exact ho.1 x);have hp':(over S z ⟨#[]⟩ ⟨#[]⟩).2.pages=pgs:=hp;refine⟨e,?_⟩;unfold dropT;rw[if_pos e,hp'];exact D4 pgs S U hS (List.nodup_iff_count.2 ho.1) ho.2
theorem J6{S:Sw}{n:Nat}{U:Nat->Bool}(hS:Tk S n U){z:Int}{prs:List Pr}{pgs:List Int}(hH:Hold S z prs pgs)(ho:OgOk n U pgs):∃D:Nat,CC S z=((pgs.length:Int),(D:Int),true)/\((D=0/\prs=[])\/(0<D/\D<=7/\prs≠[]/\2 ^ (D - 1)<=prs.length/\pgs.length+1<=2*prs.length)):=by
 rcases hH with ⟨h1,h2,h3⟩|⟨d,f,h1,h2,h3,h4⟩
 ·refine⟨0,?_,.inl ⟨rfl,h2⟩⟩;rw[h3,h1];rfl
 ·subst h4;have hd:=C9 h1 ho hS.l0 hS.l1;have hdp:=deep d (z,f) eB eB h1;have hz0:z≠0:=fun e=>by have:=h1.1.1;simp only[e]at this;omega
  have hs:=Iv ((d+1:Nat):Int) (by omega) d (z,f) eB eB h1 h2 41 1 ⟨0,[],[],0⟩ (by omega) (by omega) (by omega) (by show 0+_<=1000;omega) (fun x=>by show (([]:List Int)++tpg d (z,f)).count x<=1;exact ho.1 x) (.inl rfl);have hs':sound S z=SnL (tpg d (z,f)) ((d+1:Nat):Int) ⟨0,[],[],0⟩:=by unfold sound;rw[if_neg hz0];exact hs
  have hpl:0<prs.length:=by rw[<-h3];have:=hdp.1;have:0<2 ^ d:=Nat.pow_pos (by omega);show 0<(fprs d (z,f).2).length;omega
  refine⟨d+1,?_,.inr ⟨by omega,by omega,List.length_pos_iff.1 hpl,by rw[Nat.add_sub_cancel,<-h3];exact hdp.1,by rw[<-h3];exact hdp.2.1⟩⟩;unfold CC;rw[hs'];show (if true=true then _ else _)=_;rw[if_pos rfl];show (((([]:List Int)++tpg d (z,f)).length:Int),_,_)=_;rfl
def okZ(z:Int):Prop:=-9223372036854775808<=z/\z<9223372036854775808
structure Kn (S T:Sw):Prop where
 nt:T.notes=S.notes
 bs:T.base=S.base
 ov:T.over=S.over
 ln:T.now.length=S.now.length
theorem Kn.refl(S:Sw):Kn S S:=⟨rfl,rfl,rfl,rfl⟩
theorem Kn.trans{S T R:Sw}(h:Kn S T)(h':Kn T R):Kn S R:=⟨h'.nt.trans h.nt,h'.bs.trans h.bs,h'.ov.trans h.ov,h'.ln.trans h.ln⟩
theorem MR(S:Sw)(z:Int)(x:ByteArray):Kn S (S.write z x):=by
 unfold Sw.write;split
 ·exact⟨rfl,rfl,rfl,by simp⟩
 ·exact .refl _
theorem OA(S:Sw)(Z:ByteArray):Kn S (S.take Z):=by
 unfold Sw.take;split
 ·exact .refl _
 ·split
  ·exact⟨rfl,rfl,rfl,by simp[turnL]⟩
  ·exact .refl _
theorem Pd(S:Sw)(z:Int):Kn S (S.drop z):=by
 unfold Sw.drop;split
 ·exact⟨rfl,rfl,rfl,by simp[turnL]⟩
 ·exact .refl _
theorem Fh:∀(l:List Int) (S:Sw),Kn S (dropL S l)
 | [],S=>.refl _
 | z::l,S=>(Pd S z).trans (Fh l (S.drop z))
theorem Gn:∀(l:List (Int × Nd)) (S:Sw),Kn S (AT S l)
 | [],S=>.refl _
 | p::l,S=>(MR S p.1 p.2.write).trans (Gn l (S.write p.1 p.2.write))
structure Inv (I:Cg->Prop):Prop where
 same:∀C C':Cg,I C->C'.S=C.S->C'.tk=C.tk->I C'
 take:∀C:Cg,I C->I C.take
theorem Inv.split{I:Cg->Prop}(h:Inv I){C:Cg}(hC:I C)(z:Int)(n:Nd):I (C.split z n):=by
 unfold Cg.split;split
 ·exact h.same _ _ (h.take C hC) rfl rfl
 ·exact h.take C hC
theorem Inv.raise{I:Cg->Prop}(h:Inv I){C:Cg}(hC:I C)(z:Int)(n:Nd):I (C.raise z n):=by
 unfold Cg.raise;split
 ·split
  ·exact h.same _ _ (h.split (h.take C hC) z n) rfl rfl
  ·exact h.split (h.take C hC) z n
 ·exact h.take C hC
theorem Inv.root{I:Cg->Prop}(h:Inv I){C:Cg}(hC:I C)(z:Int)(n:Nd):I (C.root z n):=by
 unfold Cg.root;split
 ·exact h.same _ _ hC rfl rfl
 ·split
  ·exact h.same _ _ hC rfl rfl
  ·split
   ·exact h.raise hC z n
   ·exact h.same _ _ hC rfl rfl
theorem Inv.gathF{I:Cg->Prop}(h:Inv I){C:Cg}(hC:I C)(z:Int)(n nab:Nd)(g:Option (Nat × Nd)):I (C.gathF z n nab g).C:=by
 cases g with
 | none=>exact h.same _ _ hC rfl rfl
 | some g =>
  show I (if n.kd.length=1 then (⟨(C.write (nab.kd.getD g.1 0) g.2.fst).write (nab.kd.getD (g.1+1) 0) g.2.snd,{ nab with ks:=nab.ks.set g.1 g.2.mid },true,0⟩:Gr) else ⟨C.write z n,nab,false,0⟩).C;split
  ·exact h.same _ _ hC rfl rfl
  ·exact h.same _ _ hC rfl rfl
theorem Inv.gathG{I:Cg->Prop}(h:Inv I)(z:Int)(n nab:Nd)(kid:Nat):∀(l:List Nat) (g:Option (Nat × Nd)) (C:Cg),I C->I (gathG z n nab kid l g C).C
 | [],g,C,hC=>h.gathF hC z n nab g
 | bt::r,g,C,hC=>by
  rw[Go.Proofs.YtjojffepakclcaaGreatDoor.gathG]
  split
  ·split
   ·split
    ·exact h.same _ _ hC rfl rfl
    ·exact h.gathG z n nab kid r _ _ (h.same _ _ hC rfl rfl)
   ·exact h.gathG z n nab kid r _ _ (h.same _ _ hC rfl rfl)
  ·exact h.same _ _ hC rfl rfl
theorem Inv.below{I:Cg->Prop}(h:Inv I){C:Cg}(hC:I C)(s:Sp)(kid:Nat)(nab:Nd):I (C.below s kid nab).C:=by
 unfold Cg.below;split
 ·exact h.same _ _ hC rfl rfl
 ·split
  ·exact h.split hC _ _
  ·split
   ·exact h.gathG _ _ _ _ _ _ _ hC
   ·exact h.same _ _ hC rfl rfl
theorem Inv.down{I:Cg->Prop}(h:Inv I){C:Cg}(hC:I C):∀(l:List Sp) (a:Sp),I (C.down a l).C
 | [],a=>hC
 | b::l,a=>by
  have ih:=h.down hC l b
  rw[Cg.down]
  split
  ·split
   ·exact h.below ih _ _ _
   ·exact ih
  ·exact ih
theorem Inv.settle{I:Cg->Prop}(h:Inv I){C:Cg}(hC:I C):∀l:List Sp,I (C.settle l).1
 | []=>hC
 | a::l=>by
  have ih:=h.down hC l a
  show I (if (C.down a l).e=0 then (if (C.down a l).go then ((C.down a l).C.root a.page (C.down a l).ab,(C.down a l).C.rootZ a.page (C.down a l).ab) else ((C.down a l).C,a.page,0)) else ((C.down a l).C,0,(C.down a l).e)).1
  split
  ·split
   ·exact h.root ih _ _
   ·exact ih
  ·exact ih
theorem N9(S:Sw):Inv (fun C=>Kn S C.S):=⟨fun C C' h e _=>by rw[e];exact h,fun C h=>by
 unfold Cg.take
 split
 ·exact h.trans (OA _ _)
 ·exact h⟩
theorem Ku(C:Cg)(way:List Sp):Kn C.S (C.putS way):=by
 have h:=(N9 C.S).settle (.refl _) way;unfold Cg.putS;split
 ·unfold Cg.commitS;split
  ·exact(h.trans (Gn _ _)).trans (Fh _ _)
  ·exact h
 ·exact h.trans (Fh _ _)
theorem Kq(S:Sw)(z:Int)(key:ByteArray):Kn S ((cg0 S).leaf z key).S:=by
 unfold Cg.leaf;split
 ·exact(N9 S).take _ (.refl _)
 ·exact .refl _
theorem J0(S:Sw)(z:Int)(key val:ByteArray):Kn S (putTS S z key val):=by
 unfold putTS;split
 ·exact .refl _
 ·split
  ·exact(Kq S z key).trans (Ku _ _)
  ·exact Kq S z key
theorem JH(S:Sw)(z:Int)(key:ByteArray):Kn S (delTS S z key):=by
 unfold delTS;split
 ·exact Ku (delC S z key) _
 ·exact .refl _
structure Tre (S:Sw) (n:Nat) (X:List Int) (z:Int) (prs:List Pr) (pgs:List Int):Prop where
 ho:Hold S z prs pgs
 u:∃U,Tk S n U/\OgOk n U pgs/\OgOk n U X/\∀i:Nat,0<i->i<n->U i=true->(i:Int)∈pgs\/(i:Int)∈X
 ap:∀x∈X,x ∉ pgs
 nt:S.notes=[]
theorem DM{S:Sw}{n:Nat}{U:Nat->Bool}{X:List Int}{z:Int}{prs:List Pr}{pgs:List Int}(h:Tre S n X z prs pgs)(hT:Tk S n U)(hX:OgOk n U X)(hu:∀i:Nat,0<i->i<n->U i=true->(i:Int)∈pgs\/(i:Int)∈X){S':Sw}{z':Int}{prs':List Pr}{U':Nat->Bool}{pgs':List Int}(hL:Left S n U pgs S' z' prs' U' pgs')(hn:Kn S S') :
  Tre S' n X z' prs' pgs'/\∀y∈X,vS S' y=vS S y:=by
 have hx:∀x∈X,0<x.toNat/\x.toNat<n/\U x.toNat=true/\((x.toNat:Nat):Int)=x:=fun x hx=>by
  have:=hX.2 x hx;exact⟨by omega,by omega,this.2.2,by omega⟩
 have hxu:∀x∈X,U' x.toNat=true:=fun x hm=>by
  obtain⟨a,b,c,d⟩:=hx x hm;exact(hL.us _ a b).2 (.inl ⟨c,by rw[d];exact h.ap x hm⟩)
 refine⟨⟨hL.ho,⟨U',hL.tk,hL.og,⟨hX.1,fun y hy=>⟨(hX.2 y hy).1,(hX.2 y hy).2.1,hxu y hy⟩⟩,fun i hi hin hu'=>?_⟩,fun x hm=>?_,by rw[hn.nt,h.nt]⟩,fun y hy=>?_⟩
 ·rcases (hL.us i hi hin).1 hu' with ⟨e1,e2⟩|e
  ·rcases hu i hi hin e1 with e|e
   ·exact absurd e e2
   ·exact .inr e
  ·exact .inl e
 ·obtain⟨a,b,c,d⟩:=hx x hm;have:=hL.nw _ a b c (by rw[d];exact h.ap x hm);rwa [d]at this
 ·obtain⟨a,b,c,d⟩:=hx y hy;refine CB ?_;have h1:=(hX.2 y hy).1;have h2:=(hX.2 y hy).2.1;rw[hL.tk.read h1 h2 (hxu y hy),hT.read h1 h2 c,hL.rd _ a b c (by rw[d];exact h.ap y hy)]
theorem Hw{S:Sw}{n:Nat}{X:List Int}{z:Int}{prs:List Pr}{pgs:List Int}(h:Tre S n X z prs pgs)(key val:ByteArray)(hk:okKey key=true)(hv:val.size<=40) :
  (∀y∈X,vS (putTS S z key val) y=vS S y)/\((putTE S z key val=0/\∃pgs',Tre (putTS S z key val) n X (putTZ S z key val) (putL prs key val) pgs')\/(putTE S z key val=8/\putTZ S z key val=z/\Tre (putTS S z key val) n X z prs pgs)):=by
 obtain⟨U,hT,hO,hX,hu⟩:=h.u;rcases PC hT h.ho hO key val hk hv with ⟨e,U',pgs',hL⟩|⟨e,ez,hL⟩
 ·obtain⟨a,b⟩:=DM h hT hX hu hL (J0 S z key val);exact⟨b,.inl ⟨e,pgs',a⟩⟩
 ·obtain⟨a,b⟩:=DM h hT hX hu hL (J0 S z key val);exact⟨b,.inr ⟨e,ez,a⟩⟩
theorem H9{S:Sw}{n:Nat}{X:List Int}{z:Int}{prs:List Pr}{pgs:List Int}(h:Tre S n X z prs pgs)(key:ByteArray) :
  (∀y∈X,vS (delTS S z key) y=vS S y)/\((delTE S z key=0/\delTB S z key=hasN prs key/\∃pgs',Tre (delTS S z key) n X (delTZ S z key) (if hasN prs key then cutP prs key else prs) pgs')\/(delTE S z key=8/\delTB S z key=false/\delTZ S z key=z/\Tre (delTS S z key) n X z prs pgs)):=by
 obtain⟨U,hT,hO,hX,hu⟩:=h.u;rcases Px hT h.ho hO key with ⟨e,eb,U',pgs',hL⟩|⟨e,eb,ez,hL⟩
 ·obtain⟨a,b⟩:=DM h hT hX hu hL (JH S z key);exact⟨b,.inl ⟨e,eb,pgs',a⟩⟩
 ·obtain⟨a,b⟩:=DM h hT hX hu hL (JH S z key);exact⟨b,.inr ⟨e,eb,ez,a⟩⟩
theorem LJ{S S':Sw}{n:Nat}{z z':Int}{prs prs':List Pr}{pgs pgs':List Int}{y:Int}{qrs:List Pr}{qgs:List Int}(h:Tre S n pgs y qrs qgs)(h':Tre S' n qgs z' prs' pgs')(hv:∀x∈qgs,vS S' x=vS S x):Tre S' n pgs' y qrs qgs:=by
 obtain⟨U,hT,hO,hX,hu⟩:=h'.u;exact⟨E7 h.ho hv,⟨U,hT,hX,hO,fun i hi hin e=>(hu i hi hin e).symm⟩,fun x hx hm=>h'.ap x hm hx,h'.nt⟩
theorem FA{S:Sw}{n:Nat}{U:Nat->Bool}(hT:Tk S n U):S.usedN=1+((List.range (n - 1)).filter (fun i=>U (i+1))).length:=by
 unfold Sw.usedN;rw[hT.ov,hT.len];simp only[Bool.false_eq_true,if_false];obtain⟨m,rfl⟩:∃m,n=m+1:=⟨n - 1,by have:=hT.l0;omega⟩;rw[List.range_succ_eq_map,List.filter_cons];have e0:isU S.now 0=true:=rfl;rw[e0,if_pos rfl,List.length_cons,List.filter_map,List.length_map,Nat.add_sub_cancel,Nat.add_comm];congr 2;refine List.filter_congr (fun i hi=>?_);have:=List.mem_range.1 hi;exact hT.us (i+1) (by omega) (by omega)
theorem Ov{n:Nat}{U:Nat->Bool}{l:List Int}(hl:OgOk n U l)(hu:∀i:Nat,0<i->i<n->U i=true->(i:Int)∈l):((List.range (n - 1)).filter (fun i=>U (i+1))).length=l.length:=by
 have hnd:l.Nodup:=List.nodup_iff_count.2 hl.1;have hp:(((List.range (n - 1)).filter (fun i=>U (i+1))).map (fun i=>((i+1:Nat):Int))).Perm l:=by
  refine(List.perm_ext_iff_of_nodup ?_ hnd).2 (fun x=>?_)
  ·refine List.Pairwise.map _ (fun a b hab=>?_) (List.nodup_range.sublist List.filter_sublist);intro e;exact hab (by omega)
  ·constructor
   ·intro hx;obtain⟨i,hi,rfl⟩:=List.mem_map.1 hx;obtain⟨h1,h2⟩:=List.mem_filter.1 hi;have:=List.mem_range.1 h1;exact hu (i+1) (by omega) (by omega) h2
   ·intro hx;obtain⟨h1,h2,h3⟩:=hl.2 x hx;refine List.mem_map.2 ⟨x.toNat - 1,List.mem_filter.2 ⟨List.mem_range.2 (by omega),?_⟩,by omega⟩;rw[show x.toNat - 1+1=x.toNat by omega];exact h3
 have:=hp.length_eq;rwa [List.length_map]at this
theorem CQ{S:Sw}{n:Nat}{X:List Int}{z:Int}{prs:List Pr}{pgs:List Int}(h:Tre S n X z prs pgs):S.usedN=1+(pgs.length+X.length):=by
 obtain⟨U,hT,hO,hX,hu⟩:=h.u;rw[FA hT,Ov (l:=pgs++X) ⟨fun x=>?_,fun x hx=>?_⟩ (fun i hi hin e=>List.mem_append.2 (hu i hi hin e)),List.length_append]
 ·rw[List.count_append];have h1:=hO.1 x;have h2:=hX.1 x;rcases Nat.eq_zero_or_pos (X.count x)with e|e
  ·omega
  ·have:=h.ap x (Ae.2 e);have h3:pgs.count x=0:=by
    rcases Nat.eq_zero_or_pos (pgs.count x)with e|e
    ·exact e
    ·exact absurd (Ae.2 e) this
   omega
 ·rcases List.mem_append.1 hx with e|e
  ·exact hO.2 x e
  ·exact hX.2 x e
theorem KW{S:Sw}{n:Nat}{X:List Int}{z:Int}{prs:List Pr}{pgs:List Int}(h:Tre S n X z prs pgs)(key:ByteArray):getT S z key=if hasN prs key then (getL prs key,true,0) else (⟨#[]⟩,false,0):=by
 obtain⟨U,hT,hO,hX,hu⟩:=h.u;exact Pv hT h.ho hO key
theorem Ng{S:Sw}{n:Nat}{X:List Int}{z:Int}{prs:List Pr}{pgs:List Int}(h:Tre S n X z prs pgs)(fr up:ByteArray):scanE S z fr up=0/\scanL S z fr up=prs.filter (fun p=>inB p.k fr up):=by
 obtain⟨U,hT,hO,hX,hu⟩:=h.u;exact Md hT h.ho hO fr up
theorem Cj{S:Sw}{n:Nat}{X:List Int}{z:Int}{prs:List Pr}{pgs:List Int}(h:Tre S n X z prs pgs):∃D:Nat,CC S z=((pgs.length:Int),(D:Int),true)/\((D=0/\prs=[])\/(0<D/\D<=7/\prs≠[]/\2 ^ (D - 1)<=prs.length/\pgs.length+1<=2*prs.length)):=by
 obtain⟨U,hT,hO,hX,hu⟩:=h.u;exact J6 hT h.ho hO
theorem Nj{S:Sw}{n:Nat}{z:Int}{prs:List Pr}{pgs:List Int}(h:Tre S n [] z prs pgs):dropE S z=0/\(dropT S z).usedN=1:=by
 obtain⟨U,hT,hO,hX,hu⟩:=h.u;obtain⟨a,b,_,_⟩:=LY hT h.ho hO;refine⟨a,?_⟩;rw[FA b];have:(List.range (n - 1)).filter (fun i=>U (i+1)&&!pgs.contains ((i+1:Nat):Int))=[]:=by
  rw[List.filter_eq_nil_iff];intro i hi;have:=List.mem_range.1 hi;cases hU:U (i+1) with
  | false=>simp
  | true =>
   have:=hu (i+1) (by omega) (by omega) hU;simp only[List.not_mem_nil,or_false]at this;rw[List.contains_iff_mem.2 this];simp
 rw[this];rfl
end Go.Proofs.YtjojffepakclcaaGreatDoor
