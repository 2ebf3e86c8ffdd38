/- Part of the proof: contracts over the turned program. -/
import Derived.Test.YtgcgacjhkhjhmaaGreatDoorX21
set_option linter.unusedVariables false
set_option maxHeartbeats 4000000
open Go.Proofs.Tryz
namespace Go.Proofs.YtgcgacjhkhjhmaaGreatDoor
theorem Ix:∀(n:Nat) (l:List Int),(∀x,l.count x<=1)->(∀z∈l,0<z/\z<=(n:Int))->l.length<=n
 | 0,l,_,h=>by
  cases l with
  | nil=>simp
  | cons z l=>have:=h z List.mem_cons_self;omega
 | n+1,l,hc,h=>by
  have h1:=Ix n (l.filter (fun x=>x != ((n+1:Nat):Int))) (fun x=>Nat.le_trans (List.Sublist.count_le x List.filter_sublist) (hc x)) (fun z hz=>by
   obtain⟨h2,h3⟩:=List.mem_filter.1 hz
   have h4:z≠((n+1:Nat):Int):=by simpa using h3
   have:=h z h2
   omega)
  have h2:l.length=(l.filter (fun x=>x != ((n+1:Nat):Int))).length+l.count ((n+1:Nat):Int):=by
   have e:=List.length_eq_countP_add_countP (fun x=>x != ((n+1:Nat):Int)) (l:=l);rw[List.countP_eq_length_filter]at e;rw[e];congr 1;unfold List.count;congr 1;funext x;cases hx:(x==((n+1:Nat):Int))<;>simp only[bne,hx]<;>rfl
  have:=hc ((n+1:Nat):Int);omega
theorem OgOk.few{n:Nat}{U:Nat->Bool}{og:List Int}(h:OgOk n U og)(hn:0<n):og.length<=n - 1:=Ix (n - 1) og h.1 (fun z hz=>by have:=h.2 z hz;omega)
theorem FQ{α:Type}(f:α->Nat)(M:Nat):∀(l:List α),(∀x∈l,M<=f x)->M*l.length<=(l.map f).sum
 | [],_=>by simp
 | x::l,h=>by
  have:=FQ f M l (fun y hy=>h y (List.mem_cons_of_mem _ hy))
  have h0:=h x List.mem_cons_self
  simp only[List.map_cons,List.sum_cons,List.length_cons]
  rw[Nat.mul_add]
  omega
theorem Jl{α:Type}(f g:α->Nat):∀(l:List α),(∀x∈l,f x+1<=2*g x)->(l.map f).sum+l.length<=2*(l.map g).sum
 | [],_=>by simp
 | x::l,h=>by
  have:=Jl f g l (fun y hy=>h y (List.mem_cons_of_mem _ hy))
  have h0:=h x List.mem_cons_self
  simp only[List.map_cons,List.sum_cons,List.length_cons]
  omega
theorem deep:∀(d:Nat) (t:Int × Fo d) (lo hi:ByteArray),tOk d t lo hi->2 ^ d<=(fprs d t.2).length/\(tpg d t).length+1<=2*(fprs d t.2).length/\2 ^ (d+1) - 1<=(tpg d t).length
 | 0,t,lo,hi,h=>by
  have h1:0<(fprs 0 t.2).length:=List.length_pos_iff.2 h.2.1
  have h2:(tpg 0 t).length=1:=rfl
  simp only[Nat.pow_zero,Nat.zero_add,Nat.pow_one]
  omega
 | d+1,t,lo,hi,h=>by
  have hall:=Fi (R:=fun (t:Int × Fo d)=>2 ^ d<=(fprs d t.2).length/\(tpg d t).length+1<=2*(fprs d t.2).length/\2 ^ (d+1) - 1<=(tpg d t).length) (fun t a b ht=>deep d t a b ht) _ _ _ _ h.2.2.2.2
  have hlen:=Bb _ _ _ _ h.2.2.2.2
  have hks:0<t.2.1.length:=List.length_pos_iff.2 h.2.1
  have e1:(fprs (d+1) t.2).length=(t.2.2.map (fun t=>(fprs d t.2).length)).sum:=List.length_flatMap
  have e2:(tpg (d+1) t).length=(t.2.2.map (fun t=>(tpg d t).length)).sum+1:=by
   show (t.1::t.2.2.flatMap (tpg d)).length=_;rw[List.length_cons,List.length_flatMap]
  have a1:=FQ (fun (t:Int × Fo d)=>(fprs d t.2).length) (2 ^ d) t.2.2 (fun x hx=>(hall x hx).1);have a2:=Jl (fun (t:Int × Fo d)=>(tpg d t).length) (fun t=>(fprs d t.2).length) t.2.2 (fun x hx=>(hall x hx).2.1);have a3:=FQ (fun (t:Int × Fo d)=>(tpg d t).length) (2 ^ (d+1) - 1) t.2.2 (fun x hx=>(hall x hx).2.2);have b1:2 ^ d*2<=2 ^ d*t.2.2.length:=Nat.mul_le_mul_left _ (by omega);have b3:(2 ^ (d+1) - 1)*2<=(2 ^ (d+1) - 1)*t.2.2.length:=Nat.mul_le_mul_left _ (by omega);rw[e1,e2]
  have p1:2 ^ (d+1)=2 ^ d*2:=Nat.pow_succ ..;have p2:2 ^ (d+1+1)=2 ^ (d+1)*2:=Nat.pow_succ ..;refine⟨by omega,by omega,by omega⟩
theorem DC{n:Nat}{U:Nat->Bool}{d:Nat}{t:Int × Fo d}{lo hi:ByteArray}(h:tOk d t lo hi)(ho:OgOk n U (tpg d t))(h0:0<n)(h1:n<=160):d<=6/\(tpg d t).length<=159:=by
 have h2:=ho.few h0;have h3:=(deep d t lo hi h).2.2;refine⟨?_,by omega⟩;rcases Nat.lt_or_ge d 7 with e|e
 ·omega
 ·have:2 ^ 8<=2 ^ (d+1):=Nat.pow_le_pow_right (by omega) (by omega);omega
theorem Ib{S:Sw}{z:Int}{x:Nd}(h:vS S z=some x){k:Nat}{lv:Int}(hl:lv<=40)(hk:k<1000):trE S k z lv=0/\ndOf S z=x:=by
 obtain⟨h1,h2⟩:=Ly h;refine⟨?_,h2⟩;unfold trE;rw[if_pos h1,if_neg (by omega)]
theorem PO(k:ByteArray):lessB k eB=false:=by
 unfold lessB eB;cases h:k.data.toList<;>rfl
theorem Cf(k:ByteArray):inB k eB eB=true:=AR.2 ⟨PO k,.inl rfl⟩
theorem JZ{d:Nat}{z:Int}{ks:List ByteArray}{ts:List (Int × Fo d)}{lo hi key:ByteArray}(hf:fOk (d+1) (ks,ts) lo hi)(hb:inB key lo hi=true):∃A s B,ts=A++[s]++B/\ts[An ks key]?=some s/\(ts.map Prod.fst).getD (An ks key) 0=s.1/\tOk d s (lowB ks lo A.length) (ks.getD A.length hi)/\inB key (lowB ks lo A.length) (ks.getD A.length hi)=true/\(∀p∈A.flatMap (fun t=>fprs d t.2),lessB p.k key=true)/\(∀p∈B.flatMap (fun t=>fprs d t.2),lessB key p.k=true):=by
 obtain⟨A,s,B,e,hA,hib,pA,pB⟩:=GX (fun (t:Int × Fo d)=>fprs d t.2) (fun t x y ht=>Dd d t x y ht) key ks ts lo hi hf.1 hf.2 hb;subst e;have hc:=(DK A [s] B ks lo hi (by simp) hf.2).1;have hs:tOk d s (lowB ks lo A.length) (ks.getD A.length hi):=by
  have e1:(ks.drop A.length).take ([s].length - 1)=[]:=by simp
  rw[e1,show A.length+[s].length - 1=A.length by simp]at hc;exact hc
 have eidx:(A++[s]++B)[An ks key]?=some s:=by
  rw[<-hA,List.append_assoc,List.getElem?_append_right (Nat.le_refl _),Nat.sub_self];rfl
 exact⟨A,s,B,rfl,eidx,by rw[List.getD_eq_getElem?_getD,List.getElem?_map,eidx];rfl,hs,hib,pA,pB⟩
theorem Li{g:Nd->Nd}{key:ByteArray}:∀(d:Nat) (t:Int × Fo d),pmod g d t key≠[]
 | 0,t=>by simp[pmod]
 | d+1,t=>by simp[pmod]
theorem Dy{S:Sw}{key:ByteArray}:∀(d:Nat) (t:Int × Fo d) (lo hi:ByteArray),tOk d t lo hi->tIn (vS S) d t->inB key lo hi=true->∀(f:Nat) (acc:List Sp) (k:Nat),d<f->acc.length+d<40->k+d<1000 ->
  wayG S key f acc t.1 k=(acc++pmod id d t key,0,k+d+1)
 | 0,t,lo,hi,ht,hin,hb,f,acc,k,hf,ha,hk=>by
  obtain⟨f,rfl⟩:∃g,f=g+1:=⟨f - 1,by omega⟩
  obtain⟨e1,e2⟩:=Ib hin.1 (k:=k) (lv:=acc.length+1) (by omega) (by omega)
  unfold wayG
  rw[if_pos e1,e2,if_pos (show (fnd 0 t.2).leaf=true from rfl)]
  rfl
 | d+1,t,lo,hi,ht,hin,hb,f,acc,k,hf,ha,hk=>by
  obtain⟨f,rfl⟩:∃g,f=g+1:=⟨f - 1,by omega⟩
  obtain⟨z,ks,ts⟩:=t
  obtain⟨e1,e2⟩:=Ib hin.1 (k:=k) (lv:=acc.length+1) (by omega) (by omega)
  obtain⟨A,s,B,e,hidx,hgd,hs,hib,_,_⟩:=JZ (z:=z) ht.2.2.2 hb
  unfold wayG
  rw[if_pos e1,e2,if_neg (by show ¬(false=true);simp)]
  show wayG S key f (acc++[⟨z,fnd (d+1) (ks,ts),An ks key,_⟩]) ((ts.map Prod.fst).getD (An ks key) 0) (k+1)=_
  rw[hgd,Dy d s _ _ hs (hin.2 s (by rw[e];simp)) hib f _ (k+1) (by omega) (by simp only[List.length_append,List.length_cons,List.length_nil];omega) (by omega)]
  show _=(acc++(_::(match ts[An ks key]? with|some s=>pmod id d s key|none=>[])),0,_)
  rw[hidx,List.append_assoc,show k+1+d+1=k+(d+1)+1 by omega]
  rfl
theorem H6(g:Nd->Nd)(a:Sp){l:List Sp}(h:l≠[]):setLast g (a::l)=a::setLast g l:=by
 cases l with
 | nil=>exact absurd rfl h
 | cons b l=>rfl
theorem J2(a:Sp){l:List Sp}(h:l≠[]):lastN (a::l)=lastN l:=by
 cases l with
 | nil=>exact absurd rfl h
 | cons b l=>unfold lastN;rw[List.getLast?_cons_cons]
theorem BH{key:ByteArray}(g:Nd->Nd):∀(d:Nat) (t:Int × Fo d) (lo hi:ByteArray),tOk d t lo hi->inB key lo hi=true->setLast g (pmod id d t key)=pmod g d t key
 | 0,t,lo,hi,_,_=>rfl
 | d+1,t,lo,hi,ht,hb=>by
  obtain⟨z,ks,ts⟩:=t
  obtain⟨A,s,B,e,hidx,hgd,hs,hib,_,_⟩:=JZ (z:=z) ht.2.2.2 hb
  show setLast g (_::(match ts[An ks key]? with|some s=>pmod id d s key|none=>[]))=_::(match ts[An ks key]? with|some s=>pmod g d s key|none=>[])
  rw[hidx,H6 g _ (Li d s),BH g d s _ _ hs hib]
theorem G3{key:ByteArray}:∀(d:Nat) (t:Int × Fo d) (lo hi:ByteArray),tOk d t lo hi->inB key lo hi=true->∃A ps B,fprs d t.2=A++ps++B/\(∀p∈A,lessB p.k key=true)/\(∀p∈B,lessB key p.k=true)/\lastN (pmod id d t key)=⟨true,ps,[],[]⟩
 | 0,t,lo,hi,_,_=>⟨[],t.2,[],by show t.2=[]++List.append (α:=Pr) t.2 [];exact(List.append_nil _).symm,(fun p hp=>by cases hp),(fun p hp=>by cases hp),rfl⟩
 | d+1,t,lo,hi,ht,hb=>by
  obtain⟨z,ks,ts⟩:=t
  obtain⟨A,s,B,e,hidx,hgd,hs,hib,pA,pB⟩:=JZ (z:=z) ht.2.2.2 hb
  obtain⟨A',ps,B',e',hA',hB',hl⟩:=G3 d s _ _ hs hib
  refine⟨A.flatMap (fun t=>fprs d t.2)++A',ps,B'++B.flatMap (fun t=>fprs d t.2),?_,fun p hp=>?_,fun p hp=>?_,?_⟩
  ·show ts.flatMap (fun t=>fprs d t.2)=_
   rw[e,List.flatMap_append,List.flatMap_append]
   have:([s]:List (Int × Fo d)).flatMap (fun t=>fprs d t.2)=fprs d s.2:=by simp
   rw[this,e']
   simp only[List.append_assoc]
  ·rcases List.mem_append.1 hp with e|e
   ·exact pA p e
   ·exact hA' p e
  ·rcases List.mem_append.1 hp with e|e
   ·exact hB' p e
   ·exact pB p e
  ·show lastN (_::(match ts[An ks key]? with|some s=>pmod id d s key|none=>[]))=_
   rw[hidx,J2 _ (Li d s)]
   exact hl
theorem JQ{S:Sw}{n:Nat}{U:Nat->Bool}(hS:Tk S n U){z:Int}{prs prs':List Pr}{pgs:List Int}(hH:Hold S z prs pgs)(ho:OgOk n U pgs)(C:Cg)(way:List Sp)(h:((C.settle way).2.2=8/\Ac S n U (C.settle way).1)\/((C.settle way).2.2=0/\RootR S n U pgs prs' (C.settle way).1 (C.settle way).2.1)) :
  (C.putE way=0/\∃U' pgs',Left S n U pgs (C.putS way) (C.putZ z way) prs' U' pgs')\/(C.putE way=8/\C.putZ z way=z/\Left S n U pgs (C.putS way) z prs U pgs):=by
 rcases h with ⟨h1,h2⟩|⟨h1,h2⟩
 ·right;have e:C.putE way=8:=by unfold Cg.putE;rw[if_neg (by rw[h1];decide),h1]
  obtain⟨b1,b2,b3⟩:=KN hS h2;refine⟨e,by unfold Cg.putZ;rw[if_neg (by rw[e];decide)],?_⟩;have es:C.putS way=dropL (C.settle way).1.S (C.settle way).1.tk:=by unfold Cg.putS;rw[if_neg (by rw[e];decide)]
  rw[es];exact CZ hS hH ho b1 b2 b3
 ·left;obtain⟨c1,U',pgs',c2⟩:=LI hS ho h2;have e:C.putE way=0:=by unfold Cg.putE;rw[if_pos h1,c1]
  refine⟨e,U',pgs',?_⟩;have es:C.putS way=(C.settle way).1.commitS:=by unfold Cg.putS;rw[if_pos e]
  have ez:C.putZ z way=(C.settle way).2.1:=by unfold Cg.putZ;rw[if_pos e]
  rw[es,ez];exact c2
theorem MY{S:Sw}{n:Nat}{U:Nat->Bool}(hS:Tk S n U){key:ByteArray}{g:Nd->Nd}{h:List Pr->List Pr}(L:Lf key g h){d:Nat}{z:Int}{f:Fo d}(ht:tOk d (z,f) eB eB)(hin:tIn (vS S) d (z,f))(ho:OgOk n U (z::fpgs d f))(k0:Nat)(hk:k0<900) :
  (((⟨S,k0,[],[],[]⟩:Cg).settle (pmod g d (z,f) key)).2.2=8/\Ac S n U ((⟨S,k0,[],[],[]⟩:Cg).settle (pmod g d (z,f) key)).1)\/(((⟨S,k0,[],[],[]⟩:Cg).settle (pmod g d (z,f) key)).2.2=0/\RootR S n U (z::fpgs d f) (h (fprs d f)) ((⟨S,k0,[],[],[]⟩:Cg).settle (pmod g d (z,f) key)).1 ((⟨S,k0,[],[],[]⟩:Cg).settle (pmod g d (z,f) key)).2.1):=by
 have hd:=DC ht ho hS.l0 hS.l1;obtain⟨a,l,e,hap,haw,hR⟩:=KU hS L k0 d (z,f) eB eB ht hin (Cf key) ho (by omega);rw[e];simp only[Cg.settle];obtain⟨R,hRe⟩:∃R,R=Cg.down ⟨S,k0,[],[],[]⟩ a l:=⟨_,rfl⟩;rw[<-hRe]at hR |-;have hzz:=ho.2 z List.mem_cons_self;rcases hR with ⟨h1,h2⟩|⟨h1,h2,f1,h3,h4,h5,h6⟩
 ·rw[if_neg (by rw[h1];decide)];exact .inl ⟨h1,h2⟩
 ·rw[if_pos h1];rcases h6 with ⟨g1,g2,g3,g4⟩|⟨g1,g2,g3,g4,g5⟩
  ·rw[if_pos g1,hap,g2];exact Lp hS (K:=0) ho R.C f1 ⟨hzz.1,hzz.2.1⟩ h3 h4 h5 g3 g4
  ·rw[if_neg (by rw[g1];simp),hap];exact .inr ⟨rfl,.inr ⟨d,f1,⟨ht.1,g3,g4,h3⟩,⟨g2,h4⟩,h5,g5⟩⟩
theorem Lf.put(key val:ByteArray)(hk:okKey key=true)(hv:val.size<=40):Lf key (fun n=>n.put key val) (fun l=>putL l key val):=⟨fun ps=>rfl,fun ps lo hi h hb=>J5 h hk hv hb,fun ps h=>(Mg ps h key val (AN hk).2 hv).1,fun A M B h1 h2=>Ob A M B key val h1 h2⟩
theorem Lf.cut(key:ByteArray):Lf key (fun n=>n.cut key) (fun l=>cutP l key):=⟨fun ps=>rfl,fun ps lo hi h hb=>J4 h,fun ps h=>by have:=LN ps key;omega,fun A M B h1 h2=>M6 A M B key h1 h2⟩
theorem PL{S:Sw}{n:Nat}{U:Nat->Bool}(hS:Tk S n U){z:Int}{prs:List Pr}{pgs:List Int}(hH:Hold S z prs pgs)(ho:OgOk n U pgs)(key:ByteArray):getT S z key=if hasN prs key then (getL prs key,true,0) else (⟨#[]⟩,false,0):=by
 rcases hH with ⟨h1,h2,h3⟩|⟨d,f,h1,h2,h3,h4⟩
 ·unfold getT;rw[if_pos h1,h2];rfl
 ·rw[h4]at ho;have hd:=DC h1 ho hS.l0 hS.l1;have hz0:z≠0:=fun e=>by have:=h1.1.1;simp only[e]at this;omega
  obtain⟨A,ps,B,e,hA,hB,hl⟩:=G3 d (z,f) eB eB h1 (Cf key);have hw:=Dy d (z,f) eB eB h1 h2 (Cf key) 41 [] 0 (by omega) (by simp;omega) (by omega);simp only[List.nil_append]at hw;have e':prs=A++ps++B:=by rw[<-h3];exact e
  unfold getT;rw[if_neg hz0,show wayG S key 41 [] z 0=_ from hw];simp only[if_true];rw[hl,e',Fb A ps B key hA hB];by_cases hh:hasN ps key=true
  ·rw[if_pos hh,if_pos hh,Nl A ps B key hA hB hh];rfl
  ·rw[if_neg hh,if_neg hh]
theorem PU{S:Sw}{n:Nat}{U:Nat->Bool}(hS:Tk S n U){z:Int}{prs:List Pr}{pgs:List Int}(hH:Hold S z prs pgs)(ho:OgOk n U pgs)(key val:ByteArray)(hk:okKey key=true)(hv:val.size<=40) :
  (putTE S z key val=0/\∃U' pgs',Left S n U pgs (putTS S z key val) (putTZ S z key val) (putL prs key val) U' pgs')\/(putTE S z key val=8/\putTZ S z key val=z/\Left S n U pgs (putTS S z key val) z prs U pgs):=by
 have hks:=AN hk;have hE:argE key val=false:=decide_eq_false (by omega);unfold putTE putTZ putTS;simp only[hE,Bool.false_eq_true,if_false];rcases hH with ⟨h1,h2,h3⟩|⟨d,f,h1,h2,h3,h4⟩
 ·subst h1 h2 h3;have hH0:Hold S 0 [] []:=.inl ⟨rfl,rfl,rfl⟩;have hc0:(cg0 S).leafE 0 key=S.takeE.2:=rfl;have hcW:(cg0 S).leafW 0 key=[⟨S.takeE.1,⟨true,[],[],[]⟩,0,0⟩]:=rfl;have hcC:(cg0 S).leaf 0 key=(cg0 S).take:=rfl;rw[hc0,hcW,hcC];rcases (Ac.zero hS 0).takeS with ⟨t1,t2,t3,t4,t5⟩|⟨t1,t2⟩
  ·have t1':S.takeE.2=0:=t1;rw[t1'];simp only[if_true];have et:(cg0 S).take=⟨S.take (fillB 0),0,[],[S.takeE.1],[]⟩:=by
    unfold Cg.take;rw[if_pos (show (cg0 S).sp.length=0 from rfl)];show (⟨S.take (fillB 0),0,[],if S.takeE.2=0 then []++[S.takeE.1] else [],[]⟩:Cg)=_;rw[t1',if_pos rfl];rfl
   rw[et];refine JQ hS hH0 ho _ _ ?_;show ((Cg.settle ⟨S.take (fillB 0),0,[],[S.takeE.1],[]⟩ [⟨S.takeE.1,⟨true,[⟨key,val⟩],[],[]⟩,0,0⟩]).2.2=8/\_)\/_
   exact Lp hS (K:=0) (d:=0) ho _ [⟨key,val⟩] ⟨t2.1,t2.2.1⟩ ⟨fun p hp=>by rw[List.mem_singleton.1 hp];exact⟨hk,hv,Cf key⟩,List.pairwise_singleton _ _⟩ trivial rfl (by show 2+(2+key.size+val.size+0)<=330;omega) ⟨t4.same rfl rfl,fun x=>by show _+0=0+_;rw[Nat.add_zero,Nat.zero_add];rfl,List.nodup_nil,(fun p hp=>by cases hp),(fun p hp=>by cases hp)⟩
  ·have t1':S.takeE.2=8:=t1;rw[t1'];right;refine⟨rfl,rfl,?_⟩;have et:(cg0 S).take.S=S:=t2;rw[if_neg (by decide),et];exact CZ hS hH0 ho hS (.refl _) (fun _ _ _ _=>rfl)
 ·subst h4;have hd:=DC h1 ho hS.l0 hS.l1;have hz0:z≠0:=fun e=>by have:=h1.1.1;simp only[e]at this;omega
  have hw:=Dy d (z,f) eB eB h1 h2 (Cf key) 41 [] 0 (by omega) (by simp;omega) (by omega);simp only[List.nil_append]at hw;have e1:(cg0 S).leafE z key=0:=by unfold Cg.leafE;rw[if_neg hz0];show (wayG S key 41 [] z 0).2.1=0;rw[show wayG S key 41 [] z 0=_ from hw]
  have e2:(cg0 S).leafW z key=pmod id d (z,f) key:=by unfold Cg.leafW;rw[if_neg hz0];show (wayG S key 41 [] z 0).1=_;rw[show wayG S key 41 [] z 0=_ from hw]
  have e3:(cg0 S).leaf z key=⟨S,0+d+1,[],[],[]⟩:=by unfold Cg.leaf;rw[if_neg hz0];show (⟨S,(wayG S key 41 [] z 0).2.2,[],[],[]⟩:Cg)=_;rw[show wayG S key 41 [] z 0=_ from hw]
  simp only[e1,if_true];rw[e2,e3,BH _ d (z,f) eB eB h1 (Cf key),<-h3];exact JQ hS (.inr ⟨d,f,h1,h2,rfl,rfl⟩) ho _ _ (MY hS (Lf.put key val hk hv) h1 h2 ho _ (by omega))
theorem PK{S:Sw}{n:Nat}{U:Nat->Bool}(hS:Tk S n U){z:Int}{prs:List Pr}{pgs:List Int}(hH:Hold S z prs pgs)(ho:OgOk n U pgs)(key:ByteArray) :
  (delTE S z key=0/\delTB S z key=hasN prs key/\∃U' pgs',Left S n U pgs (delTS S z key) (delTZ S z key) (if hasN prs key then cutP prs key else prs) U' pgs')\/(delTE S z key=8/\delTB S z key=false/\delTZ S z key=z/\Left S n U pgs (delTS S z key) z prs U pgs):=by
 have hHH:=hH;rcases hH with ⟨h1,h2,h3⟩|⟨d,f,h1,h2,h3,h4⟩
 ·subst h1 h2 h3;left;have e0:delTE S 0 key=0:=rfl;have eq:delQ S 0 key=false:=rfl;refine⟨e0,by unfold delTB;rw[eq];rfl,U,[],?_⟩;have ez:delTZ S 0 key=0:=by unfold delTZ;rw[eq];rfl
  have es:delTS S 0 key=S:=by unfold delTS;rw[eq];rfl
  rw[ez,es];exact CZ hS hHH ho hS (.refl _) (fun _ _ _ _=>rfl)
 ·subst h4;have hd:=DC h1 ho hS.l0 hS.l1;have hz0:z≠0:=fun e=>by have:=h1.1.1;simp only[e]at this;omega
  obtain⟨A,ps,B,e,hA,hB,hl⟩:=G3 d (z,f) eB eB h1 (Cf key);have hw:=Dy d (z,f) eB eB h1 h2 (Cf key) 41 [] 0 (by omega) (by simp;omega) (by omega);simp only[List.nil_append]at hw;have hw':wayG S key 41 [] z 0=(pmod id d (z,f) key,0,0+d+1):=hw;have e':prs=A++ps++B:=by rw[<-h3];exact e
  have hh:hasN (lastN (wayG S key 41 [] z 0).1).ps key=hasN prs key:=by rw[hw',e',Fb A ps B key hA hB];show hasN (lastN (pmod id d (z,f) key)).ps key=_;rw[hl]
  have hq:delQ S z key=hasN prs key:=by
   unfold delQ;rw[hh,show (wayG S key 41 [] z 0).2.1=0 by rw[hw']];simp[hz0]
  have hE:delTE S z key=if hasN prs key then (delC S z key).putE (delW S z key) else 0:=by
   unfold delTE;rw[if_neg hz0,hh,if_pos (by rw[hw'])]
  unfold delTB delTZ delTS;rw[hE,hq];cases hp:hasN prs key with
  | false =>
   left;simp only[Bool.false_eq_true,if_false,Bool.false_and];exact⟨trivial,trivial,U,_,CZ hS hHH ho hS (.refl _) (fun _ _ _ _=>rfl)⟩
  | true =>
   simp only[if_true,Bool.true_and];have ec:delC S z key=⟨S,0+d+1,[],[],[]⟩:=by unfold delC;rw[hw'];rfl
   have ew:delW S z key=pmod (fun n=>n.cut key) d (z,f) key:=by unfold delW;rw[hw'];exact BH _ d (z,f) eB eB h1 (Cf key)
   rw[ec,ew];have hc:=MY hS (Lf.cut key) h1 h2 ho (0+d+1) (by omega);rw[h3]at hc;rcases JQ hS hHH ho _ _ hc with ⟨f1,f2⟩|⟨f1,f2,f3⟩
   ·left;rw[f1];exact⟨rfl,rfl,f2⟩
   ·right;rw[f1];exact⟨rfl,rfl,f2,f3⟩
def SnL(pgs:List Int)(D:Int)(L:Lo):Bool × Lo:=(true,{ L with k:=L.k+pgs.length,pages:=L.pages++pgs,depth:=D })
theorem GA{d:Nat}(D:Int)(fr up:ByteArray)(rec:Int->ByteArray->ByteArray->Lo->Bool × Lo)(all:List ByteArray):∀(B:List (Int × Fo d)) (ks:List ByteArray) (i:Nat) (lo:ByteArray) (L:Lo),AH (tOk d) ks B lo up->ks=all.drop i->i<=all.length->lo=(if 0<i then all.getD (i - 1) ⟨#[]⟩ else fr)->(∀t∈B,∀(a b:ByteArray) (M:Lo),tOk d t a b->M.k+(tpg d t).length<=1000->(∀x,(M.pages++tpg d t).count x<=1)->(M.depth=0\/M.depth=D)->rec t.1 a b M=SnL (tpg d t) D M)->L.k+(B.flatMap (tpg d)).length<=1000->(∀x,(L.pages++B.flatMap (tpg d)).count x<=1)->(L.depth=0\/L.depth=D) ->
  AF rec all fr up (B.map Prod.fst) i L=SnL (B.flatMap (tpg d)) D L
 | [],ks,i,lo,L,h,_,_,_,_,_,_,_=>by cases ks<;>exact h.elim
 | t::B,ks,i,lo,L,h,hall,hi,hlo,hrec,hL,hc,hD=>by
  have elen:((t::B).flatMap (tpg d)).length=(tpg d t).length+(B.flatMap (tpg d)).length:=by rw[List.flatMap_cons,List.length_append]
  have ecnt:∀x,(L.pages++tpg d t++B.flatMap (tpg d)).count x<=1:=fun x=>by have:=hc x;rw[List.flatMap_cons,<-List.append_assoc]at this;exact this
  rw[elen]at hL
  rw[List.map_cons]
  unfold AF
  rw[<-hlo]
  cases B with
  | nil =>
   cases ks with
   | cons k ks=>cases ks<;>exact h.2.elim
   | nil =>
    have hil:¬i<all.length:=fun hh=>by
     have:=congrArg List.length hall
     rw[List.length_drop]at this
     simp at this
     omega
    rw[if_neg hil]
    have hr:=hrec t List.mem_cons_self lo up L h (by omega) (fun x=>by have:=ecnt x;rw[List.count_append]at this;omega) hD
    rw[hr]
    simp[SnL,AF]
  | cons s B =>
   cases ks with
   | nil=>exact h.elim
   | cons k ks =>
    have hil:i<all.length:=by
     have:=congrArg List.length hall;rw[List.length_drop,List.length_cons]at this;omega
    have hdrop:ks=all.drop (i+1):=by
     have:=congrArg List.tail hall;rw[List.tail_drop]at this;exact this
    have hk0:all.getD i ⟨#[]⟩=k:=by
     have:=congrArg List.head? hall;rw[List.head?_drop]at this;rw[List.getD_eq_getElem?_getD,<-this];rfl
    rw[if_pos hil,hk0];have hr:=hrec t List.mem_cons_self lo k L h.1 (by omega) (fun x=>by have:=ecnt x;rw[List.count_append]at this;omega) hD;rw[hr];show (if true=true then AF rec all fr up ((s::B).map Prod.fst) (i+1) { L with k:=L.k+(tpg d t).length,pages:=L.pages++tpg d t,depth:=D } else _)=_
    rw[if_pos rfl,GA D fr up rec all (s::B) ks (i+1) k _ h.2 hdrop (by omega) (by rw[if_pos (by omega),Nat.add_sub_cancel,hk0]) (fun t' ht'=>hrec t' (List.mem_cons_of_mem _ ht')) (by show L.k+(tpg d t).length+_<=1000;omega) ecnt (.inr rfl)];unfold SnL;rw[elen];simp only[List.flatMap_cons (x:=t),List.append_assoc,Nat.add_assoc]
theorem NJ{ps:List Pr}{lo hi:ByteArray}(h:Bw ps lo hi)(hne:ps≠[])(D:Int):leafB ps D D lo hi=true:=by
 unfold leafB;cases ps with
 | nil=>exact absurd rfl hne
 | cons p ps =>
  have h1:=(h.1 p List.mem_cons_self).2.2;have h2:=(h.1 _ (List.getLast_mem hne)).2.2;rw[List.head?_cons,List.getLast?_eq_some_getLast hne];simp[h1,h2]
theorem Je{S:Sw}(D:Int)(hD0:D≠0):∀(d:Nat) (t:Int × Fo d) (lo hi:ByteArray),tOk d t lo hi->tIn (vS S) d t->∀(f:Nat) (lv:Int) (L:Lo),d<f->lv+d=D->D<=40->L.k+(tpg d t).length<=1000->(∀x,(L.pages++tpg d t).count x<=1)->(L.depth=0\/L.depth=D)->Aq S f t.1 lv lo hi L=SnL (tpg d t) D L
 | 0,t,lo,hi,ht,hin,f,lv,L,hf,hlv,hD,hk,hc,hdep=>by
  obtain⟨f,rfl⟩:∃g,f=g+1:=⟨f - 1,by omega⟩
  have hl:(tpg 0 t).length=1:=rfl
  obtain⟨e1,e2⟩:=Ib hin.1 (k:=L.k) (lv:=lv) (by omega) (by omega)
  have hcz:=hc t.1
  have hct:(tpg 0 t).count t.1=1:=by simp[tpg,fpgs]
  rw[List.count_append]at hcz
  have hno:L.pages.contains t.1=false:=by
   cases e:L.pages.contains t.1 with
   | false=>rfl
   | true=>have:=Ae.1 (List.contains_iff_mem.1 e);omega
  have hlv':lv=D:=by omega
  have hdd:(if L.depth=0 then lv else L.depth)=D:=by rcases hdep with e|e<;>rw[e];(rw[if_pos rfl];exact hlv');rw[if_neg hD0]
  unfold Aq;rw[if_pos e1,hno,e2];simp only[Bool.false_eq_true,if_false];rw[if_pos (show (fnd 0 t.2).leaf=true from rfl),hdd,hlv'];show (leafB t.2 D D lo hi,_)=_;rw[NJ ht.2.2.2 ht.2.1];rfl
 | d+1,t,lo,hi,ht,hin,f,lv,L,hf,hlv,hD,hk,hc,hdep=>by
  obtain⟨f,rfl⟩:∃g,f=g+1:=⟨f - 1,by omega⟩;obtain⟨z,ks,ts⟩:=t;have hfo:fOk (d+1) (ks,ts) lo hi:=ht.2.2.2;have hl:(tpg (d+1) (z,(ks,ts))).length=1+(ts.flatMap (tpg d)).length:=by show (z::ts.flatMap (tpg d)).length=_;rw[List.length_cons,Nat.add_comm]
  have htp:tpg (d+1) (z,(ks,ts))=[z]++ts.flatMap (tpg d):=rfl;rw[hl]at hk;obtain⟨e1,e2⟩:=Ib hin.1 (k:=L.k) (lv:=lv) (by omega) (by omega);have hcz:=hc z;rw[htp,List.count_append,List.count_append]at hcz;have hz1:([z]:List Int).count z=1:=by simp
  have hno:L.pages.contains z=false:=by
   cases e:L.pages.contains z with
   | false=>rfl
   | true=>have:=Ae.1 (List.contains_iff_mem.1 e);omega
  unfold Aq;rw[if_pos e1,hno,e2];simp only[Bool.false_eq_true,if_false];rw[if_neg (show ¬((fnd (d+1) (z,ks,ts).2).leaf=true) from by show ¬(false=true);simp),if_neg (show ¬((fnd (d+1) (z,ks,ts).2).ks.length=0) from fun e=>ht.2.1 (List.length_eq_zero_iff.1 e))];show AF (fun x a b M=>Aq S f x (lv+1) a b M) ks lo hi (ts.map Prod.fst) 0 { L with k:=L.k+1,pages:=L.pages++[z] }=_
  rw[GA D lo hi (fun x a b M=>Aq S f x (lv+1) a b M) ks ts ks 0 lo { L with k:=L.k+1,pages:=L.pages++[z] } hfo.2 rfl (by omega) (by simp) (fun s hs a b M hab hM hMc hMd=>Je D hD0 d s a b hab (hin.2 s hs) f (lv+1) M (by omega) (by omega) hD hM hMc hMd) (by show L.k+1+_<=1000;omega) (fun x=>by
   have:=hc x;rw[htp,<-List.append_assoc]at this;exact this) hdep]
  unfold SnL;rw[hl,htp];simp only[List.append_assoc,Nat.add_assoc]
theorem JW{S:Sw}{n:Nat}{U:Nat->Bool}(hS:Tk S n U){z:Int}{prs:List Pr}{pgs:List Int}(hH:Hold S z prs pgs)(ho:OgOk n U pgs):∃D:Nat,AP S z=((pgs.length:Int),(D:Int),true)/\((D=0/\prs=[])\/(0<D/\D<=7/\prs≠[]/\2 ^ (D - 1)<=prs.length/\pgs.length+1<=2*prs.length)):=by
 rcases hH with ⟨h1,h2,h3⟩|⟨d,f,h1,h2,h3,h4⟩
 ·refine⟨0,?_,.inl ⟨rfl,h2⟩⟩;rw[h3,h1];rfl
 ·subst h4;have hd:=DC h1 ho hS.l0 hS.l1;have hdp:=deep d (z,f) eB eB h1;have hz0:z≠0:=fun e=>by have:=h1.1.1;simp only[e]at this;omega
  have hs:=Je ((d+1:Nat):Int) (by omega) d (z,f) eB eB h1 h2 41 1 ⟨0,[],[],0⟩ (by omega) (by omega) (by omega) (by show 0+_<=1000;omega) (fun x=>by show (([]:List Int)++tpg d (z,f)).count x<=1;exact ho.1 x) (.inl rfl);have hs':sound S z=SnL (tpg d (z,f)) ((d+1:Nat):Int) ⟨0,[],[],0⟩:=by unfold sound;rw[if_neg hz0];exact hs
  have hpl:0<prs.length:=by rw[<-h3];have:=hdp.1;have:0<2 ^ d:=Nat.pow_pos (by omega);show 0<(fprs d (z,f).2).length;omega
  refine⟨d+1,?_,.inr ⟨by omega,by omega,List.length_pos_iff.1 hpl,by rw[Nat.add_sub_cancel,<-h3];exact hdp.1,by rw[<-h3];exact hdp.2.1⟩⟩;unfold AP;rw[hs'];show (if true=true then _ else _)=_;rw[if_pos rfl];show (((([]:List Int)++tpg d (z,f)).length:Int),_,_)=_;rfl
def okZ(z:Int):Prop:=-9223372036854775808<=z/\z<9223372036854775808
structure Kn (S T:Sw):Prop where
 nt:T.notes=S.notes
 bs:T.base=S.base
 ov:T.over=S.over
 ln:T.now.length=S.now.length
theorem Kn.refl(S:Sw):Kn S S:=⟨rfl,rfl,rfl,rfl⟩
theorem Kn.trans{S T R:Sw}(h:Kn S T)(h':Kn T R):Kn S R:=⟨h'.nt.trans h.nt,h'.bs.trans h.bs,h'.ov.trans h.ov,h'.ln.trans h.ln⟩
theorem IF(S:Sw)(z:Int)(x:ByteArray):Kn S (S.write z x):=by
 unfold Sw.write;split
 ·exact⟨rfl,rfl,rfl,by simp⟩
 ·exact .refl _
theorem KY(S:Sw)(Z:ByteArray):Kn S (S.take Z):=by
 unfold Sw.take;split
 ·exact .refl _
 ·split
  ·exact⟨rfl,rfl,rfl,by simp[turnL]⟩
  ·exact .refl _
theorem O3(S:Sw)(z:Int):Kn S (S.drop z):=by
 unfold Sw.drop;split
 ·exact⟨rfl,rfl,rfl,by simp[turnL]⟩
 ·exact .refl _
theorem Fj:∀(l:List Int) (S:Sw),Kn S (dropL S l)
 | [],S=>.refl _
 | z::l,S=>(O3 S z).trans (Fj l (S.drop z))
theorem Gn:∀(l:List (Int × Nd)) (S:Sw),Kn S (writeL S l)
 | [],S=>.refl _
 | p::l,S=>(IF S p.1 p.2.write).trans (Gn l (S.write p.1 p.2.write))
structure Inv (I:Cg->Prop):Prop where
 same:∀C C':Cg,I C->C'.S=C.S->C'.tk=C.tk->I C'
 take:∀C:Cg,I C->I C.take
theorem Inv.split{I:Cg->Prop}(h:Inv I){C:Cg}(hC:I C)(z:Int)(n:Nd):I (C.split z n):=by
 unfold Cg.split;split
 ·exact h.same _ _ (h.take C hC) rfl rfl
 ·exact h.take C hC
theorem Inv.raise{I:Cg->Prop}(h:Inv I){C:Cg}(hC:I C)(z:Int)(n:Nd):I (C.raise z n):=by
 unfold Cg.raise;split
 ·split
  ·exact h.same _ _ (h.split (h.take C hC) z n) rfl rfl
  ·exact h.split (h.take C hC) z n
 ·exact h.take C hC
theorem Inv.root{I:Cg->Prop}(h:Inv I){C:Cg}(hC:I C)(z:Int)(n:Nd):I (C.root z n):=by
 unfold Cg.root;split
 ·exact h.same _ _ hC rfl rfl
 ·split
  ·exact h.same _ _ hC rfl rfl
  ·split
   ·exact h.raise hC z n
   ·exact h.same _ _ hC rfl rfl
theorem Inv.gathF{I:Cg->Prop}(h:Inv I){C:Cg}(hC:I C)(z:Int)(n nab:Nd)(g:Option (Nat × Nd)):I (C.gathF z n nab g).C:=by
 cases g with
 | none=>exact h.same _ _ hC rfl rfl
 | some g =>
  show I (if n.kd.length=1 then (⟨(C.write (nab.kd.getD g.1 0) g.2.fst).write (nab.kd.getD (g.1+1) 0) g.2.snd,{ nab with ks:=nab.ks.set g.1 g.2.mid },true,0⟩:Gr) else ⟨C.write z n,nab,false,0⟩).C;split
  ·exact h.same _ _ hC rfl rfl
  ·exact h.same _ _ hC rfl rfl
theorem Inv.gathG{I:Cg->Prop}(h:Inv I)(z:Int)(n nab:Nd)(kid:Nat):∀(l:List Nat) (g:Option (Nat × Nd)) (C:Cg),I C->I (gathG z n nab kid l g C).C
 | [],g,C,hC=>h.gathF hC z n nab g
 | bt::r,g,C,hC=>by
  rw[Go.Proofs.YtgcgacjhkhjhmaaGreatDoor.gathG]
  split
  ·split
   ·split
    ·exact h.same _ _ hC rfl rfl
    ·exact h.gathG z n nab kid r _ _ (h.same _ _ hC rfl rfl)
   ·exact h.gathG z n nab kid r _ _ (h.same _ _ hC rfl rfl)
  ·exact h.same _ _ hC rfl rfl
theorem Inv.below{I:Cg->Prop}(h:Inv I){C:Cg}(hC:I C)(s:Sp)(kid:Nat)(nab:Nd):I (C.below s kid nab).C:=by
 unfold Cg.below;split
 ·exact h.same _ _ hC rfl rfl
 ·split
  ·exact h.split hC _ _
  ·split
   ·exact h.gathG _ _ _ _ _ _ _ hC
   ·exact h.same _ _ hC rfl rfl
theorem Inv.down{I:Cg->Prop}(h:Inv I){C:Cg}(hC:I C):∀(l:List Sp) (a:Sp),I (C.down a l).C
 | [],a=>hC
 | b::l,a=>by
  have ih:=h.down hC l b
  rw[Cg.down]
  split
  ·split
   ·exact h.below ih _ _ _
   ·exact ih
  ·exact ih
theorem Inv.settle{I:Cg->Prop}(h:Inv I){C:Cg}(hC:I C):∀l:List Sp,I (C.settle l).1
 | []=>hC
 | a::l=>by
  have ih:=h.down hC l a
  show I (if (C.down a l).e=0 then (if (C.down a l).go then ((C.down a l).C.root a.page (C.down a l).ab,(C.down a l).C.rootZ a.page (C.down a l).ab) else ((C.down a l).C,a.page,0)) else ((C.down a l).C,0,(C.down a l).e)).1
  split
  ·split
   ·exact h.root ih _ _
   ·exact ih
  ·exact ih
theorem Nx(S:Sw):Inv (fun C=>Kn S C.S):=⟨fun C C' h e _=>by rw[e];exact h,fun C h=>by
 unfold Cg.take
 split
 ·exact h.trans (KY _ _)
 ·exact h⟩
theorem KX(C:Cg)(way:List Sp):Kn C.S (C.putS way):=by
 have h:=(Nx C.S).settle (.refl _) way;unfold Cg.putS;split
 ·unfold Cg.commitS;split
  ·exact(h.trans (Gn _ _)).trans (Fj _ _)
  ·exact h
 ·exact h.trans (Fj _ _)
theorem KW(S:Sw)(z:Int)(key:ByteArray):Kn S ((cg0 S).leaf z key).S:=by
 unfold Cg.leaf;split
 ·exact(Nx S).take _ (.refl _)
 ·exact .refl _
theorem J1(S:Sw)(z:Int)(key val:ByteArray):Kn S (putTS S z key val):=by
 unfold putTS;split
 ·exact .refl _
 ·split
  ·exact(KW S z key).trans (KX _ _)
  ·exact KW S z key
theorem J0(S:Sw)(z:Int)(key:ByteArray):Kn S (delTS S z key):=by
 unfold delTS;split
 ·exact KX (delC S z key) _
 ·exact .refl _
structure Tre (S:Sw) (n:Nat) (X:List Int) (z:Int) (prs:List Pr) (pgs:List Int):Prop where
 ho:Hold S z prs pgs
 u:∃U,Tk S n U/\OgOk n U pgs/\OgOk n U X/\∀i:Nat,0<i->i<n->U i=true->(i:Int)∈pgs\/(i:Int)∈X
 ap:∀x∈X,x ∉ pgs
 nt:S.notes=[]
theorem D8{S:Sw}{n:Nat}{U:Nat->Bool}{X:List Int}{z:Int}{prs:List Pr}{pgs:List Int}(h:Tre S n X z prs pgs)(hT:Tk S n U)(hX:OgOk n U X)(hu:∀i:Nat,0<i->i<n->U i=true->(i:Int)∈pgs\/(i:Int)∈X){S':Sw}{z':Int}{prs':List Pr}{U':Nat->Bool}{pgs':List Int}(hL:Left S n U pgs S' z' prs' U' pgs')(hn:Kn S S') :
  Tre S' n X z' prs' pgs'/\∀y∈X,vS S' y=vS S y:=by
 have hx:∀x∈X,0<x.toNat/\x.toNat<n/\U x.toNat=true/\((x.toNat:Nat):Int)=x:=fun x hx=>by
  have:=hX.2 x hx;exact⟨by omega,by omega,this.2.2,by omega⟩
 have hxu:∀x∈X,U' x.toNat=true:=fun x hm=>by
  obtain⟨a,b,c,d⟩:=hx x hm;exact(hL.us _ a b).2 (.inl ⟨c,by rw[d];exact h.ap x hm⟩)
 refine⟨⟨hL.ho,⟨U',hL.tk,hL.og,⟨hX.1,fun y hy=>⟨(hX.2 y hy).1,(hX.2 y hy).2.1,hxu y hy⟩⟩,fun i hi hin hu'=>?_⟩,fun x hm=>?_,by rw[hn.nt,h.nt]⟩,fun y hy=>?_⟩
 ·rcases (hL.us i hi hin).1 hu' with ⟨e1,e2⟩|e
  ·rcases hu i hi hin e1 with e|e
   ·exact absurd e e2
   ·exact .inr e
  ·exact .inl e
 ·obtain⟨a,b,c,d⟩:=hx x hm;have:=hL.nw _ a b c (by rw[d];exact h.ap x hm);rwa [d]at this
 ·obtain⟨a,b,c,d⟩:=hx y hy;refine CF ?_;have h1:=(hX.2 y hy).1;have h2:=(hX.2 y hy).2.1;rw[hL.tk.read h1 h2 (hxu y hy),hT.read h1 h2 c,hL.rd _ a b c (by rw[d];exact h.ap y hy)]
theorem Lv{S:Sw}{n:Nat}{X:List Int}{z:Int}{prs:List Pr}{pgs:List Int}(h:Tre S n X z prs pgs)(key val:ByteArray)(hk:okKey key=true)(hv:val.size<=40) :
  (∀y∈X,vS (putTS S z key val) y=vS S y)/\((putTE S z key val=0/\∃pgs',Tre (putTS S z key val) n X (putTZ S z key val) (putL prs key val) pgs')\/(putTE S z key val=8/\putTZ S z key val=z/\Tre (putTS S z key val) n X z prs pgs)):=by
 obtain⟨U,hT,hO,hX,hu⟩:=h.u;rcases PU hT h.ho hO key val hk hv with ⟨e,U',pgs',hL⟩|⟨e,ez,hL⟩
 ·obtain⟨a,b⟩:=D8 h hT hX hu hL (J1 S z key val);exact⟨b,.inl ⟨e,pgs',a⟩⟩
 ·obtain⟨a,b⟩:=D8 h hT hX hu hL (J1 S z key val);exact⟨b,.inr ⟨e,ez,a⟩⟩
theorem Pv{S:Sw}{n:Nat}{X:List Int}{z:Int}{prs:List Pr}{pgs:List Int}(h:Tre S n X z prs pgs)(key:ByteArray) :
  (∀y∈X,vS (delTS S z key) y=vS S y)/\((delTE S z key=0/\delTB S z key=hasN prs key/\∃pgs',Tre (delTS S z key) n X (delTZ S z key) (if hasN prs key then cutP prs key else prs) pgs')\/(delTE S z key=8/\delTB S z key=false/\delTZ S z key=z/\Tre (delTS S z key) n X z prs pgs)):=by
 obtain⟨U,hT,hO,hX,hu⟩:=h.u;rcases PK hT h.ho hO key with ⟨e,eb,U',pgs',hL⟩|⟨e,eb,ez,hL⟩
 ·obtain⟨a,b⟩:=D8 h hT hX hu hL (J0 S z key);exact⟨b,.inl ⟨e,eb,pgs',a⟩⟩
 ·obtain⟨a,b⟩:=D8 h hT hX hu hL (J0 S z key);exact⟨b,.inr ⟨e,eb,ez,a⟩⟩
theorem Dj{S:Sw}{n:Nat}{U:Nat->Bool}(hT:Tk S n U):S.usedN=1+((List.range (n - 1)).filter (fun i=>U (i+1))).length:=by
 unfold Sw.usedN;rw[hT.ov,hT.len];simp only[Bool.false_eq_true,if_false];obtain⟨m,rfl⟩:∃m,n=m+1:=⟨n - 1,by have:=hT.l0;omega⟩;rw[List.range_succ_eq_map,List.filter_cons];have e0:isU S.now 0=true:=rfl;rw[e0,if_pos rfl,List.length_cons,List.filter_map,List.length_map,Nat.add_sub_cancel,Nat.add_comm];congr 2;refine List.filter_congr (fun i hi=>?_);have:=List.mem_range.1 hi;exact hT.us (i+1) (by omega) (by omega)
theorem NP{n:Nat}{U:Nat->Bool}{l:List Int}(hl:OgOk n U l)(hu:∀i:Nat,0<i->i<n->U i=true->(i:Int)∈l):((List.range (n - 1)).filter (fun i=>U (i+1))).length=l.length:=by
 have hnd:l.Nodup:=List.nodup_iff_count.2 hl.1;have hp:(((List.range (n - 1)).filter (fun i=>U (i+1))).map (fun i=>((i+1:Nat):Int))).Perm l:=by
  refine(List.perm_ext_iff_of_nodup ?_ hnd).2 (fun x=>?_)
  ·refine List.Pairwise.map _ (fun a b hab=>?_) (List.nodup_range.sublist List.filter_sublist);intro e;exact hab (by omega)
  ·constructor
   ·intro hx;obtain⟨i,hi,rfl⟩:=List.mem_map.1 hx;obtain⟨h1,h2⟩:=List.mem_filter.1 hi;have:=List.mem_range.1 h1;exact hu (i+1) (by omega) (by omega) h2
   ·intro hx;obtain⟨h1,h2,h3⟩:=hl.2 x hx;refine List.mem_map.2 ⟨x.toNat - 1,List.mem_filter.2 ⟨List.mem_range.2 (by omega),?_⟩,by omega⟩;rw[show x.toNat - 1+1=x.toNat by omega];exact h3
 have:=hp.length_eq;rwa [List.length_map]at this
theorem Jr{S:Sw}{n:Nat}{X:List Int}{z:Int}{prs:List Pr}{pgs:List Int}(h:Tre S n X z prs pgs):S.usedN=1+(pgs.length+X.length):=by
 obtain⟨U,hT,hO,hX,hu⟩:=h.u;rw[Dj hT,NP (l:=pgs++X) ⟨fun x=>?_,fun x hx=>?_⟩ (fun i hi hin e=>List.mem_append.2 (hu i hi hin e)),List.length_append]
 ·rw[List.count_append];have h1:=hO.1 x;have h2:=hX.1 x;rcases Nat.eq_zero_or_pos (X.count x)with e|e
  ·omega
  ·have:=h.ap x (Ae.2 e);have h3:pgs.count x=0:=by
    rcases Nat.eq_zero_or_pos (pgs.count x)with e|e
    ·exact e
    ·exact absurd (Ae.2 e) this
   omega
 ·rcases List.mem_append.1 hx with e|e
  ·exact hO.2 x e
  ·exact hX.2 x e
theorem Pw{S:Sw}{n:Nat}{X:List Int}{z:Int}{prs:List Pr}{pgs:List Int}(h:Tre S n X z prs pgs)(key:ByteArray):getT S z key=if hasN prs key then (getL prs key,true,0) else (⟨#[]⟩,false,0):=by
 obtain⟨U,hT,hO,hX,hu⟩:=h.u;exact PL hT h.ho hO key
theorem ME{S:Sw}{n:Nat}{X:List Int}{z:Int}{prs:List Pr}{pgs:List Int}(h:Tre S n X z prs pgs):∃D:Nat,AP S z=((pgs.length:Int),(D:Int),true)/\((D=0/\prs=[])\/(0<D/\D<=7/\prs≠[]/\2 ^ (D - 1)<=prs.length/\pgs.length+1<=2*prs.length)):=by
 obtain⟨U,hT,hO,hX,hu⟩:=h.u;exact JW hT h.ho hO
theorem LG{a b:UInt8}(h:∀k,k<8->(a.toNat / 2 ^ k%2==1)=(b.toNat / 2 ^ k%2==1)):a=b:=by
 apply UInt8.toNat_inj.1;apply Nat.eq_of_testBit_eq;intro k;by_cases hk:k<8
 ·have e:∀x:Nat,(x / 2 ^ k%2==1)=x.testBit k:=fun x=>by rw[Nat.testBit_eq_decide_div_mod_eq];cases h:(x / 2 ^ k%2==1)<;>simp_all
  rw[<-e,<-e];exact h k hk
 ·have hp:256<=2 ^ k:=Nat.le_trans (by decide:256<=2 ^ 8) (Nat.pow_le_pow_right (by omega) (by omega));rw[Nat.testBit_lt_two_pow (Qd a.toNat_lt hp),Nat.testBit_lt_two_pow (Qd b.toNat_lt hp)]
theorem JE{p q:ByteArray}(hs:p.size=q.size)(h:∀m,bitOf p m=bitOf q m):p=q:=by
 have hl:p.data.toList=q.data.toList:=by
  refine List.ext_getElem (by simpa using hs) (fun i h1 h2=>?_);refine LG (fun k hk=>?_);have:=h (8*i+k);unfold bitOf AZ at this;rw[show (8*i+k) / 8=i by omega,show (8*i+k)%8=k by omega,List.getD_eq_getElem?_getD,List.getD_eq_getElem?_getD,List.getElem?_eq_getElem h1,List.getElem?_eq_getElem h2,Option.getD_some,Option.getD_some]at this;exact this
 cases p with
 | mk a=>cases q with
  | mk b =>
   congr 1;exact Array.toList_inj.1 hl
def turnB(p:ByteArray)(l:List Int)(m:Nat):Bool:=if l.contains (m:Int) then !bitOf p m else bitOf p m
theorem I3{l:List ByteArray}(h0:0<l.length)(n:Nat):pg0 (turnL l n)=turnS (pg0 l) n:=by
 unfold turnL;show (l.set 0 _).getD 0 _=_;rw[List.getD_eq_getElem?_getD,List.getElem?_set];simp[h0]
theorem Ph{l:List ByteArray}{n:Nat}(hn:0<n)(x:ByteArray):pg0 (l.set n x)=pg0 l:=by
 unfold pg0;rw[List.getD_eq_getElem?_getD,List.getD_eq_getElem?_getD,List.getElem?_set,if_neg (by omega)]
theorem Fp:∀(l:List ByteArray) (k n m:Nat),lowest l k n=some m->n<=m
 | l,0,n,m,h=>by cases h
 | l,k+1,n,m,h=>by
  unfold lowest at h
  split at h
  ·have:=Fp l k (n+1) m h;omega
  ·cases h;exact Nat.le_refl _
structure Ab (S:Sw) (n:Nat) (U:Nat->Bool) (C:Cg):Prop where
 ac:Ac S n U C
 bt:∀m,bitOf (pg0 C.S.now) m=turnB (pg0 S.now) C.tk m
theorem Ab.zero{S:Sw}{n:Nat}{U:Nat->Bool}(hS:Tk S n U)(k:Nat):Ab S n U ⟨S,k,[],[],[]⟩:=⟨⟨hS.congr (fun i _ _=>by simp),.refl _,(fun z hz=>by cases hz),List.nodup_nil,fun _ _ _ _=>rfl⟩,fun m=>by unfold turnB;simp⟩
theorem Ac.like{S:Sw}{n:Nat}{U:Nat->Bool}{C C':Cg}(h:Ac S n U C)(hS:C'.S=C.S)(ht:C'.tk=C.tk):Ac S n U C':=⟨by rw[hS,ht];exact h.ht,by rw[hS];exact h.fr,by rw[ht];exact h.tk,by rw[ht];exact h.nd,by rw[hS];exact h.rd⟩
theorem JY(S:Sw)(n:Nat)(U:Nat->Bool):Inv (Ab S n U):=by
 refine⟨fun C C' h e1 e2=>⟨h.ac.like e1 e2,by rw[e1,e2];exact h.bt⟩,fun C h=>?_⟩;unfold Cg.take;split
 ·rcases h.ac.takeS with ⟨t1,t2,t3,t4,_⟩|⟨t1,t2⟩
  ·rw[t1,if_pos rfl];refine⟨t4.like rfl rfl,fun m=>?_⟩;have hov:=h.ac.ht.ov;have h0:0<C.S.now.length:=by rw[h.ac.ht.len];exact h.ac.ht.l0
   have hsz:=Br h0 h.ac.ht.sz;cases hf:C.S.free with
   | none =>
    unfold Sw.takeE at t1;rw[hov,hf]at t1;simp at t1
   | some t =>
    have ht:C.S.takeE.1=(t:Int):=by unfold Sw.takeE;rw[hov,hf];rfl
    have htp:0<t:=by have:=Fp _ _ _ _ hf;omega
    have htn:t<n:=by rw[ht]at t2;omega
    have hl1:=h.ac.ht.l1;show bitOf (pg0 (C.S.take (fillB 0)).now) m=turnB (pg0 S.now) (C.tk++[C.S.takeE.1]) m;have e:(C.S.take (fillB 0)).now=(turnL C.S.now t).set t (fillB 0):=by unfold Sw.take;rw[hov,hf];rfl
    rw[e,Ph htp,I3 h0,E1 _ _ _ (by omega),h.bt m,ht];unfold turnB;by_cases hm:t=m
    ·subst hm;have hn:(C.tk.contains (t:Int))=false:=by
      rw[ht]at t3;simpa using t3
     rw[if_pos rfl,hn];simp
    ·rw[if_neg hm];have:(C.tk++[(t:Int)]).contains (m:Int)=C.tk.contains (m:Int):=by
      simp only[List.contains_append,List.contains_cons,List.contains_nil,Bool.or_false];rw[show ((m:Int)==(t:Int))=false by simpa using (by omega:¬(m:Int)=(t:Int)),Bool.or_false]
     rw[this]
  ·rw[t2];refine⟨h.ac.like rfl (by show (if C.S.takeE.2=0 then _ else C.tk)=C.tk;rw[if_neg (by omega)]),?_⟩;show ∀m,bitOf (pg0 C.S.now) m=turnB (pg0 S.now) (if C.S.takeE.2=0 then _ else C.tk) m;rw[if_neg (by omega)];exact h.bt
 ·exact⟨h.ac.like rfl rfl,h.bt⟩
theorem Gc{n:Nat}:∀(l:List Int) (T:Sw) (U:Nat->Bool),Tk T n U->l.Nodup->(∀z∈l,0<z/\z<(n:Int)/\U z.toNat=true)->∀m,bitOf (pg0 (dropL T l).now) m=turnB (pg0 T.now) l m
 | [],T,U,_,_,_,m=>by unfold turnB;simp[dropL]
 | z::l,T,U,hT,hn,hw,m=>by
  obtain⟨hz,hl⟩:=List.nodup_cons.1 hn
  obtain⟨z0,z1,zu⟩:=hw z List.mem_cons_self
  have hone:=DF [z] T U hT (by simp) (fun y hy=>by rw[List.mem_singleton.1 hy];exact⟨z0,z1,zu⟩)
  have hT1:Tk (T.drop z) n (fun i=>U i&&!([z]:List Int).contains (i:Int)):=hone.1
  have h0:0<T.now.length:=by rw[hT.len];exact hT.l0
  have hl1:=hT.l1
  have hsz:=Br h0 hT.sz
  have hE:T.dropE z=0:=by
   unfold Sw.dropE AW;rw[hT.ov,hT.len,hT.us z.toNat (by omega) (by omega),zu];simp[z0,z1]
  have e:(T.drop z).now=turnL T.now z.toNat:=by unfold Sw.drop;rw[if_pos hE]
  have ih:=Gc l (T.drop z) _ hT1 hl (fun y hy=>by
   obtain⟨y0,y1,yu⟩:=hw y (List.mem_cons_of_mem _ hy);refine⟨y0,y1,?_⟩;have:y≠z:=fun e=>hz (e▸hy);have hc:((y.toNat:Nat):Int)=y:=by omega
   show (U y.toNat&&!([z]:List Int).contains ((y.toNat:Nat):Int))=true;rw[yu,hc];simp[this]) m
  show bitOf (pg0 (dropL (T.drop z) l).now) m=_;rw[ih];unfold turnB;rw[e,I3 h0,E1 _ _ _ (by omega)];by_cases hm:z.toNat=m
  ·subst hm;have hc:((z.toNat:Nat):Int)=z:=by omega
   rw[hc,if_pos rfl,show l.contains z=false by simpa using hz];simp
  ·rw[if_neg hm];have:(z::l).contains (m:Int)=l.contains (m:Int):=by
    rw[List.contains_cons,show ((m:Int)==z)=false by simpa using (by omega:¬(m:Int)=z),Bool.false_or]
   rw[this]
theorem F6{S:Sw}{n:Nat}{U:Nat->Bool}(hS:Tk S n U){C:Cg}(h:Ab S n U C):(dropL C.S C.tk).usedN=S.usedN/\(dropL C.S C.tk).changed=S.changed:=by
 obtain⟨b1,b2,b3⟩:=KN hS h.ac;have hp:pg0 (dropL C.S C.tk).now=pg0 S.now:=by
  refine JE ?_ (fun m=>?_)
  ·rw[Br (by rw[b1.len];exact b1.l0) b1.sz,Br (by rw[hS.len];exact hS.l0) hS.sz]
  ·rw[Gc C.tk C.S _ h.ac.ht h.ac.nd (fun z hz=>by
    obtain⟨z0,z1,_⟩:=h.ac.tk z hz;have hc:((z.toNat:Nat):Int)=z:=by omega
    refine⟨z0,z1,?_⟩;show (U z.toNat||C.tk.contains ((z.toNat:Nat):Int))=true;rw[hc,show C.tk.contains z=true by simpa using hz];simp) m]
   unfold turnB;rw[h.bt m];unfold turnB;split<;>simp
 refine⟨by rw[Dj b1,Dj hS],?_⟩;unfold Sw.changed chgs;rw[b1.ov,hS.ov,b1.len,hS.len,b2.base];refine List.filter_congr (fun i hi=>?_);have hin:i<n:=List.mem_range.1 hi;by_cases h0:i=0
 ·subst h0;have e1:(dropL C.S C.tk).now.getD 0 ⟨#[]⟩=S.now.getD 0 ⟨#[]⟩:=hp;rw[e1];rfl
 ·rw[b1.us i (by omega) hin,hS.us i (by omega) hin];cases hu:U i with
  | false=>rfl
  | true=>rw[b3 i (by omega) hin hu]
theorem I5{S:Sw}{n:Nat}{U:Nat->Bool}(hS:Tk S n U)(z:Int)(key val:ByteArray)(he:putTE S z key val≠0):putTZ S z key val=z/\(putTS S z key val).usedN=S.usedN/\(putTS S z key val).changed=S.changed:=by
 unfold putTE at he;unfold putTZ putTS;split at he
 ·rename_i h1;rw[if_pos h1,if_pos h1];exact⟨rfl,rfl,rfl⟩
 ·rename_i h1;rw[if_neg h1,if_neg h1];have hab:Ab S n U ((cg0 S).leaf z key):=by
   unfold Cg.leaf;split
   ·exact(JY S n U).take _ (Ab.zero hS 0)
   ·exact Ab.zero hS _
  split at he
  ·rename_i h2;rw[if_pos h2,if_pos h2];unfold Cg.putZ Cg.putS;rw[if_neg he,if_neg he];exact⟨rfl,F6 hS ((JY S n U).settle hab _)⟩
  ·rename_i h2;rw[if_neg h2,if_neg h2];refine⟨rfl,?_⟩;unfold Cg.leafE at h2;unfold Cg.leaf;split at h2
   ·rename_i h3;rw[if_pos h3];have ht:(cg0 S).take.S=S:=by
     unfold Cg.take;rw[if_pos (show (cg0 S).sp.length=0 from rfl)];show S.take (fillB 0)=S;unfold Cg.takeZ at h2;rw[if_pos (show (cg0 S).sp.length=0 from rfl)]at h2;have h4:S.takeE.2≠0:=h2;unfold Sw.takeE at h4;unfold Sw.take;rw[hS.ov]at h4 |-;cases hf:S.free with
     | none=>rfl
     | some t=>rw[hf]at h4;exact absurd rfl h4
    rw[ht];exact⟨rfl,rfl⟩
   ·rename_i h3;rw[if_neg h3];exact⟨rfl,rfl⟩
theorem DD{S:Sw}{n:Nat}{U:Nat->Bool}(hS:Tk S n U)(z:Int)(key:ByteArray)(he:delTE S z key≠0):delTB S z key=false/\delTZ S z key=z/\(delTS S z key).usedN=S.usedN/\(delTS S z key).changed=S.changed:=by
 refine⟨by unfold delTB;rw[decide_eq_false he,Bool.and_false],?_⟩;unfold delTZ delTS;cases hq:delQ S z key with
 | false=>exact⟨rfl,rfl,rfl⟩
 | true =>
  rw[if_pos rfl,if_pos rfl];have hE:(delC S z key).putE (delW S z key)≠0:=by
   unfold delQ at hq;simp only[Bool.and_eq_true,decide_eq_true_eq]at hq;unfold delTE at he;rw[if_neg hq.1,if_pos hq.2.1,if_pos hq.2.2]at he;exact he
  unfold Cg.putZ Cg.putS;rw[if_neg hE,if_neg hE];exact⟨rfl,F6 hS ((JY S n U).settle (Ab.zero hS _) _)⟩
end Go.Proofs.YtgcgacjhkhjhmaaGreatDoor
