/- Part of the proof: contracts over the turned program. -/
import Derived.Sort.OwnSortedInts
import Derived.Test.YtjojffepakclcaaGreatDoorX17
import Derived.Test.YtjojffepakclcaaGreatDoorX7
import Derived.Test.YtjojffepakclcaaGreatDoorX4
set_option linter.unusedVariables false
set_option maxHeartbeats 4000000
open Go.Proofs.Tryz
namespace Go.Proofs.YtjojffepakclcaaGreatDoor
open Go.RowKit
def fillB(c:UInt8):ByteArray:=⟨(List.replicate 256 c).toArray⟩
theorem Bz(c:UInt8):(fillB c).size=256:=by
 show (List.replicate 256 c).toArray.size=256;rw[List.size_toArray,List.length_replicate]
theorem JO{n:Nat}{D:Dv}{Q:Nat->ByteArray}(hu:∀k,D.u k=none)(hC:Clean n D.s Q)(hQ:∀p,(Q p).size=256)(p:Nat)(hp:p<n):lookS D (AF p)=Q p :=
 LW (hQ p) (fun j hj=>by rw[Kk hu];exact hC.2 p hp j hj)
theorem Jf(n N:Nat):Clean n (fresh N).s (fun _=>fillB 0):=by
 refine⟨by kernel_rfl,fun p hp j hj=>?_⟩;show Al=secL (fillB 0) j;rw[Gp];show Al=((List.replicate 256 (0:UInt8)).drop (j*64)).take 64;rw[List.drop_replicate,List.take_replicate];unfold Al;congr 1;omega
end Go.Proofs.YtjojffepakclcaaGreatDoor
namespace Go.Proofs.YtjojffepakclcaaGreatDoor
theorem Ks{ps:List Pr}{k:ByteArray}(h:hasN ps k=true):findN ps k<ps.length:=by
 have h1:=Bl ps k;rcases Nat.lt_or_ge (findN ps k) ps.length with h'|h'
 ·exact h'
 ·exfalso;unfold hasN at h;have e:ps[findN ps k]?=none:=List.getElem?_eq_none h';simp_all
def lastN(l:List Sp):Nd:=(l.getLast?.map Sp.nd).getD nd0
def getT(S:Sw)(root:Int)(key:ByteArray):ByteArray × Bool × Int:=if root=0 then (⟨#[]⟩,false,0) else
 if (wayG S key 41 [] root 0).2.1=0 then (if hasN (lastN (wayG S key 41 [] root 0).1).ps key then (((lastN (wayG S key 41 [] root 0).1).ps.getD (findN (lastN (wayG S key 41 [] root 0).1).ps key) ⟨⟨#[]⟩,⟨#[]⟩⟩).v,true,0) else (⟨#[]⟩,false,0))
 else (⟨#[]⟩,false,(wayG S key 41 [] root 0).2.1)
def dropL(S:Sw)(l:List Int):Sw:=l.foldl Sw.drop S
def dropE(S:Sw)(root:Int):Int:=(over S root ⟨#[]⟩ ⟨#[]⟩).1
def dropT(S:Sw)(root:Int):Sw:=if dropE S root=0 then dropL S (over S root ⟨#[]⟩ ⟨#[]⟩).2.pages else S
def insAt{α:Type}(l:List α)(i:Nat)(x:α):List α:=l.take i++x::l.drop i
def Nd.without(n:Nd):Bool:=n.ps.length==0&&n.kd.length==0
def Nd.lose(n:Nd)(kid:Nat):Nd:={ n with kd:=n.kd.eraseIdx kid,ks:=if n.ks.length=0 then n.ks else n.ks.eraseIdx (kid - 1) }
structure Cg where
 S:Sw
 k:Nat
 ws:List (Int × Nd)
 tk:List Int
 sp:List Int
def Cg.takeZ(C:Cg):Int × Int:=if C.sp.length=0 then C.S.takeE else (C.sp.getD (C.sp.length - 1) 0,0)
def Cg.take(C:Cg):Cg:=if C.sp.length=0 then { C with S:=C.S.take (fillB 0),tk:=if C.S.takeE.2=0 then C.tk++[C.S.takeE.1] else C.tk } else { C with sp:=C.sp.take (C.sp.length - 1) }
def Cg.write(C:Cg)(z:Int)(n:Nd):Cg:={ C with ws:=C.ws++[(z,n)] }
def Cg.split(C:Cg)(z:Int)(n:Nd):Cg:=if C.takeZ.2=0 then (C.take.write z n.fst).write C.takeZ.1 n.snd else C.take
def Cg.splitAb(C:Cg)(kid:Nat)(n nab:Nd):Nd:=if C.takeZ.2=0 then { nab with ks:=insAt nab.ks kid n.mid,kd:=insAt nab.kd (kid+1) C.takeZ.1 } else nab
def Cg.raiseZ(C:Cg):Int × Int:=if C.takeZ.2=0 then (if C.take.takeZ.2=0 then (C.takeZ.1,0) else (0,C.take.takeZ.2)) else (0,C.takeZ.2)
def Cg.raise(C:Cg)(z:Int)(n:Nd):Cg:=if C.takeZ.2=0 then (if C.take.takeZ.2=0 then (C.take.split z n).write C.takeZ.1 (C.take.splitAb 0 n ⟨false,[],[],[z]⟩) else C.take.split z n) else C.take
def Cg.rootZ(C:Cg)(pg:Int)(n:Nd):Int × Int:=if n.without then (0,0) else if n.kd.length=1 then (n.kd.getD 0 0,0) else if 256<n.size then C.raiseZ else (pg,0)
def Cg.root(C:Cg)(pg:Int)(n:Nd):Cg:=if n.without then { C with sp:=C.sp++[pg] } else if n.kd.length=1 then { C with sp:=C.sp++[pg] } else if 256<n.size then C.raise pg n else C.write pg n
def Cg.leafW(C:Cg)(root:Int)(key:ByteArray):List Sp:=if root=0 then [⟨C.takeZ.1,⟨true,[],[],[]⟩,0,0⟩] else (wayG C.S key 41 [] root C.k).1
def Cg.leafE(C:Cg)(root:Int)(key:ByteArray):Int:=if root=0 then C.takeZ.2 else (wayG C.S key 41 [] root C.k).2.1
def Cg.leaf(C:Cg)(root:Int)(key:ByteArray):Cg:=if root=0 then C.take else { C with k:=(wayG C.S key 41 [] root C.k).2.2 }
def coZ(kid bt:Nat)(nab:Nd):Int:=if bt=kid then nab.kd.getD (bt+1) 0 else nab.kd.getD bt 0
def Cg.coE(C:Cg)(z:Int):Int:=trE C.S C.k z 1
def Cg.coN(C:Cg)(z:Int):Nd:=trN C.S C.k z 1
def Cg.co(C:Cg)(z:Int):Cg:={ C with k:=trK C.S C.k z }
def Cg.coJ(C:Cg)(kid bt:Nat)(n nab:Nd):Nd:=if bt=kid then n.join (C.coN (coZ kid bt nab)) (nab.ks.getD bt ⟨#[]⟩) else (C.coN (coZ kid bt nab)).join n (nab.ks.getD bt ⟨#[]⟩)
structure Gr where
 C:Cg
 ab:Nd
 go:Bool
 e:Int
def bts(kid:Nat)(nab:Nd):List Nat:=(if 0<kid/\kid - 1<nab.ks.length then [kid - 1] else [])++(if kid<nab.ks.length then [kid] else [])
def Cg.gathF(C:Cg)(z:Int)(n nab:Nd):Option (Nat × Nd)->Gr
 | some g=>if n.kd.length=1 then ⟨(C.write (nab.kd.getD g.1 0) g.2.fst).write (nab.kd.getD (g.1+1) 0) g.2.snd,{ nab with ks:=nab.ks.set g.1 g.2.mid },true,0⟩ else ⟨C.write z n,nab,false,0⟩
 | none=>⟨C.write z n,nab,false,0⟩
def gathG (z : Int) (n nab : Nd) (kid : Nat) : List Nat → Option (Nat × Nd) → Cg → Gr
  | [], g, C => C.gathF z n nab g
  | bt :: r, g, C => if C.coE (coZ kid bt nab) = 0 then
      (if (C.coN (coZ kid bt nab)).leaf = n.leaf then
        (if (C.coJ kid bt n nab).writeE = 0 then ⟨{ (C.co (coZ kid bt nab)).write (nab.kd.getD bt 0) (C.coJ kid bt n nab) with sp := C.sp ++ [nab.kd.getD (bt + 1) 0] }, nab.lose (bt + 1), true, 0⟩
         else gathG z n nab kid r (g.or (some (bt, C.coJ kid bt n nab))) (C.co (coZ kid bt nab)))
       else gathG z n nab kid r g (C.co (coZ kid bt nab)))
    else ⟨C.co (coZ kid bt nab), nab, false, C.coE (coZ kid bt nab)⟩
def Cg.gather(C:Cg)(z:Int)(n:Nd)(kid:Nat)(nab:Nd):Gr:=gathG z n nab kid (bts kid nab) none C
def Cg.below(C:Cg)(s:Sp)(kid:Nat)(nab:Nd):Gr :=
 if s.nd.without then ⟨{ C with sp:=C.sp++[s.page] },nab.lose kid,true,0⟩
 else if 256<s.nd.size then ⟨C.split s.page s.nd,C.splitAb kid s.nd nab,true,C.takeZ.2⟩
 else if s.nd.size<128/\s.nd.size<s.was then C.gather s.page s.nd kid nab
 else ⟨C.write s.page s.nd,nab,false,0⟩
def Cg.down(C:Cg):Sp->List Sp->Gr
 | a,[]=>⟨C,a.nd,true,0⟩
 | a,b::l=>if (C.down b l).e=0 then (if (C.down b l).go then (C.down b l).C.below { b with nd:=(C.down b l).ab } a.kid a.nd else ⟨(C.down b l).C,a.nd,false,0⟩) else ⟨(C.down b l).C,a.nd,false,(C.down b l).e⟩
def Cg.settle(C:Cg):List Sp->Cg × Int × Int
 | []=>(C,0,0)
 | a::l=>if (C.down a l).e=0 then (if (C.down a l).go then ((C.down a l).C.root a.page (C.down a l).ab,(C.down a l).C.rootZ a.page (C.down a l).ab) else ((C.down a l).C,a.page,0)) else ((C.down a l).C,0,(C.down a l).e)
def Cg.tangled(C:Cg):Bool:=C.ws.any (fun p=>p.2.kd.any (fun k=>C.sp.contains k))||!decide (C.sp++C.ws.map Prod.fst).Nodup
def Cg.commitE(C:Cg):Int:=if C.tangled then 10 else if C.ws.all (fun p=>p.2.writeE==0) then 0 else 10
def AT(S:Sw)(l:List (Int × Nd)):Sw:=l.foldl (fun S p=>S.write p.1 p.2.write) S
def Cg.commitS(C:Cg):Sw:=if C.commitE=0 then dropL (AT C.S C.ws) C.sp else C.S
def Cg.putE(C:Cg)(way:List Sp):Int:=if (C.settle way).2.2=0 then (C.settle way).1.commitE else (C.settle way).2.2
def Cg.putS(C:Cg)(way:List Sp):Sw:=if C.putE way=0 then (C.settle way).1.commitS else dropL (C.settle way).1.S (C.settle way).1.tk
def Cg.putZ(C:Cg)(root:Int)(way:List Sp):Int:=if C.putE way=0 then (C.settle way).2.1 else root
def setLast(g:Nd->Nd):List Sp->List Sp
 | []=>[]
 | [a]=>[{ a with nd:=g a.nd }]
 | a::b::l=>a::setLast g (b::l)
def cg0(S:Sw):Cg:=⟨S,0,[],[],[]⟩
def argE(key val:ByteArray):Bool:=decide (key.size<1\/32<key.size\/40<val.size)
def putTE(S:Sw)(root:Int)(key val:ByteArray):Int:=if argE key val then 1 else if (cg0 S).leafE root key=0 then ((cg0 S).leaf root key).putE (setLast (fun n=>n.put key val) ((cg0 S).leafW root key)) else (cg0 S).leafE root key
def putTZ(S:Sw)(root:Int)(key val:ByteArray):Int:=if argE key val then root else if (cg0 S).leafE root key=0 then ((cg0 S).leaf root key).putZ root (setLast (fun n=>n.put key val) ((cg0 S).leafW root key)) else root
def putTS(S:Sw)(root:Int)(key val:ByteArray):Sw:=if argE key val then S else if (cg0 S).leafE root key=0 then ((cg0 S).leaf root key).putS (setLast (fun n=>n.put key val) ((cg0 S).leafW root key)) else ((cg0 S).leaf root key).S
def delQ(S:Sw)(root:Int)(key:ByteArray):Bool:=decide (root≠0)&&(decide ((wayG S key 41 [] root 0).2.1=0)&&hasN (lastN (wayG S key 41 [] root 0).1).ps key)
def delC(S:Sw)(root:Int)(key:ByteArray):Cg:={ cg0 S with k:=(wayG S key 41 [] root 0).2.2 }
def delW(S:Sw)(root:Int)(key:ByteArray):List Sp:=setLast (fun n=>n.cut key) (wayG S key 41 [] root 0).1
def delTE(S:Sw)(root:Int)(key:ByteArray):Int:=if root=0 then 0 else if (wayG S key 41 [] root 0).2.1=0 then (if hasN (lastN (wayG S key 41 [] root 0).1).ps key then (delC S root key).putE (delW S root key) else 0) else (wayG S key 41 [] root 0).2.1
def delTB(S:Sw)(root:Int)(key:ByteArray):Bool:=delQ S root key&&decide (delTE S root key=0)
def delTZ(S:Sw)(root:Int)(key:ByteArray):Int:=if delQ S root key then (delC S root key).putZ root (delW S root key) else root
def delTS(S:Sw)(root:Int)(key:ByteArray):Sw:=if delQ S root key then (delC S root key).putS (delW S root key) else S
def Rng(l:List Pr)(lo hi:ByteArray):Prop:=l≠[]/\Asc l/\∀p∈l,inB p.k lo hi=true
theorem Rng.lt{l:List Pr}{lo hi:ByteArray}(h:Rng l lo hi):hi.size=0\/lessB lo hi=true:=by
 obtain⟨h1,h2,h3⟩:=h;cases l with
 | nil=>exact absurd rfl h1
 | cons p l =>
  have:=Ay.1 (h3 p List.mem_cons_self);rcases this.2 with e|e
  ·exact .inl e
  ·exact .inr (OU this.1 e)
theorem AE{k:ByteArray}(h:okKey k=true):1<=k.size/\k.size<=32:=of_decide_eq_true h
theorem BW{α:Type}{P:α->ByteArray->ByteArray->Prop}(Q:α->List Pr)(hP:∀t a b,P t a b->Rng (Q t) a b):∀(ks:List ByteArray) (ts:List α) (lo hi:ByteArray),(∀k∈ks,okKey k=true)->AD P ks ts lo hi ->
  Rng (ts.flatMap Q) lo hi/\ks.Pairwise (fun a b=>lessB a b=true)/\∀k∈ks,lessB lo k=true/\(hi.size=0\/lessB k hi=true)
 | [],[t],lo,hi,_,h=>⟨by simpa using hP t lo hi h,List.Pairwise.nil,fun k hk=>by cases hk⟩
 | k::ks,t::ts,lo,hi,hk,h=>by
  have hs:=AE (hk k List.mem_cons_self)
  obtain⟨⟨i1,i2,i3⟩,i4,i5⟩:=BW Q hP ks ts k hi (fun x hx=>hk x (List.mem_cons_of_mem _ hx)) h.2
  have ht:=hP t lo k h.1
  have hlk:lessB lo k=true:=by rcases ht.lt with e|e;omega;exact e
  have hkh:=Rng.lt (l:=ts.flatMap Q) ⟨i1,i2,i3⟩
  have hU:leU k hi:=by
   rcases hkh with e|e
   ·exact .inl e
   ·exact .inr ⟨by omega,AW e⟩
  refine⟨⟨?_,?_,?_⟩,?_,?_⟩
  ·rw[List.flatMap_cons];exact fun e=>ht.1 (List.append_eq_nil_iff.1 e).1
  ·rw[List.flatMap_cons];refine List.pairwise_append.2 ⟨ht.2.1,i2,fun p hp q hq=>?_⟩;have h1:=Ay.1 (ht.2.2 p hp);have h2:=Ay.1 (i3 q hq);rcases h1.2 with e|e
   ·omega
   ·exact CN e h2.1
  ·intro p hp;rw[List.flatMap_cons]at hp;rcases List.mem_append.1 hp with e|e
   ·exact CP (ht.2.2 p e) (Az lo) hU
   ·exact CP (i3 p e) (AW hlk) (DT hi)
  ·exact List.Pairwise.cons (fun x hx=>(i5 x hx).1) i4
  ·intro x hx;rcases List.mem_cons.1 hx with e|e
   ·rw[e];exact⟨hlk,hkh⟩
   ·exact⟨AP hlk (i5 x e).1,(i5 x e).2⟩
 | [],[],_,_,_,h=>h.elim
 | _::_,[],_,_,_,h=>h.elim
 | [],_::_::_,_,_,_,h=>h.elim
theorem B6:∀(d:Nat) (t:Int × Fo d) (a b:ByteArray),tOk d t a b->Rng (fprs d t.2) a b
 | 0,t,a,b,h=>⟨h.2.1,h.2.2.2.2,fun p hp=>(h.2.2.2.1 p hp).2.2⟩
 | d+1,t,a,b,h=>(BW (fun (t:Int × Fo d)=>fprs d t.2) (fun t x y ht=>B6 d t x y ht) _ _ a b h.2.2.2.1 h.2.2.2.2).1
theorem D9{α:Type}{P:α->ByteArray->ByteArray->Prop}{R:α->Prop}(hP:∀t a b,P t a b->R t):∀(ks:List ByteArray) (ts:List α) (lo hi:ByteArray),AD P ks ts lo hi->∀t∈ts,R t
 | [],[t],lo,hi,h=>fun s hs=>by rw[List.mem_singleton.1 hs];exact hP t lo hi h
 | k::ks,t::ts,lo,hi,h=>fun s hs=>by
  rcases List.mem_cons.1 hs with e|e
  ·rw[e];exact hP t lo k h.1
  ·exact D9 hP ks ts k hi h.2 s e
 | [],[],_,_,h=>h.elim
 | _::_,[],_,_,h=>h.elim
 | [],_::_::_,_,_,h=>h.elim
theorem KO{l:List ByteArray}(h1:∀k∈l,okKey k=true)(h2:l.Pairwise (fun a b=>lessB a b=true)):ordN l=true:=by
 unfold ordN;rw[Bool.and_eq_true,List.all_eq_true];exact⟨h1,BX _ h2⟩
theorem AJ:∀(d:Nat) (f:Fo d) (a b:ByteArray),fOk d f a b->(fnd d f).right=true
 | 0,f,a,b,h=>Cd (fun p hp=>(h.1 p hp).2.1) (KO (fun k hk=>by obtain⟨p,hp,rfl⟩:=List.mem_map.1 hk;exact(h.1 p hp).1) (List.pairwise_map.2 h.2))
 | d+1,f,a,b,h=>BR (fun z hz=>by obtain⟨t,ht,rfl⟩:=List.mem_map.1 hz;exact D9 (R:=fun (t:Int × Fo d)=>1<=t.1/\t.1<=65535) (fun t x y e=>e.1) _ _ _ _ h.2 t ht) (by rw[List.length_map];exact A0 _ _ _ _ h.2) (KO h.1 (BW (fun (t:Int × Fo d)=>fprs d t.2) (fun t x y ht=>B6 d t x y ht) _ _ a b h.1 h.2).2.1)
theorem EI(x:ByteArray)(ks:List ByteArray)(k:ByteArray):An (x::ks) k=(if lessB k x then 0 else 1)+An ks k:=by
 unfold An;cases h:lessB k x<;>simp[h,Nat.add_comm]
theorem CV{ks:List ByteArray}{k:ByteArray}(h:∀x∈ks,lessB k x=true):An ks k=0:=by
 unfold An;rw[List.filter_eq_nil_iff.2 (fun x hx=>by rw[h x hx];simp)];rfl
theorem GI{α:Type}{P:α->ByteArray->ByteArray->Prop}(Q:α->List Pr)(hP:∀t a b,P t a b->Rng (Q t) a b)(key:ByteArray):∀(ks:List ByteArray) (ts:List α) (lo hi:ByteArray),(∀k∈ks,okKey k=true)->AD P ks ts lo hi->inB key lo hi=true ->
  ∃A s B,ts=A++[s]++B/\A.length=An ks key/\inB key (lowB ks lo A.length) (ks.getD A.length hi)=true/\(∀p∈A.flatMap Q,lessB p.k key=true)/\∀p∈B.flatMap Q,lessB key p.k=true
 | [],[t],lo,hi,_,h,hi'=>⟨[],t,[],rfl,rfl,hi',(fun p hp=>by cases hp),(fun p hp=>by cases hp)⟩
 | k::ks,t::ts,lo,hi,hk,h,hb=>by
  have hk':=fun x hx=>hk x (List.mem_cons_of_mem k hx)
  have hs:=AE (hk k List.mem_cons_self)
  have hall:=BW Q hP (k::ks) (t::ts) lo hi hk h
  have hr:=BW Q hP ks ts k hi hk' h.2
  cases hlt:lessB key k with
  | true =>
   refine⟨[],t,ts,rfl,?_,?_,(fun p hp=>by cases hp),fun p hp=>?_⟩
   ·rw[CV (fun x hx=>?_)];rfl
    rcases List.mem_cons.1 hx with e|e
    ·rw[e];exact hlt
    ·exact AP hlt ((List.pairwise_cons.1 hall.2.1).1 x e)
   ·show inB key lo k=true
    exact Ay.2 ⟨(Ay.1 hb).1,.inr hlt⟩
   ·exact CN hlt (Ay.1 (hr.1.2.2 p hp)).1
  | false =>
   obtain⟨A,s,B,e,hl,hin,hA,hB⟩:=GI Q hP key ks ts k hi hk' h.2 (Ay.2 ⟨hlt,(Ay.1 hb).2⟩)
   refine⟨t::A,s,B,by rw[e];rfl,?_,?_,fun p hp=>?_,hB⟩
   ·rw[EI,hlt,List.length_cons,hl];simp[Nat.add_comm]
   ·have e1:lowB (k::ks) lo (t::A).length=lowB ks k A.length:=by
     unfold lowB;rw[if_neg (by simp)];by_cases h0:A.length=0
     ·rw[if_pos h0,List.length_cons,h0];rfl
     ·obtain⟨n,hn⟩:=Nat.exists_eq_succ_of_ne_zero h0;rw[if_neg h0,List.length_cons,hn];rfl
    rw[e1];exact hin
   ·rw[List.flatMap_cons]at hp;rcases List.mem_append.1 hp with e|e
    ·have h1:=Ay.1 ((hP t lo k h.1).2.2 p e);rcases h1.2 with e|e
     ·omega
     ·exact CN e hlt
    ·exact hA p e
 | [],[],_,_,_,h,_=>h.elim
 | _::_,[],_,_,_,h,_=>h.elim
 | [],_::_::_,_,_,_,h,_=>h.elim
def putL(l:List Pr)(k v:ByteArray):List Pr:=l.take (findN l k)++[⟨k,v⟩]++l.drop (behind l k)
def cutP(l:List Pr)(k:ByteArray):List Pr:=l.take (findN l k)++l.drop (behind l k)
def getL(l:List Pr)(k:ByteArray):ByteArray:=(l.getD (findN l k) ⟨⟨#[]⟩,⟨#[]⟩⟩).v
theorem Ct(A M B:List Pr)(k:ByteArray)(hA:∀p∈A,lessB p.k k=true)(hB:∀p∈B,lessB k p.k=true):findN (A++M++B) k=A.length+findN M k:=by
 have hb:B.filter (fun p=>lessB p.k k)=[]:=List.filter_eq_nil_iff.2 (fun p hp=>by rw[AW (hB p hp)];simp);unfold findN;rw[List.filter_append,List.filter_append,List.filter_eq_self.2 hA,hb,List.append_nil,List.length_append]
theorem D7(A M B:List Pr)(k:ByteArray)(hA:∀p∈A,lessB p.k k=true)(hB:∀p∈B,lessB k p.k=true):hasN (A++M++B) k=hasN M k:=by
 unfold hasN;rw[Ct A M B k hA hB,List.append_assoc,List.getElem?_append_right (by omega),Nat.add_sub_cancel_left];by_cases h:findN M k<M.length
 ·rw[List.getElem?_append_left h]
 ·have e:findN M k=M.length:=by have:=Bl M k;omega
  rw[e,List.getElem?_append_right (Nat.le_refl _),Nat.sub_self,List.getElem?_eq_none (Nat.le_refl _)];cases B with
  | nil=>rfl
  | cons p B =>
   have:=hB p List.mem_cons_self;simp only[List.getElem?_cons_zero];exact decide_eq_false (fun e=>by rw[e,Az]at this;cases this)
theorem Fv(A M B:List Pr)(k:ByteArray)(hA:∀p∈A,lessB p.k k=true)(hB:∀p∈B,lessB k p.k=true):behind (A++M++B) k=A.length+behind M k:=by
 unfold behind;rw[D7 A M B k hA hB,Ct A M B k hA hB];split<;>omega
theorem CR{α:Type}(A M B:List α)(i:Nat)(h:i<=M.length):(A++M++B).take (A.length+i)=A++M.take i:=by
 rw[List.append_assoc,List.take_append,List.take_of_length_le (by omega),Nat.add_sub_cancel_left,List.take_append_of_le_length h]
theorem CZ{α:Type}(A M B:List α)(i:Nat)(h:i<=M.length):(A++M++B).drop (A.length+i)=M.drop i++B:=by
 rw[List.append_assoc,List.drop_append,List.drop_eq_nil_of_le (by omega),Nat.add_sub_cancel_left,List.drop_append_of_le_length h,List.nil_append]
theorem MB(A M B:List Pr)(k v:ByteArray)(hA:∀p∈A,lessB p.k k=true)(hB:∀p∈B,lessB k p.k=true):putL (A++M++B) k v=A++putL M k v++B:=by
 unfold putL;rw[Ct A M B k hA hB,Fv A M B k hA hB,CR _ _ _ _ (Bl M k),CZ _ _ _ _ (Ch M k)];simp only[List.append_assoc]
theorem IB(A M B:List Pr)(k:ByteArray)(hA:∀p∈A,lessB p.k k=true)(hB:∀p∈B,lessB k p.k=true):cutP (A++M++B) k=A++cutP M k++B:=by
 unfold cutP;rw[Ct A M B k hA hB,Fv A M B k hA hB,CR _ _ _ _ (Bl M k),CZ _ _ _ _ (Ch M k)];simp only[List.append_assoc]
theorem MY(A M B:List Pr)(k:ByteArray)(hA:∀p∈A,lessB p.k k=true)(hB:∀p∈B,lessB k p.k=true)(h:hasN M k=true):getL (A++M++B) k=getL M k:=by
 unfold getL;rw[Ct A M B k hA hB,List.getD_eq_getElem?_getD,List.getD_eq_getElem?_getD,List.append_assoc,List.getElem?_append_right (by omega),Nat.add_sub_cancel_left,List.getElem?_append_left (Ks h)]
theorem Eu(l:List Pr)(h:Asc l)(k:ByteArray):∃A C,l.take (findN l k)=A/\l.drop (behind l k)=C/\(∀p∈A,p∈l/\lessB p.k k=true)/\(∀p∈C,p∈l/\lessB k p.k=true)/\Asc (A++C):=by
 obtain⟨A,C,e,hA,hC⟩:=Nz l h k;have hf:=DX A C k hA hC;have hh:=OD A C k hA hC;refine⟨A,l.drop (behind l k),by rw[e,hf,List.take_left],rfl,fun p hp=>⟨by rw[e];exact List.mem_append_left _ hp,hA p hp⟩,fun p hp=>⟨List.mem_of_mem_drop hp,?_⟩,?_⟩
 ·have hasc:=h;rw[e]at hasc;have h2:=(List.pairwise_append.1 hasc).2.1;unfold behind at hp;rw[e,hf]at hp;cases C with
  | nil =>
   have hh':hasN (A++[]) k=false:=hh;rw[hh']at hp;simp at hp
  | cons c C =>
   have hh':hasN (A++c::C) k=decide (c.k=k):=hh;rw[hh']at hp;have h3:=(List.pairwise_cons.1 h2).1;by_cases hc:c.k=k
   ·rw[show (decide (c.k=k))=true from decide_eq_true hc,if_pos rfl]at hp;have:p∈C:=by simpa using hp
    have:=h3 p this;rw[hc]at this;exact this
   ·rw[show (decide (c.k=k))=false from decide_eq_false hc,if_neg (by simp)]at hp;have hm:p∈c::C:=by simpa using hp
    have hck:lessB k c.k=true:=by
     cases hx:lessB k c.k with
     | true=>rfl
     | false=>exact absurd (Br (hC c List.mem_cons_self) hx) hc
    rcases List.mem_cons.1 hm with e|e
    ·rw[e];exact hck
    ·exact AP hck (h3 p e)
 ·have:(A++l.drop (behind l k)).Sublist l:=by
   have e1:A=l.take (findN l k):=by rw[e,hf,List.take_left]
   have h4:findN l k<=behind l k:=by unfold behind;split<;>omega
   have e2:l.drop (behind l k)=(l.drop (findN l k)).drop (behind l k - findN l k):=by rw[List.drop_drop,show findN l k+(behind l k - findN l k)=behind l k by omega]
   have e3:(l.take (findN l k)++(l.drop (findN l k)).drop (behind l k - findN l k)).Sublist (l.take (findN l k)++l.drop (findN l k)):=(List.Sublist.refl _).append (List.drop_sublist _ _);rw[List.take_append_drop]at e3;rw[e1,e2];exact e3
  exact List.Pairwise.sublist this h
theorem JE{l:List Pr}{lo hi k v:ByteArray}(h:Bw l lo hi)(hk:okKey k=true)(hv:v.size<=40)(hb:inB k lo hi=true):Bw (putL l k v) lo hi:=by
 obtain⟨A,C,e1,e2,hA,hC,hasc⟩:=Eu l h.2 k;unfold putL;rw[e1,e2];refine⟨fun p hp=>?_,?_⟩
 ·rcases List.mem_append.1 hp with e|e
  ·rcases List.mem_append.1 e with e|e
   ·exact h.1 p (hA p e).1
   ·rw[List.mem_singleton.1 e];exact⟨hk,hv,hb⟩
  ·exact h.1 p (hC p e).1
 ·obtain⟨a1,a2,a3⟩:=List.pairwise_append.1 hasc;refine List.pairwise_append.2 ⟨List.pairwise_append.2 ⟨a1,List.pairwise_singleton _ _,fun p hp q hq=>by rw[List.mem_singleton.1 hq];exact(hA p hp).2⟩,a2,fun p hp q hq=>?_⟩;rcases List.mem_append.1 hp with e|e
  ·exact a3 p e q hq
  ·rw[List.mem_singleton.1 e];exact(hC q hq).2
theorem Jw{l:List Pr}{lo hi k:ByteArray}(h:Bw l lo hi):Bw (cutP l k) lo hi:=by
 obtain⟨A,C,e1,e2,hA,hC,hasc⟩:=Eu l h.2 k;unfold cutP;rw[e1,e2];refine⟨fun p hp=>?_,hasc⟩;rcases List.mem_append.1 hp with e|e
 ·exact h.1 p (hA p e).1
 ·exact h.1 p (hC p e).1
theorem Lt(l:List Pr)(h:Asc l)(k v:ByteArray)(hk:k.size<=32)(hv:v.size<=40):((putL l k v).map Pr.size).sum<=(l.map Pr.size).sum+74/\putL l k v≠[]:=by
 have h4:findN l k<=behind l k:=by unfold behind;split<;>omega
 have e1:=At Pr.size l (findN l k);have e2:=At Pr.size (l.drop (findN l k)) (behind l k - findN l k);rw[List.drop_drop,show findN l k+(behind l k - findN l k)=behind l k by omega]at e2;unfold putL;refine⟨?_,by simp⟩;simp only[List.map_append,List.sum_append,List.map_cons,List.map_nil,List.sum_cons,List.sum_nil];have:(⟨k,v⟩:Pr).size<=74:=by show 2+k.size+v.size<=74;omega
 omega
theorem Lg(l:List Pr)(k:ByteArray):((cutP l k).map Pr.size).sum<=(l.map Pr.size).sum:=by
 have h4:findN l k<=behind l k:=by unfold behind;split<;>omega
 have e1:=At Pr.size l (findN l k);have e2:=At Pr.size (l.drop (findN l k)) (behind l k - findN l k);rw[List.drop_drop,show findN l k+(behind l k - findN l k)=behind l k by omega]at e2;unfold cutP;simp only[List.map_append,List.sum_append];omega
def fjoin:(d:Nat)->Fo d->Fo d->ByteArray->Fo d
 | 0,x,y,_=>List.append (α:=Pr) x y
 | _+1,x,y,k=>(x.1++[k]++y.1,x.2++y.2)
theorem Ob:∀(d:Nat) (x y:Fo d) (k:ByteArray),fnd d (fjoin d x y k)=(fnd d x).join (fnd d y) k
 | 0,x,y,k=>rfl
 | d+1,x,y,k=>by
  show (⟨false,[],x.1++[k]++y.1,(x.2++y.2).map Prod.fst⟩:Nd)=_
  rw[List.map_append]
  rfl
theorem FB:∀(d:Nat) (x y:Fo d) (k lo hi:ByteArray),fOk d x lo k->fOk d y k hi->okKey k=true->lessB lo k=true->(hi.size=0\/lessB k hi=true)->fOk d (fjoin d x y k) lo hi
 | 0,x,y,k,lo,hi,hx,hy,hk,h1,h2=>by
  have hs:=AE hk
  have hU:leU k hi:=by rcases h2 with e|e;exact .inl e;exact .inr ⟨by omega,AW e⟩
  have hx':Bw x lo k:=hx
  have hy':Bw y k hi:=hy
  show Bw (List.append (α:=Pr) x y) lo hi
  refine⟨fun p hp=>?_,List.pairwise_append.2 ⟨hx'.2,hy'.2,fun p hp q hq=>?_⟩⟩
  ·rcases List.mem_append.1 hp with e|e
   ·have:=hx'.1 p e
    exact⟨this.1,this.2.1,CP this.2.2 (Az lo) hU⟩
   ·have:=hy'.1 p e
    exact⟨this.1,this.2.1,CP this.2.2 (AW h1) (DT hi)⟩
  ·have a:=Ay.1 (hx'.1 p hp).2.2
   have b:=Ay.1 (hy'.1 q hq).2.2
   rcases a.2 with e|e
   ·omega
   ·exact CN e b.1
 | d+1,x,y,k,lo,hi,hx,hy,hk,h1,h2=>by
  refine⟨fun j hj=>?_,?_⟩
  ·rcases List.mem_append.1 hj with e|e
   ·rcases List.mem_append.1 e with e|e
    ·exact hx.1 j e
    ·rw[List.mem_singleton.1 e];exact hk
   ·exact hy.1 j e
  ·show AD (tOk d) (x.1++[k]++y.1) (x.2++y.2) lo hi
   rw[List.append_assoc]
   exact D8 _ _ _ _ _ _ _ hx.2 hy.2
theorem Gc:∀(d:Nat) (x y:Fo d) (k:ByteArray),fpgs d (fjoin d x y k)=fpgs d x++fpgs d y
 | 0,x,y,k=>rfl
 | d+1,x,y,k=>List.flatMap_append
theorem Gb:∀(d:Nat) (x y:Fo d) (k:ByteArray),fprs d (fjoin d x y k)=fprs d x++fprs d y
 | 0,x,y,k=>rfl
 | d+1,x,y,k=>List.flatMap_append
theorem IK{V:Int->Option Nd}:∀(d:Nat) (x y:Fo d) (k:ByteArray),fIn V d x->fIn V d y->fIn V d (fjoin d x y k)
 | 0,x,y,k,_,_=>trivial
 | d+1,x,y,k,hx,hy=>fun t ht=>by
  rcases List.mem_append.1 ht with e|e
  ·exact hx t e
  ·exact hy t e
theorem MO:∀(d:Nat) (x y:Fo d) (k:ByteArray),fne d x\/fne d y->fne d (fjoin d x y k)
 | 0,x,y,k,h=>fun e=>by
  have e':=List.append_eq_nil_iff.1 (show (List.append (α:=Pr) x y)=[] from e)
  rcases h with h|h
  ·exact h e'.1
  ·exact h e'.2
 | d+1,x,y,k,h=>fun e=>by simp[fjoin]at e
theorem Jn(d:Nat)(x y:Fo (d+1))(k:ByteArray):(fnd (d+1) (fjoin (d+1) x y k)).size+4=(fnd (d+1) x).size+(fnd (d+1) y).size+kSize k:=by
 show 4+((x.1++[k]++y.1).map kSize).sum+4=4+(x.1.map kSize).sum+(4+(y.1.map kSize).sum)+kSize k;simp only[List.map_append,List.sum_append,List.map_cons,List.map_nil,List.sum_cons,List.sum_nil];omega
theorem JR{α:Type}(f:α->Nat)(M:Nat):∀(l:List α),(∀x∈l,f x<=M)->(l.map f).sum<=M*l.length
 | [],_=>by simp
 | x::l,h=>by
  have:=JR f M l (fun y hy=>h y (List.mem_cons_of_mem _ hy))
  have h0:=h x List.mem_cons_self
  simp only[List.map_cons,List.sum_cons,List.length_cons]
  rw[Nat.mul_add]
  omega
theorem MH{ps:List Pr}{lo hi:ByteArray}(h:Bw ps lo hi):(ps.map Pr.size).sum<=74*ps.length:=JR _ _ _ (fun p hp=>by
 have:=h.1 p hp
 have:=AE this.1
 show 2+p.k.size+p.v.size<=74
 omega)
theorem ND{ks:List ByteArray}(h:∀k∈ks,okKey k=true):(ks.map kSize).sum<=35*ks.length:=JR _ _ _ (fun k hk=>by
 have:=AE (h k hk)
 show 3+k.size<=35
 omega)
theorem Ph(f:List Pr)(lo hi:ByteArray)(h:fOk 0 f lo hi)(hs:256<(fnd 0 f).size)(hs':(fnd 0 f).size<=330) :
  ∃f1 f2:List Pr,(fnd 0 f).fst=fnd 0 f1/\(fnd 0 f).snd=fnd 0 f2/\fOk 0 f1 lo (fnd 0 f).mid/\fOk 0 f2 (fnd 0 f).mid hi/\fne 0 f1/\fne 0 f2/\(fnd 0 f1).size<=256/\(fnd 0 f2).size<=256/\okKey (fnd 0 f).mid=true/\fpgs 0 f=fpgs 0 f1++fpgs 0 f2/\fprs 0 f=fprs 0 f1++fprs 0 f2/\∀V,fIn V 0 f->fIn V 0 f1/\fIn V 0 f2:=by
 have hr:=AJ 0 f lo hi h;have hf:Bw f lo hi:=h;have hsum:=MH hf;have esz:(fnd 0 f).size=2+(List.map Pr.size f).sum:=rfl;have h2:2<=(fnd 0 f).ps.length:=by show 2<=List.length f;omega
 obtain⟨_,_,_,_,q1,q2,q3⟩:=JQ hr rfl h2;obtain⟨a1,a2,_,_⟩:=GX (n:=fnd 0 f) rfl h2;have hp:(fnd 0 f).parts=true:=by unfold Nd.parts;rw[show (fnd 0 f).leaf=true from rfl,if_pos rfl];exact decide_eq_true h2
 obtain⟨i,hi'⟩:∃i,i=(fnd 0 f).at_:=⟨_,rfl⟩;have e1:(fnd 0 f).fst=⟨true,List.take i f,[],[]⟩:=by unfold Nd.fst;rw[hp,if_pos rfl,show (fnd 0 f).leaf=true from rfl,if_pos rfl,<-hi'];rfl
 have e2:(fnd 0 f).snd=⟨true,List.drop i f,[],[]⟩:=by unfold Nd.snd;rw[hp,if_pos rfl,show (fnd 0 f).leaf=true from rfl,if_pos rfl,<-hi'];rfl
 have e3:(fnd 0 f).mid=(List.getD f i ⟨⟨#[]⟩,⟨#[]⟩⟩).k:=by unfold Nd.mid;rw[hp,if_pos rfl,show (fnd 0 f).leaf=true from rfl,if_pos rfl,<-hi'];rfl
 rw[<-hi']at a1 a2;have hil:i<List.length f:=a2;have hmid:okKey (fnd 0 f).mid=true/\inB (fnd 0 f).mid lo hi=true:=by
  rw[e3,List.getD_eq_getElem?_getD,List.getElem?_eq_getElem hil];have:=hf.1 _ (List.getElem_mem hil);exact⟨this.1,this.2.2⟩
 rw[e1]at q1;rw[e2]at q2;have hm:=Ay.1 hmid.2;refine⟨List.take i f,List.drop i f,e1,e2,?_,?_,?_,?_,?_,?_,hmid.1,rfl,?_,fun V _=>⟨trivial,trivial⟩⟩
 ·refine⟨fun p hp=>?_,List.Pairwise.sublist (List.take_sublist _ _) hf.2⟩;have:=hf.1 p (List.mem_of_mem_take hp);exact⟨this.1,this.2.1,Ay.2 ⟨(Ay.1 this.2.2).1,.inr (q1 p hp)⟩⟩
 ·refine⟨fun p hp=>?_,List.Pairwise.sublist (List.drop_sublist _ _) hf.2⟩;have:=hf.1 p (List.mem_of_mem_drop hp);exact⟨this.1,this.2.1,Ay.2 ⟨q2 p hp,(Ay.1 this.2.2).2⟩⟩
 ·intro e;have:(List.take i f).length=0:=by rw[show List.take i f=[] from e];rfl
  rw[List.length_take]at this;omega
 ·intro e;have:(List.drop i f).length=0:=by rw[show List.drop i f=[] from e];rfl
  rw[List.length_drop]at this;omega
 ·have:=(q3 hs').1;rw[e1]at this;exact this
 ·have:=(q3 hs').2;rw[e2]at this;exact this
 ·exact(List.take_append_drop i f).symm
theorem JN:∀(d:Nat) (f:Fo d) (lo hi:ByteArray),fOk d f lo hi->256<(fnd d f).size->(fnd d f).size<=330 ->
  ∃f1 f2,(fnd d f).fst=fnd d f1/\(fnd d f).snd=fnd d f2/\fOk d f1 lo (fnd d f).mid/\fOk d f2 (fnd d f).mid hi/\fne d f1/\fne d f2/\(fnd d f1).size<=256/\(fnd d f2).size<=256/\okKey (fnd d f).mid=true/\fpgs d f=fpgs d f1++fpgs d f2/\fprs d f=fprs d f1++fprs d f2/\∀V,fIn V d f->fIn V d f1/\fIn V d f2
 | 0,f,lo,hi,h,hs,hs'=>Ph f lo hi h hs hs'
 | d+1,f,lo,hi,h,hs,hs'=>by
  have hr:=AJ (d+1) f lo hi h
  have hlen:=A0 _ _ _ _ h.2
  have hsum:=ND h.1
  have esz:(fnd (d+1) f).size=4+(f.1.map kSize).sum:=rfl
  have h3:3<=(fnd (d+1) f).ks.length:=by show 3<=f.1.length;omega
  obtain⟨_,_,_,_,_,_,q3⟩:=Ii hr rfl h3
  obtain⟨a1,a2,_,_⟩:=FX (n:=fnd (d+1) f) rfl h3
  have hkd:(fnd (d+1) f).kd.length=(fnd (d+1) f).ks.length+1:=by show (f.2.map Prod.fst).length=_;rw[List.length_map];exact hlen
  have hp:(fnd (d+1) f).parts=true:=by unfold Nd.parts;rw[show (fnd (d+1) f).leaf=false from rfl,if_neg (by simp)];exact decide_eq_true ⟨h3,hkd⟩
  obtain⟨i,hi'⟩:∃i,i=(fnd (d+1) f).at_:=⟨_,rfl⟩
  have e1:(fnd (d+1) f).fst=fnd (d+1) (f.1.take i,f.2.take (i+1)):=by
   unfold Nd.fst;rw[hp,if_pos rfl,show (fnd (d+1) f).leaf=false from rfl,if_neg (by simp),<-hi'];show (⟨false,[],f.1.take i,(f.2.map Prod.fst).take (i+1)⟩:Nd)=⟨false,[],f.1.take i,(f.2.take (i+1)).map Prod.fst⟩;rw[List.map_take]
  have e2:(fnd (d+1) f).snd=fnd (d+1) (f.1.drop (i+1),f.2.drop (i+1)):=by
   unfold Nd.snd;rw[hp,if_pos rfl,show (fnd (d+1) f).leaf=false from rfl,if_neg (by simp),<-hi'];show (⟨false,[],f.1.drop (i+1),(f.2.map Prod.fst).drop (i+1)⟩:Nd)=⟨false,[],f.1.drop (i+1),(f.2.drop (i+1)).map Prod.fst⟩;rw[List.map_drop]
  rw[<-hi']at a1 a2;have hil:i+1<f.1.length:=a2;have hil':i<f.1.length:=by omega
  have e3:(fnd (d+1) f).mid=f.1.getD i hi:=by
   unfold Nd.mid;rw[hp,if_pos rfl,show (fnd (d+1) f).leaf=false from rfl,if_neg (by simp),<-hi'];show f.1.getD i _=_;rw[List.getD_eq_getElem?_getD,List.getD_eq_getElem?_getD,List.getElem?_eq_getElem hil'];rfl
  have hg:(f.2.take (i+1)).length=i+1:=by rw[List.length_take];omega
  obtain⟨k1,k2,_⟩:=CJ (f.2.take (i+1)) f.1 (f.2.drop (i+1)) lo hi (fun e=>by rw[e]at hg;simp at hg) (fun e=>by have:=List.length_drop (l:=f.2) (i:=i+1);rw[e]at this;simp at this;omega) (by rw[List.take_append_drop];exact h.2);rw[hg]at k1 k2;rw[show i+1 - 1=i by omega]at k1 k2;rw[<-e3]at k1 k2;refine⟨(f.1.take i,f.2.take (i+1)),(f.1.drop (i+1),f.2.drop (i+1)),e1,e2,⟨fun k hk=>h.1 k (List.mem_of_mem_take hk),k1⟩,⟨fun k hk=>h.1 k (List.mem_of_mem_drop hk),k2⟩,?_,?_,?_,?_,?_,?_,?_,?_⟩
  ·intro e;have:(f.1.take i).length=0:=by rw[show f.1.take i=[] from e];rfl
   rw[List.length_take]at this;omega
  ·intro e;have:(f.1.drop (i+1)).length=0:=by rw[show f.1.drop (i+1)=[] from e];rfl
   rw[List.length_drop]at this;omega
  ·have:=(q3 hs').1;rw[e1]at this;exact this
  ·have:=(q3 hs').2;rw[e2]at this;exact this
  ·rw[e3,List.getD_eq_getElem?_getD,List.getElem?_eq_getElem hil'];exact h.1 _ (List.getElem_mem hil')
  ·show f.2.flatMap _=(f.2.take (i+1)).flatMap _++(f.2.drop (i+1)).flatMap _;rw[<-List.flatMap_append,List.take_append_drop]
  ·show f.2.flatMap _=(f.2.take (i+1)).flatMap _++(f.2.drop (i+1)).flatMap _;rw[<-List.flatMap_append,List.take_append_drop]
  ·exact fun V hV=>⟨fun t ht=>hV t (List.mem_of_mem_take ht),fun t ht=>hV t (List.mem_of_mem_drop ht)⟩
def vS(S:Sw)(z:Int):Option Nd:=if ndE S z=0 then some (ndOf S z) else none
def Cg.at(C:Cg)(z:Int):Option Nd:=match C.ws.find? (fun p=>p.1==z) with
 | some p=>some p.2
 | none=>vS C.S z
theorem CB{S S':Sw}{z:Int}(h:S'.read z=S.read z):vS S' z=vS S z:=by
 unfold vS ndE ndOf;rw[h]
theorem at_new{C:Cg}{z:Int}{n:Nd}(h:∀p∈C.ws,p.1≠z):(C.write z n).at z=some n:=by
 unfold Cg.at Cg.write;have:C.ws.find? (fun p=>p.1==z)=none:=List.find?_eq_none.2 (fun p hp=>by simpa using h p hp);simp[List.find?_append,this]
theorem BG{C:Cg}{z y:Int}{n:Nd}(h:y≠z):(C.write z n).at y=C.at y:=by
 unfold Cg.at Cg.write;have:(((z,n):Int × Nd).1==y)=false:=by simpa using fun e:z=y=>h e.symm
 simp only[List.find?_append,List.find?_cons,List.find?_nil,this];cases C.ws.find? (fun p=>p.1==y)<;>rfl
theorem It{C:Cg}{y:Int}(h:∀p∈C.ws,p.1≠y):C.at y=vS C.S y:=by
 unfold Cg.at;rw[List.find?_eq_none.2 (fun p hp=>by simpa using h p hp)]
structure Ac (S:Sw) (n:Nat) (U:Nat->Bool) (C:Cg):Prop where
 ht:Tk C.S n (fun i=>U i||C.tk.contains (i:Int))
 fr:S.From C.S
 tk:∀z∈C.tk,0<z/\z<(n:Int)/\U z.toNat=false
 nd:C.tk.Nodup
 rd:∀i,0<i->i<n->U i=true->C.S.now.getD i ⟨#[]⟩=S.now.getD i ⟨#[]⟩
theorem Tk.read{S:Sw}{n:Nat}{U:Nat->Bool}(h:Tk S n U){z:Int}(h0:0<z)(h1:z<(n:Int))(hu:U z.toNat=true):S.read z=(S.now.getD z.toNat ⟨#[]⟩,0):=by
 have ht:Bk S.now z=true:=by
  unfold Bk;rw[h.len,h.us z.toNat (by omega) (by omega),hu];simp[h0,h1]
 unfold Sw.read;rw[h.ov,ht];rfl
theorem Ac.read{S:Sw}{n:Nat}{U:Nat->Bool}{C:Cg}(h:Ac S n U C)(hS:Tk S n U){z:Int}(h0:0<z)(h1:z<(n:Int))(hu:U z.toNat=true):C.S.read z=S.read z:=by
 rw[h.ht.read h0 h1 (by rw[hu];rfl),hS.read h0 h1 hu,h.rd z.toNat (by omega) (by omega) hu]
theorem Mg(l:List ByteArray):∀k n m,lowest l k n=some m->n<=m/\m<n+k/\isU l m=false/\∀i,n<=i->i<m->isU l i=true:=by
 intro k;induction k with
 | zero=>intro n m h;cases h
 | succ k ih =>
  intro n m h;unfold lowest at h;cases hu:isU l n with
  | true =>
   rw[hu,if_pos rfl]at h;obtain⟨h1,h2,h3,h4⟩:=ih (n+1) m h;refine⟨by omega,by omega,h3,fun i hi him=>?_⟩;by_cases e:i=n
   ·rw[e];exact hu
   ·exact h4 i (by omega) him
  | false =>
   rw[hu,if_neg (by simp)]at h;have:=Option.some.inj h;exact⟨by omega,by omega,by rw[<-this];exact hu,fun i hi him=>by omega⟩
theorem getD_set_ne{α:Type}(l:List α)(i j:Nat)(x d:α)(h:i≠j):(l.set i x).getD j d=l.getD j d:=by
 rw[List.getD_eq_getElem?_getD,List.getD_eq_getElem?_getD,List.getElem?_set,if_neg h]
theorem Ac.takeS{S:Sw}{n:Nat}{U:Nat->Bool}{C:Cg}(h:Ac S n U C) :
  (C.S.takeE.2=0/\(0<C.S.takeE.1/\C.S.takeE.1<(n:Int)/\U C.S.takeE.1.toNat=false)/\C.S.takeE.1 ∉ C.tk/\Ac S n U { C with S:=C.S.take (fillB 0),tk:=C.tk++[C.S.takeE.1] }/\∀i,0<i->i<n->(U i||C.tk.contains (i:Int))=true->(C.S.take (fillB 0)).now.getD i ⟨#[]⟩=C.S.now.getD i ⟨#[]⟩)
  \/ (C.S.takeE.2=8/\C.S.take (fillB 0)=C.S):=by
 have ho:=h.ht.ov;cases hf:C.S.free with
 | none =>
  right;refine⟨by unfold Sw.takeE;rw[ho,hf];rfl,by unfold Sw.take;rw[ho,hf];rfl⟩
 | some m =>
  left;have hl:=hf;unfold Sw.free at hl;rw[h.ht.len]at hl;obtain⟨l1,l2,l3,l4⟩:=Mg _ _ _ _ hl;have hmn:m<n:=by have:=h.ht.l0;omega
  have hU:(U m||C.tk.contains (m:Int))=false:=by rw[<-h.ht.us m (by omega) hmn];exact l3
  obtain⟨t1,t2⟩:=h.ht.take m (fillB 0) (by omega) hmn hU (fun i hi him=>by rw[<-h.ht.us i hi (by omega)];exact l4 i (by omega) him) (Bz 0);have hU':=Bool.or_eq_false_iff.1 hU;have hrd:∀i,0<i->i<n->(U i||C.tk.contains (i:Int))=true->(C.S.take (fillB 0)).now.getD i ⟨#[]⟩=C.S.now.getD i ⟨#[]⟩:=by
   intro i hi hin hu;have hne:m≠i:=fun e=>by rw[<-e,hU]at hu;cases hu
   have e:C.S.take (fillB 0)={ C.S with now:=(turnL C.S.now m).set m (fillB 0) }:=by unfold Sw.take;rw[if_neg (by rw[ho];simp),hf]
   rw[e];show ((turnL C.S.now m).set m (fillB 0)).getD i _=_;rw[getD_set_ne _ _ _ _ _ hne];unfold turnL;rw[getD_set_ne _ _ _ _ _ (by omega)]
  have e0:(C.S.takeE.1).toNat=m:=by rw[t1];simp
  refine⟨by rw[t1],⟨by rw[t1];show (0:Int)<(m:Int);omega,by rw[t1];show (m:Int)<(n:Int);omega,by rw[e0];exact hU'.1⟩,?_,⟨?_,?_,?_,?_,?_⟩,hrd⟩
  ·rw[t1];intro hm;have:C.tk.contains (m:Int)=true:=List.contains_iff_mem.2 hm;rw[hU'.2]at this;cases this
  ·refine t2.congr (fun i hi hin=>?_);show (i==m||(U i||C.tk.contains (i:Int)))=(U i||(C.tk++[C.S.takeE.1]).contains (i:Int));rw[t1];have:(C.tk++[(m:Int)]).contains (i:Int)=(C.tk.contains (i:Int)||(i==m)):=by
    by_cases e:i=m
    ·subst e;simp
    ·have e':¬((i:Int)=(m:Int)):=by omega
     simp[e,e']
   show (i==m||(U i||C.tk.contains (i:Int)))=(U i||(C.tk++[(m:Int)]).contains (i:Int));rw[this];cases (i==m)<;>cases U i<;>cases C.tk.contains (i:Int)<;>rfl
  ·exact h.fr.trans (LE _ _)
  ·intro z hz;rcases List.mem_append.1 hz with e|e
   ·exact h.tk z e
   ·rw[List.mem_singleton.1 e,t1];exact⟨by show (0:Int)<(m:Int);omega,by show (m:Int)<(n:Int);omega,by show U ((m:Int).toNat)=false;simpa using hU'.1⟩
  ·show (C.tk++[C.S.takeE.1]).Nodup;refine List.nodup_append.2 ⟨h.nd,List.pairwise_singleton _ _,fun a ha b hb e=>?_⟩;rw[List.mem_singleton.1 hb,t1]at e;have e':a=(m:Int):=e;have:C.tk.contains (m:Int)=true:=List.contains_iff_mem.2 (by rw[<-e'];exact ha);rw[hU'.2]at this;cases this
  ·intro i hi hin hu;show (C.S.take (fillB 0)).now.getD i _=_;rw[hrd i hi hin (by rw[hu];rfl)];exact h.rd i hi hin hu
theorem Ac.take{S:Sw}{n:Nat}{U:Nat->Bool}{C:Cg}(h:Ac S n U C) :
  Ac S n U C.take/\C.take.ws=C.ws/\C.take.k=C.k /\
  (C.takeZ.2=8\/(C.takeZ.2=0/\(∀x,[C.takeZ.1].count x+C.take.sp.count x+C.tk.count x=C.sp.count x+C.take.tk.count x)/\∀y:Int,0<y->y<(n:Int)->(U y.toNat||C.tk.contains y)=true->C.take.at y=C.at y)):=by
 unfold Cg.take Cg.takeZ;by_cases h0:C.sp.length=0
 ·rw[if_pos h0,if_pos h0];have hsp:C.sp=[]:=List.length_eq_zero_iff.1 h0;rcases h.takeS with ⟨t1,t2,t3,t4,t5⟩|⟨t1,t2⟩
  ·rw[t1,if_pos rfl];refine⟨t4,rfl,rfl,.inr ⟨rfl,fun x=>?_,fun y h1 h2 hu=>?_⟩⟩
   ·show _+C.sp.count x+_=_+(C.tk++[C.S.takeE.1]).count x;rw[List.count_append];omega
   ·unfold Cg.at;show (match C.ws.find? _ with|some p=>some p.2|none=>vS (C.S.take (fillB 0)) y)=_;have e:vS (C.S.take (fillB 0)) y=vS C.S y:=CB (by
     have hcast:((y.toNat:Nat):Int)=y:=by omega
     have a1:=t4.ht.read h1 h2 (by
      show (U y.toNat||(C.tk++[C.S.takeE.1]).contains ((y.toNat:Nat):Int))=true;rw[hcast];rcases Bool.or_eq_true_iff.1 hu with e|e
      ·rw[e];rfl
      ·rw[List.contains_iff_mem.2 (List.mem_append_left _ (List.contains_iff_mem.1 e))];simp)
     have a2:=h.ht.read h1 h2 (by show (U y.toNat||C.tk.contains ((y.toNat:Nat):Int))=true;rw[hcast];exact hu);rw[a2,show (C.S.take (fillB 0)).read y=_ from a1];show ((C.S.take (fillB 0)).now.getD y.toNat _,_)=_;rw[t5 y.toNat (by omega) (by omega) (by rw[hcast];exact hu)])
    rw[e]
  ·rw[t1,if_neg (by decide)];refine⟨?_,rfl,rfl,.inl rfl⟩;rw[t2];exact h
 ·rw[if_neg h0,if_neg h0];refine⟨⟨h.ht,h.fr,h.tk,h.nd,h.rd⟩,rfl,rfl,.inr ⟨rfl,fun x=>?_,fun y _ _ _=>rfl⟩⟩;show [C.sp.getD (C.sp.length - 1) 0].count x+(C.sp.take (C.sp.length - 1)).count x+C.tk.count x=C.sp.count x+C.tk.count x;have e:C.sp=C.sp.take (C.sp.length - 1)++[C.sp.getD (C.sp.length - 1) 0]:=by
   have hlt:C.sp.length - 1<C.sp.length:=by omega
   have:=List.take_succ_eq_append_getElem hlt;rw[show C.sp.length - 1+1=C.sp.length by omega,List.take_length]at this;rw[List.getD_eq_getElem?_getD,List.getElem?_eq_getElem hlt];exact this
  have e2:C.sp.count x=(C.sp.take (C.sp.length - 1)).count x+[C.sp.getD (C.sp.length - 1) 0].count x:=by
   rw[<-List.count_append,<-e]
  omega
def tpg(d:Nat)(t:Int × Fo d):List Int:=t.1::fpgs d t.2
def OgOk(n:Nat)(U:Nat->Bool)(og:List Int):Prop:=(∀x,og.count x<=1)/\∀z∈og,0<z/\z<(n:Int)/\U z.toNat=true
structure Pst (S:Sw) (n:Nat) (U:Nat->Bool) (C:Cg) (og ng wg:List Int):Prop where
 ac:Ac S n U C
 pm:∀x,ng.count x+C.sp.count x=og.count x+C.tk.count x
 wn:(C.ws.map Prod.fst).Nodup
 we:∀p∈C.ws,p.2.writeE=0
 wi:∀p∈C.ws,p.1∈wg
theorem Ae{l:List Int}{x:Int}:x∈l↔0<l.count x:=List.count_pos_iff.symm
theorem Ac.tkU{S:Sw}{n:Nat}{U:Nat->Bool}{C:Cg}(h:Ac S n U C){x:Int}(hu:U x.toNat=true):C.tk.count x=0:=by
 rcases Nat.eq_zero_or_pos (C.tk.count x)with e|e
 ·exact e
 ·have:=(h.tk x (Ae.2 e)).2.2;rw[hu]at this;cases this
theorem Ac.tk1{S:Sw}{n:Nat}{U:Nat->Bool}{C:Cg}(h:Ac S n U C)(x:Int):C.tk.count x<=1:=List.nodup_iff_count.1 h.nd x
theorem Pst.one{S:Sw}{n:Nat}{U:Nat->Bool}{C:Cg}{og ng wg:List Int}(h:Pst S n U C og ng wg)(ho:OgOk n U og)(x:Int):ng.count x+C.sp.count x<=1:=by
 rw[h.pm x];have h1:=ho.1 x;have h2:=h.ac.tk1 x;rcases Nat.eq_zero_or_pos (og.count x)with e|e
 ·omega
 ·have:=h.ac.tkU (ho.2 x (Ae.2 e)).2.2;omega
theorem Pst.no{S:Sw}{n:Nat}{U:Nat->Bool}{C:Cg}{og ng wg:List Int}(h:Pst S n U C og ng wg){y:Int}(hu:U y.toNat=true)(hy:og.count y=0):ng.count y=0/\C.sp.count y=0:=by
 have h1:=h.pm y;have h2:=h.ac.tkU hu;omega
theorem Pst.out{S:Sw}{n:Nat}{U:Nat->Bool}{C:Cg}{og ng wg:List Int}(h:Pst S n U C og ng wg)(hS:Tk S n U)(hw:∀x∈wg,x∈ng){y:Int}(h0:0<y)(h1:y<(n:Int))(hu:U y.toNat=true)(hy:og.count y=0):C.at y=vS S y:=by
 rw[It (fun p hp e=>?_),CB (h.ac.read hS h0 h1 hu)];have:=Ae.1 (hw _ (h.wi p hp));rw[e,(h.no hu hy).1]at this;omega
theorem BU(d:Nat)(ks:List ByteArray)(ts:List (Int × Fo d)):fpgs (d+1) (ks,ts)=ts.flatMap (tpg d):=rfl
theorem Ea{S:Sw}{n:Nat}{U:Nat->Bool}(hS:Tk S n U)(d:Nat)(z:Int)(ks:List ByteArray)(A G B:List (Int × Fo d))(lo hi:ByteArray)(hf:fOk (d+1) (ks,A++G++B) lo hi)(hin:fIn (vS S) (d+1) (ks,A++G++B))(ho:OgOk n U (z::fpgs (d+1) (ks,A++G++B)))
  (C:Cg) (G':List (Int × Fo d)) (kg':List ByteArray) (hG:G≠[]) (hk:AD (tOk d) kg' G' (lowB ks lo A.length) (ks.getD (A.length+G.length - 1) hi)) (hkk:∀k∈kg',okKey k=true) (hP:Pst S n U C (G.flatMap (tpg d)) (G'.flatMap (tpg d)) (G'.flatMap (tpg d))) (hT:∀t∈G',tIn C.at d t) :
  fOk (d+1) (ks.take A.length++kg'++ks.drop (A.length+G.length - 1),A++G'++B) lo hi /\
  fIn C.at (d+1) (ks.take A.length++kg'++ks.drop (A.length+G.length - 1),A++G'++B) /\
  Pst S n U C (z::fpgs (d+1) (ks,A++G++B)) (z::fpgs (d+1) (ks.take A.length++kg'++ks.drop (A.length+G.length - 1),A++G'++B)) (fpgs (d+1) (ks.take A.length++kg'++ks.drop (A.length+G.length - 1),A++G'++B))/\C.at z=vS S z:=by
 have hcut:=Ee A G B ks lo hi hG hf.2;have e1:fpgs (d+1) (ks,A++G++B)=A.flatMap (tpg d)++G.flatMap (tpg d)++B.flatMap (tpg d):=by rw[BU,List.flatMap_append,List.flatMap_append]
 have e2:∀kk,fpgs (d+1) (kk,A++G'++B)=A.flatMap (tpg d)++G'.flatMap (tpg d)++B.flatMap (tpg d):=fun kk=>by rw[BU,List.flatMap_append,List.flatMap_append]
 rw[e1]at ho |-;rw[e2];have hout:∀y,y=z\/y∈A.flatMap (tpg d)\/y∈B.flatMap (tpg d)->C.at y=vS S y:=by
  intro y hy;have hm:y∈z::(A.flatMap (tpg d)++G.flatMap (tpg d)++B.flatMap (tpg d)):=by
   rcases hy with e|e|e
   ·rw[e];exact List.mem_cons_self
   ·exact List.mem_cons_of_mem _ (List.mem_append_left _ (List.mem_append_left _ e))
   ·exact List.mem_cons_of_mem _ (List.mem_append_right _ e)
  have hu:=ho.2 y hm;have h1:=ho.1 y;simp only[List.count_cons,List.count_append]at h1;refine hP.out hS (fun _ h=>h) hu.1 hu.2.1 hu.2.2 ?_;rcases hy with e|e|e
  ·subst e;simp only[beq_self_eq_true,if_pos]at h1;omega
  ·have:=Ae.1 e;omega
  ·have:=Ae.1 e;omega
 refine⟨⟨fun k hk'=>?_,hcut.2 kg' G' hk⟩,fun t ht=>?_,⟨hP.ac,fun x=>?_,hP.wn,hP.we,fun p hp=>List.mem_append_left _ (List.mem_append_right _ (hP.wi p hp))⟩,hout z (.inl rfl)⟩
 ·rcases List.mem_append.1 hk' with e|e
  ·rcases List.mem_append.1 e with e|e
   ·exact hf.1 k (List.mem_of_mem_take e)
   ·exact hkk k e
  ·exact hf.1 k (List.mem_of_mem_drop e)
 ·have ht':t∈A++G'++B:=ht;rcases List.mem_append.1 ht' with e|e
  ·rcases List.mem_append.1 e with e|e
   ·exact BN d t (hin t (List.mem_append_left _ (List.mem_append_left _ e))) (fun y hy=>hout y (.inr (.inl (List.mem_flatMap.2 ⟨t,e,hy⟩))))
   ·exact hT t e
  ·exact BN d t (hin t (List.mem_append_right _ e)) (fun y hy=>hout y (.inr (.inr (List.mem_flatMap.2 ⟨t,e,hy⟩))))
 ·have:=hP.pm x;simp only[List.count_cons,List.count_append];omega
theorem Ac.same{S:Sw}{n:Nat}{U:Nat->Bool}{C C':Cg}(h:Ac S n U C)(hS:C'.S=C.S)(ht:C'.tk=C.tk):Ac S n U C':=⟨by rw[hS,ht];exact h.ht,by rw[hS];exact h.fr,by rw[ht];exact h.tk,by rw[ht];exact h.nd,by rw[hS];exact h.rd⟩
theorem AS{n:Nd}(h:n.right=true):n.writeE=0↔n.size<=256:=by
 unfold Nd.writeE;rw[h,if_pos rfl];split
 ·constructor
  ·intro e;cases e
  ·intro e;omega
 ·exact⟨fun _=>by omega,fun _=>rfl⟩
theorem I7{l:List Int}{z:Int}(h:l.Nodup)(hz:z ∉ l):(l++[z]).Nodup:=List.nodup_append.2 ⟨h,List.pairwise_singleton _ _,fun a ha b hb e=>hz (by rw[List.mem_singleton.1 hb]at e;rw[<-e];exact ha)⟩
theorem Pst.write{S:Sw}{n:Nat}{U:Nat->Bool}{C:Cg}{og ng wg wg':List Int}(h:Pst S n U C og ng wg)(z:Int)(x:Nd)(hz:z ∉ C.ws.map Prod.fst)(hx:x.writeE=0)(hw:∀y∈wg,y∈wg')(hz':z∈wg'):Pst S n U (C.write z x) og ng wg':=by
 refine⟨h.ac.same rfl rfl,h.pm,?_,fun p hp=>?_,fun p hp=>?_⟩
 ·show ((C.ws++[(z,x)]).map Prod.fst).Nodup;rw[List.map_append];exact I7 h.wn hz
 ·rcases List.mem_append.1 hp with e|e
  ·exact h.we p e
  ·rw[List.mem_singleton.1 e];exact hx
 ·rcases List.mem_append.1 hp with e|e
  ·exact hw _ (h.wi p e)
  ·rw[List.mem_singleton.1 e];exact hz'
theorem Pst.ws_no{S:Sw}{n:Nat}{U:Nat->Bool}{C:Cg}{og ng wg:List Int}(h:Pst S n U C og ng wg){z:Int}(hz:wg.count z=0):z ∉ C.ws.map Prod.fst:=fun hm=>by
 obtain⟨p,hp,rfl⟩:=List.mem_map.1 hm
 have:=Ae.1 (h.wi p hp)
 omega
theorem CX{C:Cg}{z:Int}(h:z ∉ C.ws.map Prod.fst):∀p∈C.ws,p.1≠z:=fun p hp e=>h (List.mem_map.2 ⟨p,hp,e⟩)
def DownR (S : Sw) (n : Nat) (U : Nat → Bool) (K d : Nat) (z : Int) (og : List Int) (lo hi : ByteArray) (prs : List Pr) (R : Gr) : Prop :=
  (R.e = 8 ∧ Ac S n U R.C) ∨ (R.e = 0 ∧ R.C.k ≤ K ∧ ∃ f : Fo d, fOk d f lo hi ∧ fIn R.C.at d f ∧ fprs d f = prs ∧
    ((R.go = true ∧ R.ab = fnd d f ∧ (fnd d f).size ≤ 330 ∧ Pst S n U R.C og (z :: fpgs d f) (fpgs d f)) ∨
     (R.go = false ∧ R.C.at z = some (fnd d f) ∧ fne d f ∧ (fnd d f).size ≤ 256 ∧ Pst S n U R.C og (z :: fpgs d f) (z :: fpgs d f))))
structure Cx (S:Sw) (n:Nat) (U:Nat->Bool) (d:Nat) (z:Int) (ks:List ByteArray) (ts:List (Int × Fo d)) (lo hi:ByteArray):Prop where
 hS:Tk S n U
 hf:fOk (d+1) (ks,ts) lo hi
 hin:fIn (vS S) (d+1) (ks,ts)
 ho:OgOk n U (z::fpgs (d+1) (ks,ts))
 hz:vS S z=some (fnd (d+1) (ks,ts))
 hne:ks≠[]
 hsz:(fnd (d+1) (ks,ts)).size<=256
theorem Cx.og{S:Sw}{n:Nat}{U:Nat->Bool}{d:Nat}{z:Int}{ks:List ByteArray}{A G B:List (Int × Fo d)}{lo hi:ByteArray}(h:Cx S n U d z ks (A++G++B) lo hi):OgOk n U (G.flatMap (tpg d)):=by
 have ho:=h.ho;rw[BU,List.flatMap_append,List.flatMap_append]at ho;refine⟨fun x=>?_,fun x hx=>ho.2 x (List.mem_cons_of_mem _ (List.mem_append_left _ (List.mem_append_right _ hx)))⟩;have:=ho.1 x;simp only[List.count_cons,List.count_append]at this;omega
theorem Pst.used{S:Sw}{n:Nat}{U:Nat->Bool}{C:Cg}{og ng wg:List Int}(h:Pst S n U C og ng wg)(ho:OgOk n U og){y:Int}(hy:y∈ng):0<y/\y<(n:Int)/\(U y.toNat||C.tk.contains y)=true:=by
 have h1:=h.pm y;have h2:=Ae.1 hy;by_cases e:0<og.count y
 ·have:=ho.2 y (Ae.2 e);exact⟨this.1,this.2.1,by rw[this.2.2];rfl⟩
 ·have hm:y∈C.tk:=Ae.2 (by omega);have:=h.ac.tk y hm;exact⟨this.1,this.2.1,by rw[List.contains_iff_mem.2 hm];simp⟩
theorem J2{C:Cg}{a b y:Int}{x x':Nd}(h:y≠a)(h':y≠b):((C.write a x).write b x').at y=C.at y:=by rw[BG h',BG h]
theorem BE(d:Nat)(ks:List ByteArray)(ts:List (Int × Fo d)):fprs (d+1) (ks,ts)=ts.flatMap (fun t=>fprs d t.2):=rfl
theorem O2(ks:List ByteArray)(i:Nat)(x:ByteArray):((ks.take i++[x]++ks.drop i).map kSize).sum=(ks.map kSize).sum+kSize x:=by
 have:=At kSize ks i;simp only[List.map_append,List.sum_append,List.map_cons,List.map_nil,List.sum_cons,List.sum_nil];omega
theorem H7(ks:List ByteArray)(i j:Nat)(h:i<=j)(x:List ByteArray):((ks.take i++x++ks.drop j).map kSize).sum<=(ks.map kSize).sum+(x.map kSize).sum:=by
 have h1:=At kSize ks i;have h2:=At kSize (ks.drop i) (j - i);rw[List.drop_drop,show i+(j - i)=j by omega]at h2;simp only[List.map_append,List.sum_append];omega
theorem Eg{k:ByteArray}(h:okKey k=true):kSize k<=35:=by have:=AE h;show 3+k.size<=35;omega
theorem Kr{S:Sw}{n:Nat}{U:Nat->Bool}{K d:Nat}{z:Int}{ks:List ByteArray}{A B:List (Int × Fo d)}{s:Int × Fo d}{lo hi:ByteArray}(X:Cx S n U d z ks (A++[s]++B) lo hi)(C:Cg)(f1:Fo d)(hok:fOk d f1 (lowB ks lo A.length) (ks.getD A.length hi))(hin:fIn C.at d f1)(hz:C.at s.1=some (fnd d f1))(hne:fne d f1)(hsz:(fnd d f1).size<=256)(hP:Pst S n U C (tpg d s) (s.1::fpgs d f1) (s.1::fpgs d f1))(hk:C.k<=K)(ab:Nd) :
  DownR S n U K (d+1) z (z::fpgs (d+1) (ks,A++[s]++B)) lo hi (A.flatMap (fun t=>fprs d t.2)++fprs d f1++B.flatMap (fun t=>fprs d t.2)) ⟨C,ab,false,0⟩:=by
 have hs:=X.og.2 s.1 (by simp[tpg]);have hn:=X.hS.l1;have hG:([s]:List (Int × Fo d)).flatMap (tpg d)=tpg d s:=by simp
 have hG':([(s.1,f1)]:List (Int × Fo d)).flatMap (tpg d)=s.1::fpgs d f1:=by simp[tpg]
 obtain⟨r1,r2,r3,r4⟩:=Ea X.hS d z ks A [s] B lo hi X.hf X.hin X.ho C [(s.1,f1)] [] (by simp) (by
  show tOk d (s.1,f1) _ (ks.getD (A.length+1 - 1) hi);rw[show A.length+1 - 1=A.length by omega];exact⟨⟨by omega,by show s.1<=65535;omega⟩,hne,hsz,hok⟩) (fun k hk=>by cases hk) (by rw[hG,hG'];exact hP) (fun t ht=>by rw[List.mem_singleton.1 ht];exact⟨hz,hin⟩)
 have ek:ks.take A.length++[]++ks.drop (A.length+[s].length - 1)=ks:=by
  rw[List.append_nil,show A.length+[s].length - 1=A.length by simp,List.take_append_drop]
 rw[ek]at r1 r2 r3;have en:fnd (d+1) (ks,A++[(s.1,f1)]++B)=fnd (d+1) (ks,A++[s]++B):=by
  show (⟨false,[],ks,(A++[(s.1,f1)]++B).map Prod.fst⟩:Nd)=⟨false,[],ks,(A++[s]++B).map Prod.fst⟩;simp
 refine .inr ⟨rfl,hk,(ks,A++[(s.1,f1)]++B),r1,r2,by rw[BE];simp,.inr ⟨rfl,by rw[r4,en];exact X.hz,X.hne,by rw[en];exact X.hsz,?_⟩⟩;exact⟨r3.ac,r3.pm,r3.wn,r3.we,fun p hp=>List.mem_cons_of_mem _ (r3.wi p hp)⟩
theorem IH{S:Sw}{n:Nat}{U:Nat->Bool}{K d:Nat}{z:Int}{ks:List ByteArray}{A B:List (Int × Fo d)}{s:Int × Fo d}{lo hi:ByteArray}(X:Cx S n U d z ks (A++[s]++B) lo hi)(C:Cg)(f1:Fo d)(hok:fOk d f1 (lowB ks lo A.length) (ks.getD A.length hi))(hin:fIn C.at d f1)(hne:fne d f1)(hsz:(fnd d f1).size<=256)(hP:Pst S n U C (tpg d s) (s.1::fpgs d f1) (fpgs d f1))(hk:C.k<=K)(ab:Nd) :
  DownR S n U K (d+1) z (z::fpgs (d+1) (ks,A++[s]++B)) lo hi (A.flatMap (fun t=>fprs d t.2)++fprs d f1++B.flatMap (fun t=>fprs d t.2)) ⟨C.write s.1 (fnd d f1),ab,false,0⟩:=by
 have hG:([s]:List (Int × Fo d)).flatMap (tpg d)=tpg d s:=by simp
 have hog:=X.og;rw[hG]at hog;have h1:=hP.one hog s.1;simp only[List.count_cons,beq_self_eq_true,if_pos]at h1;have hno:=hP.ws_no (z:=s.1) (by omega);refine Kr X (C.write s.1 (fnd d f1)) f1 hok (Bh d f1 hin (fun y hy=>BG (fun e=>?_))) (at_new (CX hno)) hne hsz (hP.write s.1 _ hno ((AS (AJ d f1 _ _ hok)).2 hsz) (fun y hy=>List.mem_cons_of_mem _ hy) List.mem_cons_self) hk ab;have:=Ae.1 hy;rw[e]at this;omega
theorem On{S:Sw}{n:Nat}{U:Nat->Bool}{K d:Nat}{z:Int}{ks:List ByteArray}{A B:List (Int × Fo d)}{s:Int × Fo d}{lo hi:ByteArray}(X:Cx S n U d z ks (A++[s]++B) lo hi)(C:Cg)(f1:Fo d)(hok:fOk d f1 (lowB ks lo A.length) (ks.getD A.length hi))(hin:fIn C.at d f1)(hg:256<(fnd d f1).size)(hsz:(fnd d f1).size<=330)(hP:Pst S n U C (tpg d s) (s.1::fpgs d f1) (fpgs d f1))(hk:C.k<=K) :
  DownR S n U K (d+1) z (z::fpgs (d+1) (ks,A++[s]++B)) lo hi (A.flatMap (fun t=>fprs d t.2)++fprs d f1++B.flatMap (fun t=>fprs d t.2)) ⟨C.split s.1 (fnd d f1),C.splitAb A.length (fnd d f1) (fnd (d+1) (ks,A++[s]++B)),true,C.takeZ.2⟩:=by
 have hG:([s]:List (Int × Fo d)).flatMap (tpg d)=tpg d s:=by simp
 have hog:=X.og;rw[hG]at hog;obtain⟨t1,t2,t3,t4⟩:=hP.ac.take;rcases t4 with t4|⟨t4,t5,t6⟩
 ·refine .inl ⟨t4,?_⟩;show Ac S n U (C.split s.1 (fnd d f1));unfold Cg.split;rw[t4,if_neg (by decide)];exact t1
 ·obtain⟨fa,fb,q1,q2,q3,q4,q5,q6,q7,q8,q9,q10,q11,q12⟩:=JN d f1 _ _ hok hg hsz;obtain⟨p,hp⟩:∃p,p=C.takeZ.1:=⟨_,rfl⟩;rw[<-hp]at t5;have hG':([(s.1,fa),(p,fb)]:List (Int × Fo d)).flatMap (tpg d)=(s.1::fpgs d fa)++(p::fpgs d fb):=by simp[tpg]
  have hP1:Pst S n U C.take (tpg d s) ((s.1::fpgs d fa)++(p::fpgs d fb)) (fpgs d f1):=by
   refine⟨t1,fun x=>?_,by rw[t2];exact hP.wn,by rw[t2];exact hP.we,by rw[t2];exact hP.wi⟩;have a1:=t5 x;have a2:=hP.pm x;rw[q10]at a2;simp only[List.count_append,List.count_cons,List.count_nil]at a1 a2 |-;omega
  have hone:=hP1.one hog;have c1:=hone s.1;have c2:=hone p;simp only[List.count_append,List.count_cons,beq_self_eq_true,if_pos]at c1 c2;have hsp:s.1≠p:=fun e=>by rw[e]at c1;simp only[beq_self_eq_true,if_pos]at c1;omega
  have hf1:∀y,(fpgs d f1).count y=(fpgs d fa).count y+(fpgs d fb).count y:=fun y=>by rw[q10,List.count_append]
  have hno:=hP1.ws_no (z:=s.1) (by rw[hf1];omega);have hno2:p ∉ (C.take.write s.1 (fnd d fa)).ws.map Prod.fst:=by
   show p ∉ (C.take.ws++[(s.1,fnd d fa)]).map Prod.fst;rw[List.map_append];intro hm;rcases List.mem_append.1 hm with e|e
   ·exact hP1.ws_no (z:=p) (by rw[hf1];omega) e
   ·have:p=s.1:=by simpa using e
    exact hsp this.symm
  have hra:=(AS (AJ d fa _ _ q3)).2 q7;have hrb:=(AS (AJ d fb _ _ q4)).2 q8;have hP2:Pst S n U (C.take.write s.1 (fnd d fa)) (tpg d s) ((s.1::fpgs d fa)++(p::fpgs d fb)) (s.1::fpgs d f1):=hP1.write s.1 _ hno hra (fun y hy=>List.mem_cons_of_mem _ hy) List.mem_cons_self;have hP3:Pst S n U ((C.take.write s.1 (fnd d fa)).write p (fnd d fb)) (tpg d s) ((s.1::fpgs d fa)++(p::fpgs d fb)) ((s.1::fpgs d fa)++(p::fpgs d fb)):=hP2.write p _ hno2 hrb (fun y hy=>by
   rcases List.mem_cons.1 hy with e|e
   ·rw[e];simp
   ·rw[q10]at e;rcases List.mem_append.1 e with e|e
    ·exact List.mem_append_left _ (List.mem_cons_of_mem _ e)
    ·exact List.mem_append_right _ (List.mem_cons_of_mem _ e)) (by simp)
  have hup:0<p/\p<(n:Int):=by
   have:=hP3.used hog (y:=p) (by simp);exact⟨this.1,this.2.1⟩
  have hus:0<s.1/\s.1<(n:Int):=by
   have:=hog.2 s.1 List.mem_cons_self;exact⟨this.1,this.2.1⟩
  have hn:=X.hS.l1;have hat:∀y∈fpgs d f1,((C.take.write s.1 (fnd d fa)).write p (fnd d fb)).at y=C.at y:=fun y hy=>by
   have hc:=Ae.1 hy;rw[hf1]at hc;have h1:y≠s.1:=fun e=>by rw[e]at hc;omega
   have h2:y≠p:=fun e=>by rw[e]at hc;omega
   rw[J2 h1 h2];have:=hP.used hog (List.mem_cons_of_mem s.1 hy);exact t6 y this.1 this.2.1 this.2.2
  have hinab:=q12 _ (Bh (V':=((C.take.write s.1 (fnd d fa)).write p (fnd d fb)).at) d f1 hin hat);have esplit:C.split s.1 (fnd d f1)=(C.take.write s.1 (fnd d fa)).write p (fnd d fb):=by unfold Cg.split;rw[t4,if_pos rfl,q1,q2,hp]
  obtain⟨r1,r2,r3,r4⟩:=Ea X.hS d z ks A [s] B lo hi X.hf X.hin X.ho ((C.take.write s.1 (fnd d fa)).write p (fnd d fb)) [(s.1,fa),(p,fb)] [(fnd d f1).mid] (by simp) (by
   show tOk d (s.1,fa) _ _/\tOk d (p,fb) _ (ks.getD (A.length+1 - 1) hi);rw[show A.length+1 - 1=A.length by omega];exact⟨⟨⟨by show 1<=s.1;omega,by show s.1<=65535;omega⟩,q5,q7,q3⟩,⟨⟨by show 1<=p;omega,by show p<=65535;omega⟩,q6,q8,q4⟩⟩) (fun k hk=>by rw[List.mem_singleton.1 hk];exact q9) (by rw[hG,hG'];exact hP3) (fun t ht=>by
    rcases List.mem_cons.1 ht with e|e
    ·rw[e];exact⟨by show ((C.take.write s.1 (fnd d fa)).write p (fnd d fb)).at s.1=_;rw[BG hsp];exact at_new (CX hno),hinab.1⟩
    ·rw[List.mem_singleton.1 e];exact⟨at_new (CX hno2),hinab.2⟩)
  have ek:ks.drop (A.length+[s].length - 1)=ks.drop A.length:=by rw[show A.length+[s].length - 1=A.length by simp]
  rw[ek]at r1 r2 r3;refine .inr ⟨t4,by show (C.split s.1 (fnd d f1)).k<=K;rw[esplit];show C.take.k<=K;rw[t3];exact hk,(ks.take A.length++[(fnd d f1).mid]++ks.drop A.length,A++[(s.1,fa),(p,fb)]++B),r1,by show fIn (C.split s.1 (fnd d f1)).at _ _;rw[esplit];exact r2,by rw[BE,q11];simp,.inl ⟨rfl,?_,?_,by show Pst S n U (C.split s.1 (fnd d f1)) _ _ _;rw[esplit];exact r3⟩⟩
  ·show C.splitAb A.length (fnd d f1) (fnd (d+1) (ks,A++[s]++B))=_;unfold Cg.splitAb;rw[t4,if_pos rfl];show (⟨false,[],insAt ks A.length (fnd d f1).mid,insAt ((A++[s]++B).map Prod.fst) (A.length+1) C.takeZ.1⟩:Nd)=⟨false,[],ks.take A.length++[(fnd d f1).mid]++ks.drop A.length,(A++[(s.1,fa),(p,fb)]++B).map Prod.fst⟩;rw[<-hp];unfold insAt;have e1:((A++[s]++B).map Prod.fst).take (A.length+1)=A.map Prod.fst++[s.1]:=by
    rw[<-List.map_take,CR A [s] B 1 (by simp)];simp
   have e2:((A++[s]++B).map Prod.fst).drop (A.length+1)=B.map Prod.fst:=by
    rw[<-List.map_drop,CZ A [s] B 1 (by simp)];simp
   rw[e1,e2];simp
  ·show 4+((ks.take A.length++[(fnd d f1).mid]++ks.drop A.length).map kSize).sum<=330;rw[O2];have h1:4+(ks.map kSize).sum<=256:=X.hsz;have h2:=Eg q9;omega
end Go.Proofs.YtjojffepakclcaaGreatDoor
namespace Go.Proofs.YtjojffepakclcaaGreatDoor
open Go.RowKit
theorem O5{P:Program}(w:World)(t e:TypeId)(ht:P.underlying t=some (.slice e))(x y:Value)(hx:x.oneCell'=true)(hy:y.oneCell'=true)(g:Nat)(hg:w.heap.size=g):Src P 2 t (.slice (some ⟨g,0,none⟩) 1 1) 1 [x,y] (w.alloc (.cells #[x,y] e)):=by
 subst hg;refine Src.ofSlice (e':=e) _ ht ⟨w.heap.size,0,none⟩ 1 1 [x,y] (by simp) ?_ (by intro u hu;simp at hu;rcases hu with rfl|rfl<;>assumption);intro j u hj;match j,hj with
 | 0,hj=>simp at hj;subst hj;simp[Addr.add]
 | 1,hj=>simp at hj;subst hj;simp[Addr.add]
 | (j+2),hj=>simp at hj
theorem OwC.snoc{t:TypeId}{w:World}{base:Nat}{v:Value}{l:List Chg}{x:Chg}(h:w.ownsRow base t 2 v (l.length+1) (ccs l++[.int .i64 x.page,.string x.data])):OwC t w base v (l++[x]):=by
 unfold OwC;rw[Kc,List.length_append];exact h
structure Rest (w:World) (p:Dp) (D:Dv) (n:Nat) (Q:Nat->ByteArray) (m:Int):Prop where
 hd:Dev w p D
 hn:D.n=126+4*n
 hu:∀k,D.u k=none
 hc:Clean n D.s Q
 c0:0<=D.c
 c1:D.c<=m
theorem kpN{S:Nat->Prop}{w w1 w2:World}(h:Kp none' w w1)(h':Kp S w1 w2)(hS:∀k,S k->w.heap.size<=k):Kp none' w w2:=h.trans h' (fun _ _ h=>h) (fun k hk hs=>absurd hk (by have:=hS k hs;omega))
theorem Lj(n:Nat)(h:n<=160):newN (126+4*(n:Int))=126+4*n:=by unfold newN;omega
theorem Nn{w:World}{p:Dp}{n:Nat}(h:n<=160)(hD:Dev w p (fresh (newN (126+4*(n:Int))))):Rest w p (fresh (126+4*n)) n (fun _=>fillB 0) 0:=by
 rw[Lj n h]at hD;exact⟨hD,rfl,fun _=>rfl,Jf n _,Int.le_refl _,Int.le_refl _⟩
theorem Rest.keptN{w w':World}{p:Dp}{D:Dv}{n:Nat}{Q:Nat->ByteArray}{m:Int}(h:Rest w p D n Q m)(hk:Kp none' w w'):Rest w' p D n Q m:=⟨h.hd.keptN hk,h.hn,h.hu,h.hc,h.c0,h.c1⟩
theorem L9{w:World}{p:Dp}{D:Dv}{n g k:Nat}{Q:Nat->ByteArray}{m c:Int}{bv:Value}(h:Rest w p D n Q m)(hn2:n<=160)(hQ:∀p,(Q p).size=256)(hP:Pag w g p n c bv [])(hk:k<n) :
  Calls prog 83 #[.pointer (some ⟨g,0,none⟩),.int .i64 k] w fun e w'=>e=.returned (.tuple #[.string (Q k),.int .i64 0])/\Kp none' w w':=by
 have hr:=L7 g n k p D c bv [] w hP h.hd hk (by rw[h.hn];exact Nat.le_refl _) hn2 (by simp);rw[show rdP D [] k=lookS D (AF k) from rfl,JO h.hu h.hc hQ k hk]at hr;exact hr
theorem Rest.kept{w w':World}{p:Dp}{D:Dv}{n:Nat}{Q:Nat->ByteArray}{m:Int}{S:Nat->Prop}(h:Rest w p D n Q m)(hk:Kp S w w')(hS:∀k,p.mem k->¬S k):Rest w' p D n Q m:=⟨h.hd.kept hk hS,h.hn,h.hu,h.hc,h.c0,h.c1⟩
end Go.Proofs.YtjojffepakclcaaGreatDoor
namespace Go.Proofs.YtjojffepakclcaaGreatDoor
open Go Go.RowKit
structure Pz (w:World) (b:Nat) (v:Value) (l:List Pr):Prop where
 c:w.cell? ⟨b,2,none⟩=some v
 p:Prs w.heap.size w v l
 asc:Asc l
 sz:∀p∈l,p.k.size<=maxLen/\p.v.size<=maxLen
theorem Jz{l:List Pr}{k:ByteArray}{j:Nat}(hj:j<l.length)(h1:∀p∈l.take j,lessB p.k k=true)(h2:lessB l[j].k k=false)(ha:Asc l):findN l k=j:=by
 have e:l=l.take j++l.drop j:=(List.take_append_drop _ _).symm;have hl:(l.take j).length=j:=by rw[List.length_take];omega
 have h3:∀p∈l.drop j,lessB p.k k=false:=by
  have e2:l.drop j=l[j]::l.drop (j+1):=List.drop_eq_getElem_cons hj;have ha2:Asc (l.drop j):=List.Pairwise.sublist (List.drop_sublist _ _) ha;rw[e2]at ha2 |-;intro p hp;rcases List.mem_cons.1 hp with rfl|hp
  ·exact h2
  ·have h4:=List.rel_of_pairwise_cons ha2 hp;cases h5:lessB p.k k with
   | false=>rfl
   | true=>rw[AP h4 h5]at h2;cases h2
 rw[e,DX _ _ k h1 h3,hl]
theorem Li{l:List Pr}{k:ByteArray}(h1:∀p∈l,lessB p.k k=true):findN l k=l.length:=by
 have:=DX l [] k h1 (by simp);rwa [List.append_nil]at this
theorem O7{l:List Pr}{k:ByteArray}{j:Nat}(hf:findN l k=j)(hj:j<l.length):hasN l k=(l[j].k.toList==k.toList):=by
 unfold hasN;rw[hf,List.getElem?_eq_getElem hj,GL]
theorem NI{l:List Pr}{k:ByteArray}(hf:findN l k=l.length):hasN l k=false:=by
 unfold hasN;rw[hf,List.getElem?_eq_none (Nat.le_refl _)]
set_option maxRecDepth 100000 in
theorem Dx(b:Nat)(v:Value)(l:List Pr)(k:ByteArray)(w:World)(h:Pz w b v l)(hk:k.size<=maxLen) :
  Calls prog 27 #[.pointer (some ⟨b,2,none⟩),.string k] w fun e w'=>e=.returned (.tuple #[.int .i64 (findN l k),.bool (hasN l k)])/\Kp none' w w':=by
 obtain⟨hc,hP,hasc,hsz⟩:=h;obtain⟨a,c,rfl,hlc,hcm,ha⟩:=hP;unfold maxLen at hcm;have HA:Hid (∀i (h:i<l.length),∃b off,a=some ⟨b,off,none⟩/\b<w.heap.size/\w.cell? ⟨b,off+i*2,none⟩=some (.string l[i].k)/\w.cell? ⟨b,off+i*2+1,none⟩=some (.string l[i].v)):=ha;have HAS:=hide hasc;have HSZ:=hide hsz;clear ha hasc hsz;go_enter func27,ntmps27;go_wp2;go_loopw [6] (fun u wr=>∃j:Nat,j<=l.length/\u=.int .i64 j/\Hid (∀p∈l.take j,lessB p.k k=true)/\Kp none' w wr) (fun u _=>l.length - (intOf u).toNat)
 case atStart=>exact⟨0,Nat.zero_le _,rfl,hide (by simp),Kp.refl _ _⟩
 case round =>
  obtain⟨j,hj,rfl,HJ,hK⟩:=hrel;have hc1:=hK.cell hc (fun h=>h);by_cases hlt:j<l.length
  ·obtain⟨b',o,rfl,_,hq',_⟩:=HA.out j hlt;have hq:=hK.cell hq' (fun h=>h);have HQ:=hide hq';clear hq';have hlt':(j:Int)<(l.length:Int):=by omega
   have hm:=(HSZ.out _ (List.getElem_mem hlt)).1;cases hy:lessB l[j].k k with
   | true =>
    have HN:Hid (∀p∈l.take (j+1),lessB p.k k=true):=by
     intro p hp;rw[List.take_succ_eq_append_getElem hlt]at hp;rcases List.mem_append.1 hp with hp|hp
     ·exact HJ.out p hp
     ·rw[List.mem_singleton.1 hp];exact hy
    generalize l[j]=y at *;go_wp2_with (go_at_call 40;refine(BB _ _ _ hm hk).mono ?_;rintro e w' ⟨rfl,hK'⟩;rw[hy]);go_roundw
    case rel=>exact⟨j+1,by omega,by go_num,HN,hK.thenN hK'⟩
    case measure=>simp[intOf];omega
   | false =>
    have HF:Hid (findN l k=j):=Jz hlt HJ.out hy HAS.out;have HE:Hid (hasN l k=(l[j].k.toList==k.toList)):=O7 HF.out hlt;generalize l[j]=y at *;go_upto_region 4 with (go_at_call 40;refine(BB _ _ _ hm hk).mono ?_;rintro e w' ⟨rfl,hK'⟩;rw[hy]);have hc2:=hK'.cell hc1 (fun h=>h);have hq2:=hK'.cell hq (fun h=>h);go_quiet (fail);go_wp2;go_ret2;rw[HE.out,HF.out];exact⟨rfl,hK.thenN (hK'.thenN (Kp.drewN _ _ _))⟩
  ·have hlt':¬(j:Int)<(l.length:Int):=by omega
   have hje:j=l.length:=by omega
   subst hje;rw[List.take_length]at HJ;have HF:Hid (findN l k=l.length):=Li HJ.out;have HE:Hid (hasN l k=false):=NI HF.out;go_upto_region 4 with fail;go_quiet (fail);go_wp2;go_ret2;rw[HE.out,HF.out];exact⟨rfl,hK.thenN (Kp.drewN _ _ _)⟩
set_option maxRecDepth 100000 in
theorem M3(b:Nat)(v:Value)(l:List Pr)(k:ByteArray)(w:World)(h:Pz w b v l)(hk:k.size<=maxLen) :
  Calls prog 14 #[.pointer (some ⟨b,2,none⟩),.string k] w fun e w'=>e=.returned (.tuple #[.string (if hasN l k then getL l k else ⟨#[]⟩),.bool (hasN l k)])/\Kp none' w w':=by
 have HPL:=hide (Dx b v l k w h hk);have hfl:=Bl l k;have HG:Hid (∀h:findN l k<l.length,getL l k=l[findN l k].v):=fun h=>by
  unfold getL;rw[List.getD_eq_getElem?_getD,List.getElem?_eq_getElem h];rfl
 have HB:Hid (hasN l k=true->findN l k<l.length):=fun e=>by
  unfold hasN at e;rcases Nat.lt_or_ge (findN l k) l.length with h1|h1
  ·exact h1
  ·rw[List.getElem?_eq_none h1]at e;cases e
 obtain⟨hc,hP,hasc,hsz⟩:=h;obtain⟨a,c,rfl,hlc,hcm,ha⟩:=hP;unfold maxLen at hcm;have HA:Hid (∀i (h:i<l.length),∃b off,a=some ⟨b,off,none⟩/\b<w.heap.size/\w.cell? ⟨b,off+i*2,none⟩=some (.string l[i].k)/\w.cell? ⟨b,off+i*2+1,none⟩=some (.string l[i].v)):=ha;clear ha hasc hsz;cases ht:hasN l k with
 | false =>
  rw[ht]at HPL;rw[if_neg (by simp)];go_enter func14,ntmps14;go_wp2_with (first
   | (go_at_call 27;refine HPL.out.mono ?_;rintro e w1 ⟨rfl,hK1⟩)
   | fail)
  go_ret2;exact⟨rfl,hK1⟩
 | true =>
  rw[ht]at HPL;rw[if_pos rfl];have hlt:=HB.out ht;rw[HG.out hlt];obtain⟨b',o,rfl,_,_,hq⟩:=HA.out _ hlt;generalize l[findN l k].v=y at *;obtain⟨i,Hi⟩:∃i,Hid (findN l k=i):=⟨_,rfl⟩;rw[Hi.out]at HPL hlt hq;have hlt':(i:Int)<(l.length:Int):=by omega
  clear HG HB hfl;go_enter func14,ntmps14;go_wp2_with (first
   | (go_at_call 27;refine HPL.out.mono ?_;rintro e w1 ⟨rfl,hK1⟩;have hc1:=hK1.cell hc (fun h=>h);have hq1:=hK1.cell hq (fun h=>h))
   | fail)
  go_ret2;exact⟨rfl,hK1⟩
set_option maxRecDepth 100000 in
theorem CU(k v:ByteArray)(w:World):Calls prog 35 #[.string k,.string v] w fun e w'=>e=.returned (.bool (okKey k&&decide (v.size<=40)))/\w'=w:=by
 obtain⟨kz,Hkz⟩:∃q,Hid (k.size=q):=⟨_,hide rfl⟩;obtain⟨vz,Hvz⟩:∃q,Hid (v.size=q):=⟨_,hide rfl⟩;have HE:Hid ((okKey k&&decide (v.size<=40))=(decide (1<=kz)&&(decide (kz<=32)&&decide (vz<=40)))):=by
  show _=_;unfold okKey;rw[Hkz.out,Hvz.out];by_cases h1:1<=kz<;>by_cases h2:kz<=32<;>by_cases h3:vz<=40<;>simp[h1,h2,h3]
 rw[HE.out];by_cases h1:1<=kz
 ·have g1:1<=k.size:=by rw[Hkz.out];exact h1
  by_cases h2:kz<=32
  ·have g2:k.size<=32:=by rw[Hkz.out];exact h2
   by_cases h3:vz<=40
   ·have g3:v.size<=40:=by rw[Hvz.out];exact h3
    have HR:Hid ((decide (1<=kz)&&(decide (kz<=32)&&decide (vz<=40)))=true):=by show _=_;simp[h1,h2,h3]
    rw[HR.out];go_enter func35,ntmps35;go_wp2;go_ret;exact⟨by simp;omega,rfl⟩
   ·have g3:¬v.size<=40:=by rw[Hvz.out];exact h3
    have HR:Hid ((decide (1<=kz)&&(decide (kz<=32)&&decide (vz<=40)))=false):=by show _=_;simp[h3]
    rw[HR.out];go_enter func35,ntmps35;go_wp2;go_ret;exact⟨by simp;omega,rfl⟩
  ·have g2:¬k.size<=32:=by rw[Hkz.out];exact h2
   have HR:Hid ((decide (1<=kz)&&(decide (kz<=32)&&decide (vz<=40)))=false):=by show _=_;simp[h2]
   rw[HR.out];go_enter func35,ntmps35;go_wp2;go_ret;exact⟨by simp,rfl⟩
 ·have g1:¬1<=k.size:=by rw[Hkz.out];exact h1
  have HR:Hid ((decide (1<=kz)&&(decide (kz<=32)&&decide (vz<=40)))=false):=by show _=_;simp[h1]
  rw[HR.out];go_enter func35,ntmps35;go_wp2;go_ret;exact⟨by simp,rfl⟩
end Go.Proofs.YtjojffepakclcaaGreatDoor
