/- Part of the proof: contracts over the turned program. -/
import Derived.Test.YtgcgacjhkhjhmaaGreatDoorX22
import Derived.Test.YtgcgacjhkhjhmaaGreatDoorX25
import Derived.Test.YtgcgacjhkhjhmaaGreatDoorX5
set_option linter.unusedVariables false
set_option maxHeartbeats 4000000
open Go.Proofs.Tryz
namespace Go.Proofs.YtgcgacjhkhjhmaaGreatDoor
def sw0(n:Nat):Sw:=⟨zeroP n,zeroP n,[],false⟩
theorem MD(n:Nat)(h0:0<n)(h1:n<=160):Tre (sw0 n) n [] 0 [] [] :=
 ⟨.inl ⟨rfl,rfl,rfl⟩,⟨_,Tk.begin n h0 h1,⟨fun _=>by simp,fun z hz=>by cases hz⟩,⟨fun _=>by simp,fun z hz=>by cases hz⟩,fun i _ _ h=>Bool.noConfusion h⟩,(fun x hx=>by cases hx),rfl⟩
theorem Fy(C:Cg)(a:Sp)(h:¬256<a.nd.size):C.putE [a]≠8:=by
 have hc:∀D:Cg,D.commitE≠8:=fun D=>by
  unfold Cg.commitE;split
  ·decide
  ·split
   ·decide
   ·decide
 have e:(C.settle [a]).2.2=0:=by
  show (if (0:Int)=0 then (if true=true then (C.root a.page a.nd,C.rootZ a.page a.nd) else (C,a.page,0)) else (C,0,0)).2.2=0;rw[if_pos rfl,if_pos rfl];show (C.rootZ a.page a.nd).2=0;unfold Cg.rootZ;split
  ·rfl
  ·split
   ·rfl
   ·first|rfl|rw[if_neg h]
 unfold Cg.putE;rw[if_pos e];exact hc _
theorem C9(ps:List Pr):(⟨true,ps,[],[]⟩:Nd).size=2+(ps.map Pr.size).sum:=by
 unfold Nd.size;simp
theorem Fc{S:Sw}{z:Int}{prs:List Pr}{pgs:List Int}(h:Hold S z prs pgs)(hl:prs.length<=1):(z=0/\prs=[]/\pgs=[])\/(tOk 0 (z,prs) eB eB/\tIn (vS S) 0 (z,prs)/\pgs=[z]):=by
 rcases h with h|⟨d,f,h1,h2,h3,h4⟩
 ·exact .inl h
 ·right;have hd:=(deep d (z,f) eB eB h1).1;cases d with
  | zero =>
   have h3':f=prs:=h3;subst h3';exact⟨h1,h2,h4⟩
  | succ d =>
   have h5:2 ^ (d+1)<=prs.length:=by rw[<-h3];exact hd
   have h6:2<=2 ^ (d+1):=by
    rw[Nat.pow_succ];have:0<2 ^ d:=Nat.pow_pos (by omega);omega
   omega
theorem Nn{S:Sw}{z:Int}{prs:List Pr}{pgs:List Int}(h:Hold S z prs pgs)(hk:pgs.length<=2):(z=0/\prs=[]/\pgs=[])\/(tOk 0 (z,prs) eB eB/\tIn (vS S) 0 (z,prs)/\pgs=[z]):=by
 rcases h with h|⟨d,f,h1,h2,h3,h4⟩
 ·exact .inl h
 ·right;have hd:=(deep d (z,f) eB eB h1).2.2;cases d with
  | zero =>
   have h3':f=prs:=h3;subst h3';exact⟨h1,h2,h4⟩
  | succ d =>
   have h6:2<=2 ^ (d+1):=by
    rw[Nat.pow_succ];have:0<2 ^ d:=Nat.pow_pos (by omega);omega
   have h7:2 ^ (d+1+1)=2 ^ (d+1)*2:=Nat.pow_succ ..;have h8:(tpg (d+1) (z,f)).length=pgs.length:=by rw[h4];rfl
   omega
theorem P7(C:Cg)(a:Sp)(h:¬256<a.nd.size)(h1:a.nd.without=false)(h2:a.nd.kd.length≠1)(he:C.putE [a]=0):C.putS [a]=dropL (writeL C.S (C.ws++[(a.page,a.nd)])) C.sp:=by
 have e:C.settle [a]=(C.write a.page a.nd,a.page,0):=by
  show (if (0:Int)=0 then (if true=true then (C.root a.page a.nd,C.rootZ a.page a.nd) else (C,a.page,0)) else (C,0,0))=_;rw[if_pos rfl,if_pos rfl];unfold Cg.root Cg.rootZ;rw[h1,if_neg (by simp),if_neg h2,if_neg h,if_neg (by simp),if_neg h2,if_neg h]
 have ec:(C.write a.page a.nd).commitE=0:=by
  unfold Cg.putE at he;rw[e]at he;exact he
 unfold Cg.putS;rw[if_pos he,e];unfold Cg.commitS;rw[if_pos ec];rfl
theorem KB(S:Sw)(z:Int)(x:ByteArray)(hz:0<z):(S.write z x).usedN=S.usedN:=by
 unfold Sw.write;split
 ·unfold Sw.usedN;simp only[List.length_set];have e:isU (S.now.set z.toNat x)=isU S.now:=funext (fun m=>EQ S.now z.toNat m x (by omega));rw[e]
 ·rfl
theorem Oc{S:Sw}{n:Nat}{X:List Int}{z:Int}{prs:List Pr}{pgs:List Int}(h:Tre S n X z prs pgs)(hz:tOk 0 (z,prs) eB eB/\tIn (vS S) 0 (z,prs))(key val:ByteArray)(hA:argE key val=false)(hl:2+((putL prs key val).map Pr.size).sum<=256):putTE S z key val≠8:=by
 have hz0:z≠0:=fun e=>by have:=hz.1.1.1;simp only[e]at this;omega
 have hw:=Dy 0 (z,prs) eB eB hz.1 hz.2 (Cf key) 41 [] 0 (by omega) (by simp) (by omega);simp only[List.nil_append]at hw;have hw':wayG S key 41 [] z 0=(pmod id 0 (z,prs) key,0,0+0+1):=hw;have e1:(cg0 S).leafE z key=0:=by unfold Cg.leafE;rw[if_neg hz0];show (wayG S key 41 [] z 0).2.1=0;rw[hw']
 have e2:(cg0 S).leafW z key=pmod id 0 (z,prs) key:=by unfold Cg.leafW;rw[if_neg hz0];show (wayG S key 41 [] z 0).1=_;rw[hw']
 unfold putTE;rw[hA,if_neg (by simp),if_pos e1,e2];refine Fy _ _ ?_;show ¬256<(⟨true,putL prs key val,[],[]⟩:Nd).size;rw[C9];omega
theorem Of{S:Sw}{n:Nat}{X:List Int}{z:Int}{prs:List Pr}{pgs:List Int}(h:Tre S n X z prs pgs)(hz:tOk 0 (z,prs) eB eB/\tIn (vS S) 0 (z,prs))(key val:ByteArray)(hA:argE key val=false)(hl:2+((putL prs key val).map Pr.size).sum<=256)(he:putTE S z key val=0):(putTS S z key val).usedN=S.usedN:=by
 have hz1:=hz.1.1.1;have hz0:z≠0:=fun e=>by simp only[e]at hz1;omega
 have hw:=Dy 0 (z,prs) eB eB hz.1 hz.2 (Cf key) 41 [] 0 (by omega) (by simp) (by omega);simp only[List.nil_append]at hw;have hw':wayG S key 41 [] z 0=(pmod id 0 (z,prs) key,0,0+0+1):=hw;have e1:(cg0 S).leafE z key=0:=by unfold Cg.leafE;rw[if_neg hz0];show (wayG S key 41 [] z 0).2.1=0;rw[hw']
 have e2:(cg0 S).leafW z key=pmod id 0 (z,prs) key:=by unfold Cg.leafW;rw[if_neg hz0];show (wayG S key 41 [] z 0).1=_;rw[hw']
 have e3:(cg0 S).leaf z key=⟨S,0+0+1,[],[],[]⟩:=by unfold Cg.leaf;rw[if_neg hz0];show (⟨S,(wayG S key 41 [] z 0).2.2,[],[],[]⟩:Cg)=_;rw[hw']
 unfold putTE at he;rw[hA,if_neg (by simp),if_pos e1,e2,e3]at he;unfold putTS;rw[hA,if_neg (by simp),if_pos e1,e2,e3];have hnd:setLast (fun n=>n.put key val) (pmod id 0 (z,prs) key)=[⟨z,⟨true,putL prs key val,[],[]⟩,An [] key,(⟨true,prs,[],[]⟩:Nd).size⟩]:=rfl;rw[hnd]at he |-;rw[P7 _ _ ?_ ?_ ?_ he]
 ·show (S.write z _).usedN=_;exact KB S z _ (by show 0<z;have:1<=z:=hz1;omega)
 ·show ¬256<(⟨true,putL prs key val,[],[]⟩:Nd).size;rw[C9];omega
 ·show ((putL prs key val).length==0&&_)=false;have:(putL prs key val).length≠0:=by unfold putL;simp
  rw[show ((putL prs key val).length==0)=false by simpa using this];rfl
 ·show (0:Nat)≠1;omega
theorem Mh{S:Sw}{n:Nat}(h:Tre S n [] 0 [] [])(h2:1<n)(key val:ByteArray)(hk:okKey key=true)(hv:val.size<=40):putTE S 0 key val≠8:=by
 obtain⟨U,hT,hO,hX,hu⟩:=h.u;have hks:=AN hk;have hA:argE key val=false:=decide_eq_false (by omega);have hU:U 1=false:=by
  cases e:U 1 with
  | false=>rfl
  | true =>
   have:=hu 1 (by omega) h2 e;simp at this
 obtain⟨a,_⟩:=hT.take 1 (fillB 0) (by omega) h2 hU (fun i h1 h2=>by omega) (A8 0);have e1:(cg0 S).leafE 0 key=0:=by show S.takeE.2=0;rw[a]
 unfold putTE;rw[hA,if_neg (by simp),if_pos e1];refine Fy _ _ ?_;show ¬256<(⟨true,putL [] key val,[],[]⟩:Nd).size;rw[C9];show ¬256<2+(2+key.size+val.size+0);omega
theorem M8{S:Sw}{z:Int}{prs:List Pr}(hz:tOk 0 (z,prs) eB eB/\tIn (vS S) 0 (z,prs))(key:ByteArray)(hl:2+((cutP prs key).map Pr.size).sum<=256):delTE S z key≠8:=by
 have hz0:z≠0:=fun e=>by have:=hz.1.1.1;simp only[e]at this;omega
 have hw:=Dy 0 (z,prs) eB eB hz.1 hz.2 (Cf key) 41 [] 0 (by omega) (by simp) (by omega);simp only[List.nil_append]at hw;have hw':wayG S key 41 [] z 0=(pmod id 0 (z,prs) key,0,0+0+1):=hw;have ew:delW S z key=pmod (fun n=>n.cut key) 0 (z,prs) key:=by unfold delW;rw[hw'];exact BH _ 0 (z,prs) eB eB hz.1 (Cf key)
 unfold delTE;rw[if_neg hz0,if_pos (by rw[hw'])];split
 ·rw[ew];refine Fy _ _ ?_;show ¬256<(⟨true,cutP prs key,[],[]⟩:Nd).size;rw[C9];omega
 ·decide
theorem II(a b x y:ByteArray)(ha:a=⟨#[97]⟩)(hb:b=⟨#[98]⟩)(hx:x=⟨#[49]⟩)(hy:y=⟨#[50]⟩):∃(S1 S2 S3:Sw) (z1 z2 z3:Int),putTE (sw0 4) 0 a x=0/\putTZ (sw0 4) 0 a x=z1/\putTS (sw0 4) 0 a x=S1/\S1.notes=[]/\S1.now.length<=1000/\okZ z1/\putTE S1 z1 b y=0/\putTZ S1 z1 b y=z2/\putTS S1 z1 b y=S2/\S2.notes=[]/\S2.now.length<=1000/\okZ z2/\delTE S2 z2 a=0/\delTB S2 z2 a=true/\delTZ S2 z2 a=z3/\delTS S2 z2 a=S3/\getT S3 z3 b=(y,true,0)/\AP S3 z3=(1,1,true):=by
 subst ha hb hx hy;have t0:=MD 4 (by omega) (by omega);have q1:putL [] ⟨#[97]⟩ ⟨#[49]⟩=[⟨⟨#[97]⟩,⟨#[49]⟩⟩]:=rfl;have q2:putL [⟨⟨#[97]⟩,⟨#[49]⟩⟩] ⟨#[98]⟩ ⟨#[50]⟩=[⟨⟨#[97]⟩,⟨#[49]⟩⟩,⟨⟨#[98]⟩,⟨#[50]⟩⟩]:=by
  unfold putL;rw[show findN [⟨⟨#[97]⟩,⟨#[49]⟩⟩] ⟨#[98]⟩=1 by decide,show behind [⟨⟨#[97]⟩,⟨#[49]⟩⟩] ⟨#[98]⟩=1 by decide];rfl
 have q3:hasN [⟨⟨#[97]⟩,⟨#[49]⟩⟩,⟨⟨#[98]⟩,⟨#[50]⟩⟩] ⟨#[97]⟩=true:=by decide
 have q4:cutP [⟨⟨#[97]⟩,⟨#[49]⟩⟩,⟨⟨#[98]⟩,⟨#[50]⟩⟩] ⟨#[97]⟩=[⟨⟨#[98]⟩,⟨#[50]⟩⟩]:=by
  unfold cutP;rw[show findN [⟨⟨#[97]⟩,⟨#[49]⟩⟩,⟨⟨#[98]⟩,⟨#[50]⟩⟩] ⟨#[97]⟩=0 by decide,show behind [⟨⟨#[97]⟩,⟨#[49]⟩⟩,⟨⟨#[98]⟩,⟨#[50]⟩⟩] ⟨#[97]⟩=1 by decide];rfl
 have q5:hasN [⟨⟨#[98]⟩,⟨#[50]⟩⟩] ⟨#[98]⟩=true:=by decide
 have q6:getL [⟨⟨#[98]⟩,⟨#[50]⟩⟩] ⟨#[98]⟩=⟨#[50]⟩:=by decide
 obtain⟨_,h1⟩:=Lv t0 ⟨#[97]⟩ ⟨#[49]⟩ (by decide) (by decide);rcases h1 with ⟨e1,p1,t1⟩|⟨e1,_⟩
 case inr=>exact absurd e1 (Mh t0 (by omega) _ _ (by decide) (by decide))
 rw[q1]at t1;have hz:∀{S:Sw} {X:List Int} {z:Int} {prs:List Pr} {pgs:List Int},Tre S 4 X z prs pgs->S.notes=[]/\S.now.length<=1000/\okZ z:=fun t=>by
  obtain⟨U,hT,hO,_,_⟩:=t.u;refine⟨t.nt,by rw[hT.len];omega,?_⟩;rcases t.ho with ⟨h,_,_⟩|⟨d,f,h,_,_,h4⟩
  ·rw[h];exact⟨by omega,by omega⟩
  ·have:=h.1;exact⟨by omega,by omega⟩
 obtain⟨n1,l1,o1⟩:=hz t1;obtain⟨S1,hS1⟩:∃S,putTS (sw0 4) 0 ⟨#[97]⟩ ⟨#[49]⟩=S:=⟨_,rfl⟩;obtain⟨z1,hz1⟩:∃z,putTZ (sw0 4) 0 ⟨#[97]⟩ ⟨#[49]⟩=z:=⟨_,rfl⟩;rw[hS1]at t1 n1 l1;rw[hz1]at t1 o1;obtain⟨_,h2⟩:=Lv t1 ⟨#[98]⟩ ⟨#[50]⟩ (by decide) (by decide);rw[q2]at h2;rcases h2 with ⟨e2,p2,t2⟩|⟨e2,_⟩
 case inr =>
  rcases Fc t1.ho (by simp)with ⟨_,h,_⟩|⟨h3,h4,_⟩
  ·cases h
  ·exact absurd e2 (Oc t1 ⟨h3,h4⟩ _ _ (by decide) (by rw[q2];decide))
 obtain⟨n2,l2,o2⟩:=hz t2;obtain⟨S2,hS2⟩:∃S,putTS S1 z1 ⟨#[98]⟩ ⟨#[50]⟩=S:=⟨_,rfl⟩;obtain⟨z2,hz2⟩:∃z,putTZ S1 z1 ⟨#[98]⟩ ⟨#[50]⟩=z:=⟨_,rfl⟩;rw[hS2]at t2 n2 l2;rw[hz2]at t2 o2;obtain⟨_,h3⟩:=Pv t2 ⟨#[97]⟩;rw[q3]at h3;simp only[if_true,q4]at h3;have hp2:p2.length<=2:=by
  have u1:=Jr t1;have u2:=Jr t2;rcases Fc t1.ho (by simp)with ⟨_,h,_⟩|⟨h3,h4,h5⟩
  ·cases h
  ·have:=Of t1 ⟨h3,h4⟩ ⟨#[98]⟩ ⟨#[50]⟩ (by decide) (by rw[q2];decide) e2;rw[hS2,u1,u2,h5]at this;simp at this;omega
 rcases h3 with ⟨e3,b3,p3,t3⟩|⟨e3,_⟩
 case inr =>
  rcases Nn t2.ho hp2 with ⟨_,h,_⟩|⟨g3,g4,_⟩
  ·cases h
  ·exact absurd e3 (M8 ⟨g3,g4⟩ _ (by rw[q4];decide))
 refine⟨S1,S2,_,z1,z2,_,e1,hz1,hS1,n1,l1,o1,e2,hz2,hS2,n2,l2,o2,e3,b3,rfl,rfl,?_,?_⟩
 ·rw[Pw t3,q5,q6];rfl
 ·obtain⟨D,hD,h⟩:=ME t3;rw[hD];rcases h with ⟨_,h⟩|⟨h1,h2,_,h4,h5⟩
  ·cases h
  ·rcases Fc t3.ho (by simp)with ⟨_,h,_⟩|⟨_,_,g5⟩
   ·cases h
   ·have hD1:D=1:=by
     have hl:2 ^ (D - 1)<=1:=h4;rcases Nat.lt_or_ge 1 D with h|h
     ·have:2 ^ 1<=2 ^ (D - 1):=Nat.pow_le_pow_right (by omega) (by omega);omega
     ·omega
    rw[hD1,g5];rfl
end Go.Proofs.YtgcgacjhkhjhmaaGreatDoor
namespace Go.Proofs.YtgcgacjhkhjhmaaGreatDoor
open Go
def Tx(S:Sw)(n:Nat):Prop:=∃U,Tk S n U
theorem Tx.write{S:Sw}{n:Nat}(h:Tx S n)(z:Int)(x:ByteArray):Tx (S.write z x) n:=by
 obtain⟨U,h⟩:=h;unfold Sw.write;split
 ·next he =>
  unfold Sw.writeE at he;rw[h.ov]at he;simp only[Bool.false_eq_true,if_false]at he;split at he
  ·next ht =>
   split at he
   ·next hx =>
    unfold AW at ht;rw[Bool.and_eq_true]at ht;have hz:=of_decide_eq_true ht.1;exact⟨U,h.put z.toNat x (by omega) hx⟩
   ·cases he
  ·cases he
 ·exact⟨U,h⟩
theorem Tx.take{S:Sw}{n:Nat}(h:Tx S n)(Z:ByteArray)(hZ:Z.size=256):Tx (S.take Z) n:=by
 obtain⟨U,h⟩:=h;unfold Sw.take;rw[if_neg (by simp[h.ov])];cases hf:S.free with
 | none=>exact⟨U,h⟩
 | some m =>
  unfold Sw.free at hf;have h1:=Gp _ _ _ _ hf;have hl:=h.len;have h0:=h.l0;exact⟨_,(h.turn m (by omega) (by omega)).put m Z (by omega) hZ⟩
theorem Tx.drop{S:Sw}{n:Nat}(h:Tx S n)(z:Int):Tx (S.drop z) n:=by
 obtain⟨U,h⟩:=h;unfold Sw.drop;split
 ·next he =>
  unfold Sw.dropE at he;rw[h.ov]at he;simp only[Bool.false_eq_true,if_false]at he;split at he
  ·next ht =>
   unfold AW at ht;rw[Bool.and_eq_true]at ht;have hz:=of_decide_eq_true ht.1;have hl:=h.len;exact⟨_,h.turn z.toNat (by omega) (by omega)⟩
  ·cases he
 ·exact⟨U,h⟩
theorem Tx.dropL{n:Nat}:∀(l:List Int) (S:Sw),Tx S n->Tx (dropL S l) n
 | [],S,h=>h
 | z::l,S,h=>Tx.dropL l (S.drop z) (h.drop z)
theorem Tx.writeL{n:Nat}:∀(l:List (Int × Nd)) (S:Sw),Tx S n->Tx (writeL S l) n
 | [],S,h=>h
 | p::l,S,h=>Tx.writeL l (S.write p.1 p.2.write) (h.write p.1 p.2.write)
theorem Ny(n:Nat):Inv (fun C=>Tx C.S n):=⟨fun C C' h e _=>by rw[e];exact h,fun C h=>by
 unfold Cg.take
 split
 ·exact h.take _ (A8 0)
 ·exact h⟩
theorem Px{n:Nat}(C:Cg)(way:List Sp)(hC:Tx C.S n):Tx (C.putS way) n:=by
 have h:=(Ny n).settle (C:=C) hC way;unfold Cg.putS;split
 ·unfold Cg.commitS;split
  ·exact Tx.dropL _ _ (Tx.writeL _ _ h)
  ·exact h
 ·exact Tx.dropL _ _ h
theorem Lw{n:Nat}(S:Sw)(z:Int)(key:ByteArray)(h:Tx S n):Tx ((cg0 S).leaf z key).S n:=by
 unfold Cg.leaf;split
 ·exact(Ny n).take _ h
 ·exact h
theorem OE{n:Nat}(S:Sw)(z:Int)(key val:ByteArray)(h:Tx S n):Tx (putTS S z key val) n:=by
 unfold putTS;split
 ·exact h
 ·split
  ·exact Px _ _ (Lw S z key h)
  ·exact Lw S z key h
def Up(j:Nat):Nat->Bool:=fun i=>decide (i<=j)
theorem PA(n:Nat)(h0:0<n)(h1:n<=160):Tk (sw0 n) n (Up 0):=(Tk.begin n h0 h1).congr (fun i hi _=>by unfold Up;rw[decide_eq_false (by omega)])
theorem Pz{S:Sw}{n j:Nat}(h:Tk S n (Up j))(hj:j+1<n):S.takeE=(((j+1:Nat):Int),0)/\Tk (S.take (fillB 0)) n (Up (j+1)):=by
 have h1:=h.take (j+1) (fillB 0) (by omega) hj (by unfold Up;rw[decide_eq_false (by omega)]) (fun i _ hi=>by unfold Up;rw[decide_eq_true (by omega)]) (A8 0);refine⟨h1.1,h1.2.congr (fun i _ _=>?_)⟩;unfold Up;by_cases hi:i=j+1
 ·subst hi;simp
 ·rw[show (i==j+1)=false by simp[hi],Bool.false_or,decide_eq_decide];omega
theorem OG{S:Sw}{n j:Nat}(h:Tk S n (Up (j+1)))(hj:j+1<n)(x:ByteArray)(hx:x.size=256):S.writeE ((j+1:Nat):Int) x=0/\Tk (S.write ((j+1:Nat):Int) x) n (Up (j+1)):=by
 have hu:Up (j+1) (((j+1:Nat):Int)).toNat=true:=by unfold Up;rw[Int.toNat_natCast,decide_eq_true (by omega)]
 refine⟨?_,(h.write _ x (by omega) (by omega) hu hx).2⟩;unfold Sw.writeE;rw[h.ov];simp only[Bool.false_eq_true,if_false];have ht:AW S.now ((j+1:Nat):Int)=true:=by
  unfold AW;rw[decide_eq_true (by rw[h.len];omega),Int.toNat_natCast,h.us (j+1) (by omega) hj,Bool.true_and];rw[Int.toNat_natCast]at hu;exact hu
 rw[if_pos ht,if_pos hx]
theorem IX(n:Nd):n.write.size<=1000/\(n.writeE=0->n.write.size=256):=by
 unfold Nd.write;by_cases h:n.writeE=0
 ·rw[if_pos h,AB,CO h];exact⟨by omega,fun _=>rfl⟩
 ·rw[if_neg h];exact⟨by simp[AB],fun h2=>absurd h2 h⟩
theorem In(S:Sw):(if S.over then [] else chgK S.base S.now S.now.length).length=S.changed.length:=by
 unfold Sw.changed chgs chgK;split
 ·rfl
 ·rw[List.length_map]
end Go.Proofs.YtgcgacjhkhjhmaaGreatDoor
namespace Go.Proofs.YtgcgacjhkhjhmaaGreatDoor
open Go.RowKit
set_option maxRecDepth 100000 in
theorem Kw (n : Nat) (w : World) (h1 : 1 ≤ n) (h2 : n ≤ 160) :
    Calls prog 5 #[.int .i64 (n : Int)] w fun e w' => ∃ r V c, e = .returned (.pointer (some ⟨r, 0, none⟩)) ∧ Wk w' r V c 0 (sw0 n) ∧ (∀ k, V k → w.heap.size ≤ k ∧ k < w'.heap.size) ∧ Kp none' w w' := by
  have HW : Hid (wrap64 (126 + 4 * (n : Int)) = 126 + 4 * (n : Int)) := by show _ = _; unfold wrap64; omega
  have HO : Hid (∀ (w1 : World) (p : Dp), Dev w1 p (fresh (newN (126 + 4 * (n : Int)))) → Calls prog 16 #[.pointer (some ⟨p.d, 0, none⟩), .int .i64 (n : Int)] w1 fun e w' => ∃ g, e = .returned (.tuple #[.pointer (some ⟨g, 0, none⟩), .int .i64 0]) ∧ Rest w' p (fresh (126 + 4 * n)) n (fun _ => fillB 0) 0 ∧ Pag w' g p n 0 (.slice none 0 0) [] ∧ w1.heap.size ≤ g ∧ Kp p.mem w1 w') := fun w1 p hD => FE (I9 h2 hD) h1 h2
  have HBG : Hid (∀ (w1 : World) (q : Cq) (D : Dv), q.n = n → Kp none' w w1 → Cas w1 q (fun k => w.heap.size ≤ k) D (fun _ => fillB 0) 0 0 [] 0 0 → Calls prog 19 #[.pointer (some ⟨q.c, 0, none⟩)] w1 fun e w' => ∃ r V c, e = .returned (.tuple #[.pointer (some ⟨r, 0, none⟩), .int .i64 0]) ∧ Wk w' r V c 0 (sw0 n) ∧ (∀ k, V k → w.heap.size ≤ k ∧ k < w'.heap.size) ∧ Kp none' w w') := fun w1 q D hq hk hC => by
    have hC' : Cst w1 q (fun k => w.heap.size ≤ k) D (fun _ => fillB 0) 0 0 ⟨[], 0, 0⟩ := hC
    refine (FJ hC' (zeroP n) (by rw [Ct, hq]) (by omega) (by omega) (fun i hi => by rw [D9 n i (by omega)]) (FT n) (by show 0 + 0 ≤ _; omega)).mono ?_
    rintro e w' ⟨r, rfl, F', V, s', a1, a2, a3⟩
    refine ⟨r, fun k => V k ∧ k < w'.heap.size, q.c, rfl, a1.mono (fun k h1 h => ⟨h, h1⟩) (Nat.le_refl _), fun k h => ⟨?_, h.2⟩, hk.trans a2.k (fun _ _ h => h) (fun k hk h => absurd h (by omega))⟩
    have := (a3 k h.1).1
    have := hk.size
    omega
  go_enter func5, ntmps5
  go_wp2_with (first
    | (go_at_call 18; refine (Fs _ _).mono ?_; rintro e w' ⟨rfl, rfl⟩; rw [HW.out])
    | (go_at_call 17; refine (Lb _ _).mono ?_; rintro e w1 ⟨p, rfl, hD1, hk1, hm1⟩)
    | (go_at_call 16; refine (HO.out w1 p hD1).mono ?_; rintro e w2 ⟨g, rfl, hR2, hP2, hg2, hk2⟩)
    | (go_at_call 20; refine (Ir 8 hR2 rfl hP2 (by omega) (fun _ => A8 0)).mono ?_; rintro e w3 ⟨q, rfl, hq1, hq2, hq3, hq4, hC3, hk3⟩; have HC3 := hide hC3; have HQ := hide (And.intro hq1 (And.intro hq2 (And.intro hq3 hq4))); clear hC3 hq1 hq2 hq3 hq4)
    | (go_at_call 19
       have hkN := kpN hk1 hk2 hm1
       have hs1 := hk1.size
       have hs2 := hkN.size
       refine (HBG.out w3 q _ HQ.out.1 (hkN.then hk3) (HC3.out.mono (fun k _ hk => by
         rcases hk with h | h | h
         · exact hm1 k h
         · omega
         · omega))).mono ?_
       rintro e w4 ⟨r, V, c, rfl, hend⟩)
    | fail)
  go_ret
  exact ⟨r, V, c, rfl, hend⟩
end Go.Proofs.YtgcgacjhkhjhmaaGreatDoor
