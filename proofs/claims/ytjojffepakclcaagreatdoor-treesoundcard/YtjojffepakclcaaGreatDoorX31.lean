/- Part of the proof: contracts over the turned program. -/
import Derived.Test.YtjojffepakclcaaGreatDoorX20
import Derived.Test.YtjojffepakclcaaGreatDoorX26
import Derived.Test.YtjojffepakclcaaGreatDoorX23
set_option linter.unusedVariables false
set_option maxHeartbeats 4000000
open Go.Proofs.Tryz
namespace Go.Proofs.YtjojffepakclcaaGreatDoor
def sw0(n:Nat):Sw:=⟨zeroP n,zeroP n,[],false⟩
theorem Dj(n:Nat)(h0:0<n)(h1:n<=160):Tre (sw0 n) n [] 0 [] [] :=
 ⟨.inl ⟨rfl,rfl,rfl⟩,⟨_,Tk.begin n h0 h1,⟨fun _=>by simp,fun z hz=>by cases hz⟩,⟨fun _=>by simp,fun z hz=>by cases hz⟩,fun i _ _ h=>Bool.noConfusion h⟩,(fun x hx=>by cases hx),rfl⟩
theorem FV(C:Cg)(a:Sp)(h:¬256<a.nd.size):C.putE [a]≠8:=by
 have hc:∀D:Cg,D.commitE≠8:=fun D=>by
  unfold Cg.commitE;split
  ·decide
  ·split
   ·decide
   ·decide
 have e:(C.settle [a]).2.2=0:=by
  show (if (0:Int)=0 then (if true=true then (C.root a.page a.nd,C.rootZ a.page a.nd) else (C,a.page,0)) else (C,0,0)).2.2=0;rw[if_pos rfl,if_pos rfl];show (C.rootZ a.page a.nd).2=0;unfold Cg.rootZ;split
  ·rfl
  ·split
   ·rfl
   ·first|rfl|rw[if_neg h]
 unfold Cg.putE;rw[if_pos e];exact hc _
theorem Db(ps:List Pr):(⟨true,ps,[],[]⟩:Nd).size=2+(ps.map Pr.size).sum:=by
 unfold Nd.size;simp
theorem FK{S:Sw}{z:Int}{prs:List Pr}{pgs:List Int}(h:Hold S z prs pgs)(hl:prs.length<=1):(z=0/\prs=[]/\pgs=[])\/(tOk 0 (z,prs) eB eB/\tIn (vS S) 0 (z,prs)/\pgs=[z]):=by
 rcases h with h|⟨d,f,h1,h2,h3,h4⟩
 ·exact .inl h
 ·right;have hd:=(deep d (z,f) eB eB h1).1;cases d with
  | zero =>
   have h3':f=prs:=h3;subst h3';exact⟨h1,h2,h4⟩
  | succ d =>
   have h5:2 ^ (d+1)<=prs.length:=by rw[<-h3];exact hd
   have h6:2<=2 ^ (d+1):=by
    rw[Nat.pow_succ];have:0<2 ^ d:=Nat.pow_pos (by omega);omega
   omega
theorem N8{S:Sw}{z:Int}{prs:List Pr}{pgs:List Int}(h:Hold S z prs pgs)(hk:pgs.length<=2):(z=0/\prs=[]/\pgs=[])\/(tOk 0 (z,prs) eB eB/\tIn (vS S) 0 (z,prs)/\pgs=[z]):=by
 rcases h with h|⟨d,f,h1,h2,h3,h4⟩
 ·exact .inl h
 ·right;have hd:=(deep d (z,f) eB eB h1).2.2;cases d with
  | zero =>
   have h3':f=prs:=h3;subst h3';exact⟨h1,h2,h4⟩
  | succ d =>
   have h6:2<=2 ^ (d+1):=by
    rw[Nat.pow_succ];have:0<2 ^ d:=Nat.pow_pos (by omega);omega
   have h7:2 ^ (d+1+1)=2 ^ (d+1)*2:=Nat.pow_succ ..;have h8:(tpg (d+1) (z,f)).length=pgs.length:=by rw[h4];rfl
   omega
theorem PS(C:Cg)(a:Sp)(h:¬256<a.nd.size)(h1:a.nd.without=false)(h2:a.nd.kd.length≠1)(he:C.putE [a]=0):C.putS [a]=dropL (AT C.S (C.ws++[(a.page,a.nd)])) C.sp:=by
 have e:C.settle [a]=(C.write a.page a.nd,a.page,0):=by
  show (if (0:Int)=0 then (if true=true then (C.root a.page a.nd,C.rootZ a.page a.nd) else (C,a.page,0)) else (C,0,0))=_;rw[if_pos rfl,if_pos rfl];unfold Cg.root Cg.rootZ;rw[h1,if_neg (by simp),if_neg h2,if_neg h,if_neg (by simp),if_neg h2,if_neg h]
 have ec:(C.write a.page a.nd).commitE=0:=by
  unfold Cg.putE at he;rw[e]at he;exact he
 unfold Cg.putS;rw[if_pos he,e];unfold Cg.commitS;rw[if_pos ec];rfl
theorem J5(S:Sw)(z:Int)(x:ByteArray)(hz:0<z):(S.write z x).usedN=S.usedN:=by
 unfold Sw.write;split
 ·unfold Sw.usedN;simp only[List.length_set];have e:isU (S.now.set z.toNat x)=isU S.now:=funext (fun m=>E3 S.now z.toNat m x (by omega));rw[e]
 ·rfl
theorem Of{S:Sw}{n:Nat}{X:List Int}{z:Int}{prs:List Pr}{pgs:List Int}(h:Tre S n X z prs pgs)(hz:tOk 0 (z,prs) eB eB/\tIn (vS S) 0 (z,prs))(key val:ByteArray)(hA:argE key val=false)(hl:2+((putL prs key val).map Pr.size).sum<=256):putTE S z key val≠8:=by
 have hz0:z≠0:=fun e=>by have:=hz.1.1.1;simp only[e]at this;omega
 have hw:=DB 0 (z,prs) eB eB hz.1 hz.2 (B2 key) 41 [] 0 (by omega) (by simp) (by omega);simp only[List.nil_append]at hw;have hw':wayG S key 41 [] z 0=(pmod id 0 (z,prs) key,0,0+0+1):=hw;have e1:(cg0 S).leafE z key=0:=by unfold Cg.leafE;rw[if_neg hz0];show (wayG S key 41 [] z 0).2.1=0;rw[hw']
 have e2:(cg0 S).leafW z key=pmod id 0 (z,prs) key:=by unfold Cg.leafW;rw[if_neg hz0];show (wayG S key 41 [] z 0).1=_;rw[hw']
 unfold putTE;rw[hA,if_neg (by simp),if_pos e1,e2];refine FV _ _ ?_;show ¬256<(⟨true,putL prs key val,[],[]⟩:Nd).size;rw[Db];omega
theorem NH{S:Sw}{n:Nat}{X:List Int}{z:Int}{prs:List Pr}{pgs:List Int}(h:Tre S n X z prs pgs)(hz:tOk 0 (z,prs) eB eB/\tIn (vS S) 0 (z,prs))(key val:ByteArray)(hA:argE key val=false)(hl:2+((putL prs key val).map Pr.size).sum<=256)(he:putTE S z key val=0):(putTS S z key val).usedN=S.usedN:=by
 have hz1:=hz.1.1.1;have hz0:z≠0:=fun e=>by simp only[e]at hz1;omega
 have hw:=DB 0 (z,prs) eB eB hz.1 hz.2 (B2 key) 41 [] 0 (by omega) (by simp) (by omega);simp only[List.nil_append]at hw;have hw':wayG S key 41 [] z 0=(pmod id 0 (z,prs) key,0,0+0+1):=hw;have e1:(cg0 S).leafE z key=0:=by unfold Cg.leafE;rw[if_neg hz0];show (wayG S key 41 [] z 0).2.1=0;rw[hw']
 have e2:(cg0 S).leafW z key=pmod id 0 (z,prs) key:=by unfold Cg.leafW;rw[if_neg hz0];show (wayG S key 41 [] z 0).1=_;rw[hw']
 have e3:(cg0 S).leaf z key=⟨S,0+0+1,[],[],[]⟩:=by unfold Cg.leaf;rw[if_neg hz0];show (⟨S,(wayG S key 41 [] z 0).2.2,[],[],[]⟩:Cg)=_;rw[hw']
 unfold putTE at he;rw[hA,if_neg (by simp),if_pos e1,e2,e3]at he;unfold putTS;rw[hA,if_neg (by simp),if_pos e1,e2,e3];have hnd:setLast (fun n=>n.put key val) (pmod id 0 (z,prs) key)=[⟨z,⟨true,putL prs key val,[],[]⟩,An [] key,(⟨true,prs,[],[]⟩:Nd).size⟩]:=rfl;rw[hnd]at he |-;rw[PS _ _ ?_ ?_ ?_ he]
 ·show (S.write z _).usedN=_;exact J5 S z _ (by show 0<z;have:1<=z:=hz1;omega)
 ·show ¬256<(⟨true,putL prs key val,[],[]⟩:Nd).size;rw[Db];omega
 ·show ((putL prs key val).length==0&&_)=false;have:(putL prs key val).length≠0:=by unfold putL;simp
  rw[show ((putL prs key val).length==0)=false by simpa using this];rfl
 ·show (0:Nat)≠1;omega
theorem Mf{S:Sw}{n:Nat}(h:Tre S n [] 0 [] [])(h2:1<n)(key val:ByteArray)(hk:okKey key=true)(hv:val.size<=40):putTE S 0 key val≠8:=by
 obtain⟨U,hT,hO,hX,hu⟩:=h.u;have hks:=AE hk;have hA:argE key val=false:=decide_eq_false (by omega);have hU:U 1=false:=by
  cases e:U 1 with
  | false=>rfl
  | true =>
   have:=hu 1 (by omega) h2 e;simp at this
 obtain⟨a,_⟩:=hT.take 1 (fillB 0) (by omega) h2 hU (fun i h1 h2=>by omega) (Bz 0);have e1:(cg0 S).leafE 0 key=0:=by show S.takeE.2=0;rw[a]
 unfold putTE;rw[hA,if_neg (by simp),if_pos e1];refine FV _ _ ?_;show ¬256<(⟨true,putL [] key val,[],[]⟩:Nd).size;rw[Db];show ¬256<2+(2+key.size+val.size+0);omega
theorem Nh{S:Sw}{z:Int}{prs:List Pr}(hz:tOk 0 (z,prs) eB eB/\tIn (vS S) 0 (z,prs))(key:ByteArray)(hl:2+((cutP prs key).map Pr.size).sum<=256):delTE S z key≠8:=by
 have hz0:z≠0:=fun e=>by have:=hz.1.1.1;simp only[e]at this;omega
 have hw:=DB 0 (z,prs) eB eB hz.1 hz.2 (B2 key) 41 [] 0 (by omega) (by simp) (by omega);simp only[List.nil_append]at hw;have hw':wayG S key 41 [] z 0=(pmod id 0 (z,prs) key,0,0+0+1):=hw;have ew:delW S z key=pmod (fun n=>n.cut key) 0 (z,prs) key:=by unfold delW;rw[hw'];exact BK _ 0 (z,prs) eB eB hz.1 (B2 key)
 unfold delTE;rw[if_neg hz0,if_pos (by rw[hw'])];split
 ·rw[ew];refine FV _ _ ?_;show ¬256<(⟨true,cutP prs key,[],[]⟩:Nd).size;rw[Db];omega
 ·decide
theorem IC(a b x y:ByteArray)(ha:a=⟨#[97]⟩)(hb:b=⟨#[98]⟩)(hx:x=⟨#[49]⟩)(hy:y=⟨#[50]⟩):∃(S1 S2 S3:Sw) (z1 z2 z3:Int),putTE (sw0 4) 0 a x=0/\putTZ (sw0 4) 0 a x=z1/\putTS (sw0 4) 0 a x=S1/\S1.notes=[]/\S1.now.length<=1000/\okZ z1/\putTE S1 z1 b y=0/\putTZ S1 z1 b y=z2/\putTS S1 z1 b y=S2/\S2.notes=[]/\S2.now.length<=1000/\okZ z2/\delTE S2 z2 a=0/\delTB S2 z2 a=true/\delTZ S2 z2 a=z3/\delTS S2 z2 a=S3/\getT S3 z3 b=(y,true,0)/\CC S3 z3=(1,1,true):=by
 subst ha hb hx hy;have t0:=Dj 4 (by omega) (by omega);have q1:putL [] ⟨#[97]⟩ ⟨#[49]⟩=[⟨⟨#[97]⟩,⟨#[49]⟩⟩]:=rfl;have q2:putL [⟨⟨#[97]⟩,⟨#[49]⟩⟩] ⟨#[98]⟩ ⟨#[50]⟩=[⟨⟨#[97]⟩,⟨#[49]⟩⟩,⟨⟨#[98]⟩,⟨#[50]⟩⟩]:=by
  unfold putL;rw[show findN [⟨⟨#[97]⟩,⟨#[49]⟩⟩] ⟨#[98]⟩=1 by decide,show behind [⟨⟨#[97]⟩,⟨#[49]⟩⟩] ⟨#[98]⟩=1 by decide];rfl
 have q3:hasN [⟨⟨#[97]⟩,⟨#[49]⟩⟩,⟨⟨#[98]⟩,⟨#[50]⟩⟩] ⟨#[97]⟩=true:=by decide
 have q4:cutP [⟨⟨#[97]⟩,⟨#[49]⟩⟩,⟨⟨#[98]⟩,⟨#[50]⟩⟩] ⟨#[97]⟩=[⟨⟨#[98]⟩,⟨#[50]⟩⟩]:=by
  unfold cutP;rw[show findN [⟨⟨#[97]⟩,⟨#[49]⟩⟩,⟨⟨#[98]⟩,⟨#[50]⟩⟩] ⟨#[97]⟩=0 by decide,show behind [⟨⟨#[97]⟩,⟨#[49]⟩⟩,⟨⟨#[98]⟩,⟨#[50]⟩⟩] ⟨#[97]⟩=1 by decide];rfl
 have q5:hasN [⟨⟨#[98]⟩,⟨#[50]⟩⟩] ⟨#[98]⟩=true:=by decide
 have q6:getL [⟨⟨#[98]⟩,⟨#[50]⟩⟩] ⟨#[98]⟩=⟨#[50]⟩:=by decide
 obtain⟨_,h1⟩:=Hw t0 ⟨#[97]⟩ ⟨#[49]⟩ (by decide) (by decide);rcases h1 with ⟨e1,p1,t1⟩|⟨e1,_⟩
 case inr=>exact absurd e1 (Mf t0 (by omega) _ _ (by decide) (by decide))
 rw[q1]at t1;have hz:∀{S:Sw} {X:List Int} {z:Int} {prs:List Pr} {pgs:List Int},Tre S 4 X z prs pgs->S.notes=[]/\S.now.length<=1000/\okZ z:=fun t=>by
  obtain⟨U,hT,hO,_,_⟩:=t.u;refine⟨t.nt,by rw[hT.len];omega,?_⟩;rcases t.ho with ⟨h,_,_⟩|⟨d,f,h,_,_,h4⟩
  ·rw[h];exact⟨by omega,by omega⟩
  ·have:=h.1;exact⟨by omega,by omega⟩
 obtain⟨n1,l1,o1⟩:=hz t1;obtain⟨S1,hS1⟩:∃S,putTS (sw0 4) 0 ⟨#[97]⟩ ⟨#[49]⟩=S:=⟨_,rfl⟩;obtain⟨z1,hz1⟩:∃z,putTZ (sw0 4) 0 ⟨#[97]⟩ ⟨#[49]⟩=z:=⟨_,rfl⟩;rw[hS1]at t1 n1 l1;rw[hz1]at t1 o1;obtain⟨_,h2⟩:=Hw t1 ⟨#[98]⟩ ⟨#[50]⟩ (by decide) (by decide);rw[q2]at h2;rcases h2 with ⟨e2,p2,t2⟩|⟨e2,_⟩
 case inr =>
  rcases FK t1.ho (by simp)with ⟨_,h,_⟩|⟨h3,h4,_⟩
  ·cases h
  ·exact absurd e2 (Of t1 ⟨h3,h4⟩ _ _ (by decide) (by rw[q2];decide))
 obtain⟨n2,l2,o2⟩:=hz t2;obtain⟨S2,hS2⟩:∃S,putTS S1 z1 ⟨#[98]⟩ ⟨#[50]⟩=S:=⟨_,rfl⟩;obtain⟨z2,hz2⟩:∃z,putTZ S1 z1 ⟨#[98]⟩ ⟨#[50]⟩=z:=⟨_,rfl⟩;rw[hS2]at t2 n2 l2;rw[hz2]at t2 o2;obtain⟨_,h3⟩:=H9 t2 ⟨#[97]⟩;rw[q3]at h3;simp only[if_true,q4]at h3;have hp2:p2.length<=2:=by
  have u1:=CQ t1;have u2:=CQ t2;rcases FK t1.ho (by simp)with ⟨_,h,_⟩|⟨h3,h4,h5⟩
  ·cases h
  ·have:=NH t1 ⟨h3,h4⟩ ⟨#[98]⟩ ⟨#[50]⟩ (by decide) (by rw[q2];decide) e2;rw[hS2,u1,u2,h5]at this;simp at this;omega
 rcases h3 with ⟨e3,b3,p3,t3⟩|⟨e3,_⟩
 case inr =>
  rcases N8 t2.ho hp2 with ⟨_,h,_⟩|⟨g3,g4,_⟩
  ·cases h
  ·exact absurd e3 (Nh ⟨g3,g4⟩ _ (by rw[q4];decide))
 refine⟨S1,S2,_,z1,z2,_,e1,hz1,hS1,n1,l1,o1,e2,hz2,hS2,n2,l2,o2,e3,b3,rfl,rfl,?_,?_⟩
 ·rw[KW t3,q5,q6];rfl
 ·obtain⟨D,hD,h⟩:=Cj t3;rw[hD];rcases h with ⟨_,h⟩|⟨h1,h2,_,h4,h5⟩
  ·cases h
  ·rcases FK t3.ho (by simp)with ⟨_,h,_⟩|⟨_,_,g5⟩
   ·cases h
   ·have hD1:D=1:=by
     have hl:2 ^ (D - 1)<=1:=h4;rcases Nat.lt_or_ge 1 D with h|h
     ·have:2 ^ 1<=2 ^ (D - 1):=Nat.pow_le_pow_right (by omega) (by omega);omega
     ·omega
    rw[hD1,g5];rfl
theorem O8{l:List Pr}(h:Asc l)(k v:ByteArray):Asc (putL l k v):=by
 obtain⟨A,C,e1,e2,hA,hC,hAC⟩:=Eu l h k;unfold putL;rw[e1,e2];have hp:=List.pairwise_append.1 hAC;refine List.pairwise_append.2 ⟨List.pairwise_append.2 ⟨hp.1,List.pairwise_singleton _ _,fun a ha b hb=>?_⟩,hp.2.1,fun a ha b hb=>?_⟩
 ·rw[List.mem_singleton.1 hb];exact(hA a ha).2
 ·rcases List.mem_append.1 ha with ha|ha
  ·exact hp.2.2 a ha b hb
  ·rw[List.mem_singleton.1 ha];exact(hC b hb).2
theorem MT(l:List Pr)(k v:ByteArray):(putL l k v).length<=l.length+1:=by
 unfold putL;have:=Bl l k;have h2:findN l k<=behind l k:=by unfold behind;split<;>omega
 simp only[List.length_append,List.length_take,List.length_drop,List.length_cons,List.length_nil];omega
theorem No(l:List Pr)(k:ByteArray):(cutP l k).length<=l.length:=(FC l k).length_le
end Go.Proofs.YtjojffepakclcaaGreatDoor
namespace Go.Proofs.YtjojffepakclcaaGreatDoor
open Go.RowKit
set_option maxRecDepth 100000 in
theorem CG (n : Nat) (w : World) (h1 : 1 ≤ n) (h2 : n ≤ 160) :
    Calls prog 17 #[.int .i64 (n : Int)] w fun e w' => ∃ r V c, e = .returned (.pointer (some ⟨r, 0, none⟩)) ∧ Wk w' r V c 0 (sw0 n) ∧ (∀ k, V k → w.heap.size ≤ k ∧ k < w'.heap.size) ∧ Kp none' w w' := by
  have HW : Hid (wrap64 (126 + 4 * (n : Int)) = 126 + 4 * (n : Int)) := by show _ = _; unfold wrap64; omega
  have HO : Hid (∀ (w1 : World) (p : Dp), Dev w1 p (fresh (newN (126 + 4 * (n : Int)))) → Calls prog 29 #[.pointer (some ⟨p.d, 0, none⟩), .int .i64 (n : Int)] w1 fun e w' => ∃ g, e = .returned (.tuple #[.pointer (some ⟨g, 0, none⟩), .int .i64 0]) ∧ Rest w' p (fresh (126 + 4 * n)) n (fun _ => fillB 0) 0 ∧ Pag w' g p n 0 (.slice none 0 0) [] ∧ w1.heap.size ≤ g ∧ Kp p.mem w1 w') := fun w1 p hD => JD (Nn h2 hD) h1 h2
  have HBG : Hid (∀ (w1 : World) (q : Cq) (D : Dv), q.n = n → Kp none' w w1 → Cas w1 q (fun k => w.heap.size ≤ k) D (fun _ => fillB 0) 0 0 [] 0 0 → Calls prog 32 #[.pointer (some ⟨q.c, 0, none⟩)] w1 fun e w' => ∃ r V c, e = .returned (.tuple #[.pointer (some ⟨r, 0, none⟩), .int .i64 0]) ∧ Wk w' r V c 0 (sw0 n) ∧ (∀ k, V k → w.heap.size ≤ k ∧ k < w'.heap.size) ∧ Kp none' w w') := fun w1 q D hq hk hC => by
    have hC' : Cst w1 q (fun k => w.heap.size ≤ k) D (fun _ => fillB 0) 0 0 ⟨[], 0, 0⟩ := hC
    refine (Jy hC' (zeroP n) (by rw [Eo, hq]) (by omega) (by omega) (fun i hi => by rw [Ji n i (by omega)]) (IE n) (by show 0 + 0 ≤ _; omega)).mono ?_
    rintro e w' ⟨r, rfl, F', V, s', a1, a2, a3⟩
    refine ⟨r, fun k => V k ∧ k < w'.heap.size, q.c, rfl, a1.mono (fun k h1 h => ⟨h, h1⟩) (Nat.le_refl _), fun k h => ⟨?_, h.2⟩, hk.trans a2.k (fun _ _ h => h) (fun k hk h => absurd h (by omega))⟩
    have := (a3 k h.1).1
    have := hk.size
    omega
  go_enter func17, ntmps17
  go_wp2_with (first
    | (go_at_call 31; refine (In _ _).mono ?_; rintro e w' ⟨rfl, rfl⟩; rw [HW.out])
    | (go_at_call 30; refine (OC _ _).mono ?_; rintro e w1 ⟨p, rfl, hD1, hk1, hm1⟩)
    | (go_at_call 29; refine (HO.out w1 p hD1).mono ?_; rintro e w2 ⟨g, rfl, hR2, hP2, hg2, hk2⟩)
    | (go_at_call 33; refine (Mw 8 hR2 rfl hP2 (by omega) (fun _ => Bz 0)).mono ?_; rintro e w3 ⟨q, rfl, hq1, hq2, hq3, hq4, hC3, hk3⟩; have HC3 := hide hC3; have HQ := hide (And.intro hq1 (And.intro hq2 (And.intro hq3 hq4))); clear hC3 hq1 hq2 hq3 hq4)
    | (go_at_call 32
       have hkN := kpN hk1 hk2 hm1
       have hs1 := hk1.size
       have hs2 := hkN.size
       refine (HBG.out w3 q _ HQ.out.1 (hkN.then hk3) (HC3.out.mono (fun k _ hk => by
         rcases hk with h | h | h
         · exact hm1 k h
         · omega
         · omega))).mono ?_
       rintro e w4 ⟨r, V, c, rfl, hend⟩)
    | fail)
  go_ret
  exact ⟨r, V, c, rfl, hend⟩
end Go.Proofs.YtjojffepakclcaaGreatDoor
