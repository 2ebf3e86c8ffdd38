/- Part of the proof: contracts over the turned program. -/
import Derived.Test.YtjojffepakclcaaGreatDoorX1
set_option linter.unusedVariables false
set_option maxHeartbeats 4000000
open Go.Proofs.Tryz
namespace Go.Proofs.YtjojffepakclcaaGreatDoor
abbrev Rst:=ByteArray × Int
def sStr(r:Rst)(m:Int):Rst:=(strS r.1 r.2 m,strE r.1 r.2 m)
def gStr(r:Rst)(m:Int):ByteArray:=strR r.1 r.2 m
def sNum(r:Rst)(k:Int):Rst:=(rawS r.1 r.2 (wid k),rawE r.1 r.2 (wid k))
def gNum(r:Rst)(k:Int):Nat:=val (rawR r.1 r.2 (wid k)).data.toList
def ldS(r:Rst):Nat->Rst
 | 0=>r
 | j+1=>sStr (sStr (ldS r j) 32) 40
def ldP(r:Rst):Nat->List Pr
 | 0=>[]
 | j+1=>ldP r j++[⟨gStr (ldS r j) 32,gStr (sStr (ldS r j) 32) 40⟩]
def ndS(r:Rst):Nat->Rst
 | 0=>r
 | j+1=>sNum (sStr (ndS r j) 32) 2
def ndK(r:Rst):Nat->List ByteArray
 | 0=>[]
 | j+1=>ndK r j++[gStr (ndS r j) 32]
def ndD(r:Rst):Nat->List Int
 | 0=>[]
 | j+1=>ndD r j++[(gNum (sStr (ndS r j) 32) 2:Int)]
theorem H8(r:Rst):∀j,(ldP r j).length=j
 | 0=>rfl
 | j+1=>by rw[ldP,List.length_append,H8 r j];rfl
theorem GJ(r:Rst):∀j,(ndK r j).length=j
 | 0=>rfl
 | j+1=>by rw[ndK,List.length_append,GJ r j];rfl
theorem G3(r:Rst):∀j,(ndD r j).length=j
 | 0=>rfl
 | j+1=>by rw[ndD,List.length_append,G3 r j];rfl
theorem J7(s:ByteArray)(e m:Int)(h:e≠0):strE s e m=e:=by unfold strE;rw[if_pos h]
theorem Ki(s:ByteArray)(e k:Int)(h:e≠0):rawE s e k=e:=by unfold rawE;rw[if_pos h]
theorem CI(r:Rst)(m:Int)(h:r.2≠0):(sStr r m).2≠0:=by show strE _ _ _≠0;rw[J7 _ _ _ h];exact h
theorem FU(r:Rst)(k:Int)(h:r.2≠0):(sNum r k).2≠0:=by show rawE _ _ _≠0;rw[Ki _ _ _ h];exact h
theorem Mb(s:ByteArray)(e m:Int):(strR s e m).size<=255:=by
 unfold strR;split
 ·rw[ByteArray.size_extract];have:strN s<256:=UInt8.toNat_lt _;omega
 ·exact Nat.zero_le _
theorem Mm(r:Rst)(m:Int):(gStr r m).size<=255:=Mb _ _ _
theorem Cv(s:ByteArray)(e m:Int):(strS s e m).size<=s.size:=by
 unfold strS;split
 ·rw[ByteArray.size_extract];omega
 ·exact Nat.le_refl _
theorem Dz(s:ByteArray)(e k:Int):(rawS s e k).size<=s.size:=by
 unfold rawS;split
 ·exact Nat.le_refl _
 ·rw[ByteArray.size_extract];omega
theorem Fl(r:Rst):∀j,(ldS r j).1.size<=r.1.size
 | 0=>Nat.le_refl _
 | j+1=>Nat.le_trans (Cv _ _ _) (Nat.le_trans (Cv _ _ _) (Fl r j))
theorem Fg(r:Rst):∀j,(ndS r j).1.size<=r.1.size
 | 0=>Nat.le_refl _
 | j+1=>Nat.le_trans (Dz _ _ _) (Nat.le_trans (Cv _ _ _) (Fg r j))
theorem EZ(r:Rst):gNum r 2<65536:=by
 unfold gNum;have h1:=Og (rawR r.1 r.2 (wid 2)).data.toList;have h2:(rawR r.1 r.2 (wid 2)).data.toList.length<=2:=by
  rw[AG];have:=Ei r.1 r.2 (wid 2);have e:((wid 2:Nat):Int)=2:=rfl;omega
 exact PW h1 (Nat.le_trans (Nat.pow_le_pow_right (by omega) h2) (by omega))
def pStrM(m:Nat)(l:List UInt8):Option (ByteArray × List UInt8):=match pStr l with
 | some (k,r)=>if k.size<=m then some (k,r) else none
 | none=>none
theorem Fe(l:List UInt8)(m:Nat):match pStrM m l with
  | some (k,r)=>gStr (mkB l,0) m=k/\sStr (mkB l,0) m=(mkB r,0)
  | none=>(sStr (mkB l,0) m).2≠0:=by
 have hsz:=AK l;cases l with
 | nil =>
  show strE (mkB []) 0 m≠0;unfold strE;rw[if_neg (by omega),if_pos (by rw[AK];rfl)];omega
 | cons c r =>
  have hN:strN (mkB (c::r))=c.toNat:=rfl;unfold pStrM pStr;dsimp only;simp only[List.length_cons]at hsz;by_cases h1:c.toNat<=r.length
  ·rw[if_pos h1];dsimp only;have hk:(mkB (r.take c.toNat)).size=c.toNat:=by rw[AK,List.length_take];omega
   rw[hk];by_cases h2:c.toNat<=m
   ·rw[if_pos h2];have hok:strOk (mkB (c::r)) 0 (m:Int)=true:=by
     unfold strOk;rw[decide_eq_true_eq,hN];omega
    refine⟨?_,?_⟩
    ·show strR _ _ _=_;unfold strR;rw[if_pos hok,hN,DK];congr 1;show r.take _=_;congr 1;omega
    ·have e1:strS (mkB (c::r)) 0 (m:Int)=mkB (r.drop c.toNat):=by
      unfold strS;rw[if_pos hok,hN,DK];congr 1;rw[show 1+c.toNat=c.toNat+1 by omega,List.drop_succ_cons];exact List.take_of_length_le (by rw[List.length_drop];omega)
     have e2:strE (mkB (c::r)) 0 (m:Int)=0:=by
      unfold strE;rw[if_neg (by omega),if_neg (by omega),hN,if_neg (by omega),if_neg (by omega)]
     show (strS _ _ _,strE _ _ _)=_;rw[e1,e2]
   ·rw[if_neg h2];show strE (mkB (c::r)) 0 (m:Int)≠0;unfold strE;rw[if_neg (by omega),if_neg (by omega),hN,if_pos (by omega)];omega
  ·rw[if_neg h1];show strE (mkB (c::r)) 0 (m:Int)≠0;unfold strE;rw[if_neg (by omega),if_neg (by omega),hN];split
   ·omega
   ·rw[if_pos (by omega)];omega
theorem IU(l:List UInt8):if 2<=l.length then gNum (mkB l,0) 2=val (l.take 2)/\sNum (mkB l,0) 2=(mkB (l.drop 2),0) else (sNum (mkB l,0) 2).2≠0:=by
 have hw:wid 2=2:=rfl;split
 ·rename_i h;have h1:=Km (l.take 2) (l.drop 2);rw[List.take_append_drop,List.length_take,Nat.min_eq_left h]at h1;unfold gNum sNum;rw[hw];dsimp only;rw[h1.1,h1.2.1,h1.2.2,Ci];exact⟨rfl,rfl⟩
 ·rename_i h;show rawE (mkB l) 0 (wid 2:Nat)≠0;unfold rawE;rw[if_neg (by omega),if_pos (by rw[AK,hw];omega)];omega
def pPrsM:Nat->List UInt8->Option (List Pr × List UInt8)
 | 0,l=>some ([],l)
 | j+1,l=>match pPrsM j l with
  | none=>none
  | some (ps,r)=>match pStrM 32 r with
   | none=>none
   | some (k,r1)=>match pStrM 40 r1 with
    | none=>none
    | some (v,r2)=>some (ps++[⟨k,v⟩],r2)
theorem Kl(l:List UInt8):∀j,match pPrsM j l with
  | some (ps,r)=>ldP (mkB l,0) j=ps/\ldS (mkB l,0) j=(mkB r,0)
  | none=>(ldS (mkB l,0) j).2≠0
 | 0=>⟨rfl,rfl⟩
 | j+1=>by
  have ih:=Kl l j
  show match (match pPrsM j l with
   | none=>none
   | some (ps,r)=>match pStrM 32 r with
    | none=>none
    | some (k,r1)=>match pStrM 40 r1 with
     | none=>none
     | some (v,r2)=>some (ps++[(⟨k,v⟩:Pr)],r2)) with
   | some (ps,r)=>ldP (mkB l,0) j++[(⟨gStr (ldS (mkB l,0) j) 32,gStr (sStr (ldS (mkB l,0) j) 32) 40⟩:Pr)]=ps/\sStr (sStr (ldS (mkB l,0) j) 32) 40=(mkB r,0)
   | none=>(sStr (sStr (ldS (mkB l,0) j) 32) 40).2≠0
  cases h:pPrsM j l with
  | none =>
   rw[h]at ih
   exact CI _ _ (CI _ _ ih)
  | some x =>
   obtain⟨ps,r⟩:=x
   rw[h]at ih
   dsimp only at ih |-
   rw[ih.1,ih.2]
   have h1:=Fe r 32
   cases e1:pStrM 32 r with
   | none =>
    rw[e1]at h1
    exact CI _ _ h1
   | some y =>
    obtain⟨k,r1⟩:=y
    rw[e1]at h1
    dsimp only at h1 |-
    rw[show ((32:Nat):Int)=32 from rfl]at h1
    rw[h1.1,h1.2]
    have h2:=Fe r1 40
    cases e2:pStrM 40 r1 with
    | none =>
     rw[e2]at h2
     exact h2
    | some z =>
     obtain⟨v,r2⟩:=z
     rw[e2]at h2
     dsimp only at h2 |-
     rw[show ((40:Nat):Int)=40 from rfl]at h2
     rw[h2.1,h2.2]
     exact⟨rfl,rfl⟩
theorem Dr{m:Nat}{l r:List UInt8}{k:ByteArray}(h:pStrM m l=some (k,r)):l=strB k.data.toList++r/\k.size<=m/\k.size<=255:=by
 unfold pStrM at h;split at h
 ·rename_i k' r' e;split at h
  ·rename_i hm;cases h
   unfold pStr at e;split at e
   ·rename_i c q;split at e
    ·rename_i hc;cases e
     have hk:(mkB (q.take c.toNat)).size=c.toNat:=by rw[AK,List.length_take];omega
     have h255:c.toNat<256:=UInt8.toNat_lt _;refine⟨?_,hm,by omega⟩;rw[DE _ (by rw[AG];omega),AG,hk,Ci,List.cons_append,List.take_append_drop,UInt8.ofNat_toNat]
    ·cases e
   ·cases e
  ·cases h
 ·cases h
theorem EA(m:Nat)(s:ByteArray)(r:List UInt8)(h:s.size<=m)(h':s.size<=255):pStrM m (strB s.data.toList++r)=some (s,r):=by
 unfold pStrM;rw[DQ s r h'];dsimp only;rw[if_pos h]
theorem DF(l:List Pr)(p:Pr):encPs (l++[p])=encPs l++encPr p:=by simp[encPs]
theorem FS(l:List UInt8):∀j ps r,pPrsM j l=some (ps,r)->ps.length=j/\l=encPs ps++r
 | 0,ps,r,h=>by
  cases h
  exact⟨rfl,rfl⟩
 | j+1,ps,r,h=>by
  unfold pPrsM at h
  split at h
  ·cases h
  ·rename_i ps0 r0 e0
   split at h
   ·cases h
   ·rename_i k r1 e1
    split at h
    ·cases h
    ·rename_i v r2 e2
     cases h
     obtain⟨i1,i2⟩:=FS l j ps0 r0 e0
     obtain⟨a1,a2,a3⟩:=Dr e1
     obtain⟨b1,b2,b3⟩:=Dr e2
     refine⟨by rw[List.length_append,i1];rfl,?_⟩
     rw[i2,a1,b1,DF]
     unfold encPr
     simp only[List.append_assoc]
theorem Fs{α:Type}{l:List α}{j:Nat}(h:l.length=j+1):∃q p,l=q++[p]/\q.length=j:=by
 refine⟨l.take j,l[j]'(by omega),?_,by rw[List.length_take];omega⟩;rw[<-List.take_succ_eq_append_getElem,List.take_of_length_le (by omega)]
theorem Gk:∀(j:Nat) (ps:List Pr) (r:List UInt8),ps.length=j->(∀p∈ps,p.k.size<=32/\p.v.size<=40)->pPrsM j (encPs ps++r)=some (ps,r)
 | 0,ps,r,h,_=>by
  rw[List.length_eq_zero_iff.1 h]
  rfl
 | j+1,ps,r,h,hs=>by
  obtain⟨q,p,rfl,hq⟩:=Fs h
  have hp:=hs p (by simp)
  have e:encPs (q++[p])++r=encPs q++(strB p.k.data.toList++(strB p.v.data.toList++r)):=by
   rw[DF];unfold encPr;simp only[List.append_assoc]
  rw[e];unfold pPrsM;rw[Gk j q _ hq (fun x hx=>hs x (by simp[hx]))];dsimp only;rw[EA _ _ _ hp.1 (by omega)];dsimp only;rw[EA _ _ _ hp.2 (by omega)]
def pKsM:Nat->List UInt8->Option (List ByteArray × List Int × List UInt8)
 | 0,l=>some ([],[],l)
 | j+1,l=>match pKsM j l with
  | none=>none
  | some (ks,ds,r)=>match pStrM 32 r with
   | none=>none
   | some (k,r1)=>if 2<=r1.length then some (ks++[k],ds++[(val (r1.take 2):Int)],r1.drop 2) else none
theorem Kx(l:List UInt8):∀j,match pKsM j l with
  | some (ks,ds,r)=>ndK (mkB l,0) j=ks/\ndD (mkB l,0) j=ds/\ndS (mkB l,0) j=(mkB r,0)
  | none=>(ndS (mkB l,0) j).2≠0
 | 0=>⟨rfl,rfl,rfl⟩
 | j+1=>by
  have ih:=Kx l j
  show match (match pKsM j l with
   | none=>none
   | some (ks,ds,r)=>match pStrM 32 r with
    | none=>none
    | some (k,r1)=>if 2<=r1.length then some (ks++[k],ds++[(val (r1.take 2):Int)],r1.drop 2) else none) with
   | some (ks,ds,r)=>ndK (mkB l,0) j++[gStr (ndS (mkB l,0) j) 32]=ks/\ndD (mkB l,0) j++[(gNum (sStr (ndS (mkB l,0) j) 32) 2:Int)]=ds/\sNum (sStr (ndS (mkB l,0) j) 32) 2=(mkB r,0)
   | none=>(sNum (sStr (ndS (mkB l,0) j) 32) 2).2≠0
  cases h:pKsM j l with
  | none =>
   rw[h]at ih
   exact FU _ _ (CI _ _ ih)
  | some x =>
   obtain⟨ks,ds,r⟩:=x
   rw[h]at ih
   dsimp only at ih |-
   rw[ih.1,ih.2.1,ih.2.2]
   have h1:=Fe r 32
   cases e1:pStrM 32 r with
   | none =>
    rw[e1]at h1
    exact FU _ _ h1
   | some y =>
    obtain⟨k,r1⟩:=y
    rw[e1]at h1
    dsimp only at h1 |-
    rw[show ((32:Nat):Int)=32 from rfl]at h1
    rw[h1.1,h1.2]
    have h2:=IU r1
    by_cases hl:2<=r1.length
    ·rw[if_pos hl]at h2 |-
     dsimp only
     rw[h2.1,h2.2]
     exact⟨rfl,rfl,rfl⟩
    ·rw[if_neg hl]at h2 |-
     exact h2
theorem KV(l:List UInt8)(h:l.length=2):be (val l) 2=l:=by
 match l,h with
 | [a,b],_ =>
  have ha:=UInt8.toNat_lt a;have hb:=UInt8.toNat_lt b;show [UInt8.ofNat (val [a,b] / 2 ^ (8*1)),UInt8.ofNat (val [a,b] / 2 ^ (8*0))]=[a,b];have e:val [a,b]=a.toNat*256+b.toNat:=by simp[val]
  rw[e];have e1:(a.toNat*256+b.toNat) / 2 ^ (8*1)=a.toNat:=by omega
  have e2:(a.toNat*256+b.toNat) / 2 ^ (8*0)=a.toNat*256+b.toNat:=by omega
  rw[e1,e2];have e3:UInt8.ofNat (a.toNat*256+b.toNat)=b:=by
   apply UInt8.toNat.inj;rw[UInt8.toNat_ofNat'];omega
  rw[e3,UInt8.ofNat_toNat]
theorem CS:∀(l:List ByteArray) (m:List Int) (k:ByteArray) (d:Int),m.length=l.length->encKs (l++[k]) (m++[d])=encKs l m++(strB k.data.toList++be d.toNat 2)
 | [],[],k,d,_=>by simp[encKs]
 | x::l,z::m,k,d,h=>by
  have ih:=CS l m k d (by simpa using h)
  simp only[List.cons_append,encKs,List.append_assoc]at ih |-
  rw[ih]
theorem Gx(l:List UInt8):∀j ks ds r,pKsM j l=some (ks,ds,r)->ks.length=j/\ds.length=j/\l=encKs ks ds++r
 | 0,ks,ds,r,h=>by
  cases h
  exact⟨rfl,rfl,rfl⟩
 | j+1,ks,ds,r,h=>by
  unfold pKsM at h
  split at h
  ·cases h
  ·rename_i ks0 ds0 r0 e0
   split at h
   ·cases h
   ·rename_i k r1 e1
    split at h
    ·rename_i hl
     cases h
     obtain⟨i1,i2,i3⟩:=Gx l j ks0 ds0 r0 e0
     obtain⟨a1,a2,a3⟩:=Dr e1
     refine⟨by rw[List.length_append,i1];rfl,by rw[List.length_append,i2];rfl,?_⟩
     have e2:be ((val (r1.take 2):Int)).toNat 2=r1.take 2:=by
      rw[Int.toNat_natCast];exact KV _ (by rw[List.length_take];omega)
     rw[CS _ _ _ _ (by omega),e2,i3,a1];simp only[List.append_assoc,List.take_append_drop]
    ·cases h
theorem Je:∀(j:Nat) (ks:List ByteArray) (ds:List Int) (r:List UInt8),ks.length=j->ds.length=j->(∀k∈ks,k.size<=32)->(∀d∈ds,1<=d/\d<=65535)->pKsM j (encKs ks ds++r)=some (ks,ds,r)
 | 0,ks,ds,r,h,h',_,_=>by
  rw[List.length_eq_zero_iff.1 h,List.length_eq_zero_iff.1 h']
  rfl
 | j+1,ks,ds,r,h,h',hk,hd=>by
  obtain⟨q,p,rfl,hq⟩:=Fs h
  obtain⟨q',d,rfl,hq'⟩:=Fs h'
  have hp:=hk p (by simp)
  have h2:(be d.toNat 2).length=2:=Cf _ _
  have e:encKs (q++[p]) (q'++[d])++r=encKs q q'++(strB p.data.toList++(be d.toNat 2++r)):=by
   rw[CS _ _ _ _ (by omega)];simp only[List.append_assoc]
  have e1:(be d.toNat 2++r).take 2=be d.toNat 2:=by
   have:=List.take_left (l₁:=be d.toNat 2) (l₂:=r);rw[h2]at this;exact this
  have e2:(be d.toNat 2++r).drop 2=r:=by
   have:=List.drop_left (l₁:=be d.toNat 2) (l₂:=r);rw[h2]at this;exact this
  rw[e];unfold pKsM;rw[Je j q q' _ hq hq' (fun x hx=>hk x (by simp[hx])) (fun x hx=>hd x (by simp[hx]))];dsimp only;rw[EA _ _ _ hp (by omega)];dsimp only;rw[if_pos (by rw[List.length_append,h2];omega),e1,e2,EW d (hd d (by simp))]
theorem Ix(l:List UInt8)(h:∀x∈l,x=0):l=List.replicate l.length 0:=List.eq_replicate_iff.2 ⟨rfl,h⟩
theorem Cu(s:ByteArray)(n:Nd):readN s=some n↔n.writeE=0/\mkB n.page=s:=by
 constructor
 ·intro h;obtain⟨h1,h2⟩:=Bn h;refine⟨h1,?_⟩;unfold Nd.write at h2;rw[if_pos h1]at h2;exact h2
 ·rintro ⟨h1,h2⟩;have:=EJ h1;unfold Nd.write at this;rw[if_pos h1,h2]at this;exact this
theorem GP{a b:List UInt8}(h:mkB a=mkB b):a=b:=by
 have:=congrArg (fun s:ByteArray=>s.data.toList) h;exact this
theorem GE{n:Nd}(hr:n.right=true)(h:n.body.length<=256):n.writeE=0:=by
 unfold Nd.writeE;rw[if_pos hr,if_neg (by rw[<-DP hr];omega)]
theorem AA{n:Nd}(h:n.writeE=0):n.right=true/\n.size<=256:=by
 unfold Nd.writeE at h;split at h
 ·rename_i hr;split at h
  ·cases h
  ·exact⟨hr,by omega⟩
 ·cases h
theorem LH(c:UInt8)(l:List UInt8)(h:l.length=254):readN (mkB (1::c::l)) =
  if (ldS (mkB l,0) c.toNat).2=0/\(⟨true,ldP (mkB l,0) c.toNat,[],[]⟩:Nd).right=true/\(∀x∈(ldS (mkB l,0) c.toNat).1.data.toList,x=0) then some ⟨true,ldP (mkB l,0) c.toNat,[],[]⟩ else none:=by
 have hsp:=Kl l c.toNat;split
 ·rename_i hc;obtain⟨h1,h2,h3⟩:=hc;cases e:pPrsM c.toNat l with
  | none=>rw[e]at hsp;exact absurd h1 hsp
  | some x =>
   obtain⟨ps,r⟩:=x;rw[e]at hsp;dsimp only at hsp;rw[hsp.1]at h2 |-;rw[hsp.2]at h3;obtain⟨g1,g2⟩:=FS l _ _ _ e;have hz:=Ix r h3;rw[Cu];have hb:(⟨true,ps,[],[]⟩:Nd).body=1::c::encPs ps:=by
    show [1,UInt8.ofNat ps.length]++encPs ps=_;rw[g1,UInt8.ofNat_toNat];rfl
   have hlen:=congrArg List.length g2;rw[List.length_append,h]at hlen;refine⟨GE h2 (by rw[hb];simp only[List.length_cons];omega),?_⟩;unfold Nd.page;rw[hb];congr 1;show 1::c::(encPs ps++_)=_;rw[g2,show 256 - (1::c::encPs ps).length=r.length by simp only[List.length_cons];omega,<-hz]
 ·rename_i hc;cases e:readN (mkB (1::c::l)) with
  | none=>rfl
  | some m =>
   exfalso;obtain⟨h1,h2⟩:=(Cu _ _).1 e;have h3:=GP h2;obtain⟨hr,hsz⟩:=AA h1;cases hl:m.leaf with
   | false =>
    unfold Nd.page Nd.body at h3;rw[hl]at h3;simp only[Bool.false_eq_true,if_false,List.cons_append]at h3;have:=(List.cons.inj h3).1;cases this
   | true =>
    obtain⟨a1,a2,a3,a4⟩:=AR hr hl;have hps:=BY hr hl;have hlen:m.ps.length<=255:=by
     have:=Fn m.ps (fun p hp=>(hps p hp).1.1);unfold Nd.size at hsz;rw[hl,if_pos rfl]at hsz;omega
    have hm:m=⟨true,m.ps,[],[]⟩:=by
     cases m
     dsimp only at *;subst a2 a3 hl;rfl
    have hpg:m.page=1::UInt8.ofNat m.ps.length::(encPs m.ps++List.replicate (256 - m.body.length) 0):=by
     unfold Nd.page;conv=>lhs;arg 1;unfold Nd.body
     rw[hl,if_pos rfl];rfl
    rw[hpg]at h3;have h4:=(List.cons.inj (List.cons.inj h3).2).1;have h5:=(List.cons.inj (List.cons.inj h3).2).2;have eb:c.toNat=m.ps.length:=by
     rw[<-h4,UInt8.toNat_ofNat'];exact Nat.mod_eq_of_lt (by omega)
    have hp:=Gk c.toNat m.ps (List.replicate (256 - m.body.length) 0) eb.symm (fun p hp=>⟨(hps p hp).1.2,(hps p hp).2⟩);rw[h5]at hp;rw[hp]at hsp;dsimp only at hsp;refine hc ⟨by rw[hsp.2],?_,?_⟩
    ·rw[hsp.1,<-hm];exact hr
    ·rw[hsp.2];intro x hx;exact(List.mem_replicate.1 hx).2
theorem J3(c:UInt8)(l:List UInt8)(h:l.length=254):readN (mkB (2::c::l)) =
  if (ndS (sNum (mkB l,0) 2) c.toNat).2=0/\(⟨false,[],ndK (sNum (mkB l,0) 2) c.toNat,(gNum (mkB l,0) 2:Int)::ndD (sNum (mkB l,0) 2) c.toNat⟩:Nd).right=true/\(∀x∈(ndS (sNum (mkB l,0) 2) c.toNat).1.data.toList,x=0) then some ⟨false,[],ndK (sNum (mkB l,0) 2) c.toNat,(gNum (mkB l,0) 2:Int)::ndD (sNum (mkB l,0) 2) c.toNat⟩ else none:=by
 have hs2:=IU l;rw[if_pos (by omega)]at hs2;rw[hs2.1,hs2.2];have hsp:=Kx (l.drop 2) c.toNat;split
 ·rename_i hc;obtain⟨h1,h2,h3⟩:=hc;cases e:pKsM c.toNat (l.drop 2) with
  | none=>rw[e]at hsp;exact absurd h1 hsp
  | some x =>
   obtain⟨ks,ds,r⟩:=x;rw[e]at hsp;dsimp only at hsp;rw[hsp.1,hsp.2.1]at h2 |-;rw[hsp.2.2]at h3;obtain⟨g1,g2,g3⟩:=Gx _ _ _ _ _ e;have hz:=Ix r h3;rw[Cu];have hb:(⟨false,[],ks,(val (l.take 2):Int)::ds⟩:Nd).body=2::c::(l.take 2++encKs ks ds):=by
    show [2,UInt8.ofNat ks.length]++be ((val (l.take 2):Int)).toNat 2++encKs ks ds=_;rw[g1,UInt8.ofNat_toNat,Int.toNat_natCast,KV _ (by rw[List.length_take];omega)];rfl
   have hlen:=congrArg List.length g3;rw[List.length_append,List.length_drop,h]at hlen;have htk:(l.take 2).length=2:=by rw[List.length_take];omega
   refine⟨GE h2 (by rw[hb];simp only[List.length_cons,List.length_append,htk];omega),?_⟩;unfold Nd.page;rw[hb];congr 1;show 2::c::((l.take 2++encKs ks ds)++_)=_;rw[show 256 - (2::c::(l.take 2++encKs ks ds)).length=r.length by simp only[List.length_cons,List.length_append,htk];omega,<-hz,List.append_assoc,<-g3,List.take_append_drop]
 ·rename_i hc;cases e:readN (mkB (2::c::l)) with
  | none=>rfl
  | some m =>
   exfalso;obtain⟨h1,h2⟩:=(Cu _ _).1 e;have h3:=GP h2;obtain⟨hr,hsz⟩:=AA h1;cases hl:m.leaf with
   | true =>
    unfold Nd.page Nd.body at h3;rw[hl,if_pos rfl]at h3;simp only[List.cons_append]at h3;have:=(List.cons.inj h3).1;cases this
   | false =>
    obtain⟨a1,a2,a3,a4⟩:=Aw hr hl;have hks:=Be a4;have hlen:m.ks.length<=255:=by
     have:=DJ m.ks (fun k hk=>(hks k hk).1);unfold Nd.size at hsz;rw[hl]at hsz;simp only[Bool.false_eq_true,if_false]at hsz;omega
    obtain⟨d,ds,hkd⟩:∃d m',m.kd=d::m':=by
     cases hk:m.kd with
     | nil=>rw[hk]at a3;simp at a3
     | cons d m'=>exact⟨d,m',rfl⟩
    rw[hkd]at a1 a3;have hm:m=⟨false,[],m.ks,d::ds⟩:=by
     cases m
     dsimp only at *;subst a2 hl hkd;rfl
    have hpg:m.page=2::UInt8.ofNat m.ks.length::(be d.toNat 2++(encKs m.ks ds++List.replicate (256 - m.body.length) 0)):=by
     unfold Nd.page;conv=>lhs;arg 1;unfold Nd.body
     rw[hl,hkd];simp only[Bool.false_eq_true,if_false,List.headD_cons,List.tail_cons,List.append_assoc,List.cons_append,List.nil_append]
    rw[hpg]at h3;have h4:=(List.cons.inj (List.cons.inj h3).2).1;have h5:=(List.cons.inj (List.cons.inj h3).2).2;have eb:c.toNat=m.ks.length:=by
     rw[<-h4,UInt8.toNat_ofNat'];exact Nat.mod_eq_of_lt (by omega)
    have h2':(be d.toNat 2).length=2:=Cf _ _;have e1:l.take 2=be d.toNat 2:=by
     rw[<-h5];have:=List.take_left (l₁:=be d.toNat 2) (l₂:=encKs m.ks ds++List.replicate (256 - m.body.length) 0);rw[h2']at this;exact this
    have e2:l.drop 2=encKs m.ks ds++List.replicate (256 - m.body.length) 0:=by
     rw[<-h5];have:=List.drop_left (l₁:=be d.toNat 2) (l₂:=encKs m.ks ds++List.replicate (256 - m.body.length) 0);rw[h2']at this;exact this
    simp only[List.length_cons]at a3;have hp:=Je c.toNat m.ks ds (List.replicate (256 - m.body.length) 0) eb.symm (by omega) (fun k hk=>(hks k hk).2) (fun z hz=>a1 z (List.mem_cons_of_mem _ hz));rw[e2]at hsp hc;rw[hp]at hsp;dsimp only at hsp;refine hc ⟨by rw[hsp.2.2],?_,?_⟩
    ·rw[hsp.1,hsp.2.1,e1,EW d (a1 d List.mem_cons_self),<-hm];exact hr
    ·rw[hsp.2.2];intro x hx;exact(List.mem_replicate.1 hx).2
theorem Ls(s:ByteArray)(h:s.size≠256\/∃a l,s=mkB (a::l)/\a≠1/\a≠2):readN s=none:=by
 cases e:readN s with
 | none=>rfl
 | some m =>
  exfalso;obtain⟨h1,h2⟩:=(Cu _ _).1 e;rcases h with h|⟨a,l,rfl,h3,h4⟩
  ·apply h;rw[<-h2,AK,Eh h1]
  ·have h5:=GP h2;unfold Nd.page Nd.body at h5;cases hl:m.leaf with
   | true =>
    rw[hl,if_pos rfl]at h5;simp only[List.cons_append]at h5;exact h3 (List.cons.inj h5).1.symm
   | false =>
    rw[hl]at h5;simp only[Bool.false_eq_true,if_false,List.cons_append]at h5;exact h4 (List.cons.inj h5).1.symm
end Go.Proofs.YtjojffepakclcaaGreatDoor
namespace Go.Proofs.YtjojffepakclcaaGreatDoor
open Go Go.RowKit
theorem PR(a b:List UInt8)(x y:UInt8)(h:x≠y):Op.bytesLess (x::a) (y::b)=decide (x.toNat<y.toNat):=by
 simp only[Op.bytesLess,UInt8.lt_iff_toNat_lt];have:(x==y)=false:=by simp[h]
 simp[this]
theorem PQ(a b:List UInt8)(x:UInt8):Op.bytesLess (x::a) (x::b)=Op.bytesLess a b:=by
 have h:¬x<x:=by rw[UInt8.lt_iff_toNat_lt];omega
 simp[Op.bytesLess,h]
theorem CE(s:ByteArray)(j:Nat)(h:j<s.size):s.data.toList.drop j=s[j]::s.data.toList.drop (j+1):=by
 rw[List.drop_eq_getElem_cons (by rw[I2];exact h)];rfl
theorem Df(s:ByteArray)(j:Nat)(h:¬j<s.size):s.data.toList.drop j=[]:=List.drop_eq_nil_of_le (by rw[I2];omega)
set_option maxRecDepth 100000 in
theorem BB(s t:ByteArray)(w:World)(hs:s.size<=maxLen)(ht:t.size<=maxLen) :
  Calls prog 40 #[.string s,.string t] w fun e w'=>e=.returned (.bool (lessB s t))/\Kp none' w w':=by
 unfold maxLen at hs ht;unfold lessB;go_enter func40,ntmps40;go_wp2_with fail;go_loopw [5] (fun i wr=>∃j:Nat,j<=s.size/\i=.int .i64 j/\Hid (Op.bytesLess (s.data.toList.drop j) (t.data.toList.drop j)=Op.bytesLess s.data.toList t.data.toList)/\Hid (j<=t.size)/\Kp none' w wr) (fun i _=>s.size - (intOf i).toNat)
 case atStart=>exact⟨0,Nat.zero_le _,rfl,rfl,Nat.zero_le _,Kp.refl _ _⟩
 case round =>
  obtain⟨j,hj,rfl,He,Hj',hg⟩:=hrel;by_cases h1:j<s.size
  ·have h1':(j:Int)<(s.size:Int):=by omega
   by_cases h2:j<t.size
   ·have h2':(j:Int)<(t.size:Int):=by omega
    have Hd1:Hid (s.data.toList.drop j=s[j]::s.data.toList.drop (j+1)):=CE s j h1;have Hd2:Hid (t.data.toList.drop j=t[j]::t.data.toList.drop (j+1)):=CE t j h2;by_cases hc:s[j]=t[j]
    ·have hc':((s[j].toNat:Int)==(t[j].toNat:Int))=true:=by simp[hc]
     have He2:Hid (Op.bytesLess (s.data.toList.drop (j+1)) (t.data.toList.drop (j+1))=Op.bytesLess s.data.toList t.data.toList):=by
      show _=_;rw[<-He.out,Hd1.out,Hd2.out,hc,PQ]
     clear hc;go_upto_region 4 with fail;go_quiet (fail);go_wp2_with fail;go_roundw
     case rel=>exact⟨j+1,by omega,by go_num,He2,by show _<=_;omega,hg.thenN (Kp.drewN _ _ _)⟩
     case measure=>simp[intOf];omega
    ·have hc':((s[j].toNat:Int)==(t[j].toNat:Int))=false:=by
      rw[beq_eq_false_iff_ne];intro h;exact hc (UInt8.toNat_inj.1 (by omega))
     have HF:Hid (Op.bytesLess s.data.toList t.data.toList=decide (s[j].toNat<t[j].toNat)):=by
      show _=_;rw[<-He.out,Hd1.out,Hd2.out,PR _ _ _ _ hc]
     clear hc;go_upto_region 4 with fail;go_quiet (fail);go_upto_region 5 with fail;go_quiet (fail);go_wp2;go_ret;rw[HF.out];exact⟨by simp,(hg.thenN (Kp.drewN _ _ _)).thenN (Kp.drewN _ _ _)⟩
   ·have h2':¬(j:Int)<(t.size:Int):=by omega
    have HF:Hid (Op.bytesLess s.data.toList t.data.toList=false):=by
     show _=_;rw[<-He.out,CE s j h1,Df t j h2];rfl
    have h3:¬(s.size:Int)<(t.size:Int):=by omega
    go_wp2;go_ret;rw[HF.out];exact⟨rfl,hg⟩
  ·have h1':¬(j:Int)<(s.size:Int):=by omega
   by_cases h2:s.size<t.size
   ·have h2':(s.size:Int)<(t.size:Int):=by omega
    have HF:Hid (Op.bytesLess s.data.toList t.data.toList=true):=by
     show _=_;rw[<-He.out,CE t j (by omega),Df s j h1];rfl
    go_wp2;go_ret;rw[HF.out];exact⟨rfl,hg⟩
   ·have h2':¬(s.size:Int)<(t.size:Int):=by omega
    have HF:Hid (Op.bytesLess s.data.toList t.data.toList=false):=by
     show _=_;rw[<-He.out,Df t j (by have:=Hj'.out;omega),Df s j h1];rfl
    go_wp2;go_ret;rw[HF.out];exact⟨rfl,hg⟩
theorem Nb.fz{w:World}{b:Nat}{l:Bool}{pv kv dv:Value}(h:Nb w b l pv kv dv)(j:Nat):w.frozen? ⟨b,j,none⟩=false:=by
 unfold World.frozen?;rw[show w.heap[(⟨b,j,none⟩:Addr).block]?=_ from h];simp
theorem Nb.set0{w:World}{b:Nat}{l:Bool}{pv kv dv:Value}(h:Nb w b l pv kv dv)(x:Bool):Nb (w.setCell ⟨b,0,none⟩ (.bool x)) b x pv kv dv:=by
 unfold Nb;rw[heap_setCell_same w b 0 _ 73 _ h];rfl
theorem Nb.set1{w:World}{b:Nat}{l:Bool}{pv kv dv:Value}(h:Nb w b l pv kv dv)(x:Value):Nb (w.setCell ⟨b,1,none⟩ x) b l x kv dv:=by
 unfold Nb;rw[heap_setCell_same w b 1 _ 73 _ h];rfl
theorem Nb.set2{w:World}{b:Nat}{l:Bool}{pv kv dv:Value}(h:Nb w b l pv kv dv)(x:Value):Nb (w.setCell ⟨b,2,none⟩ x) b l pv x dv:=by
 unfold Nb;rw[heap_setCell_same w b 2 _ 73 _ h];rfl
theorem Nb.set3{w:World}{b:Nat}{l:Bool}{pv kv dv:Value}(h:Nb w b l pv kv dv)(x:Value):Nb (w.setCell ⟨b,3,none⟩ x) b l pv kv x:=by
 unfold Nb;rw[heap_setCell_same w b 3 _ 73 _ h];rfl
theorem Nb.put{w:World}{b:Nat}{l:Bool}{pv kv dv:Value}(h:Nb w b l pv kv dv)(l':Bool)(pv' kv' dv':Value) :
  Nb ((((w.setCell ⟨b,0,none⟩ (.bool l')).setCell ⟨b,1,none⟩ pv').setCell ⟨b,2,none⟩ kv').setCell ⟨b,3,none⟩ dv') b l' pv' kv' dv' /\
  Kp (only b) w ((((w.setCell ⟨b,0,none⟩ (.bool l')).setCell ⟨b,1,none⟩ pv').setCell ⟨b,2,none⟩ kv').setCell ⟨b,3,none⟩ dv') :=
 ⟨(((h.set0 l').set1 pv').set2 kv').set3 dv',(((Kp.setCell (S:=only b) _ _ _ _ rfl).then (Kp.setCell _ _ _ _ rfl)).then (Kp.setCell _ _ _ _ rfl)).then (Kp.setCell _ _ _ _ rfl)⟩
theorem EU{w:World}{g:Nat}{l:Bool}{a1 a2 a3:Option Addr}{n1 c1 n2 c2 n3 c3:Nat}(h:Nb w g l (.slice a1 n1 c1) (.slice a2 n2 c2) (.slice a3 n3 c3)):(loadVar 73 ⟨g,0,none⟩).run prog w=.ok (.agg #[.bool l,.slice a1 n1 c1,.slice a2 n2 c2,.slice a3 n3 c3]) w:=by
 have c0:=h.c0;have c1:=h.c1;have c2:=h.c2;have c3:=h.c3;go_simp
theorem Ar{fn:Func}{p:Tmp}(h:fn.results=#[.cell p 73])(tmps:Array Value)(g:Nat)(W:World){l:Bool}{a1 a2 a3:Option Addr}{n1 c1 n2 c2 n3 c3:Nat}(hp:tmps.getD p undef=.pointer (some ⟨g,0,none⟩))(hV:Nb W g l (.slice a1 n1 c1) (.slice a2 n2 c2) (.slice a3 n3 c3)) :
  (results fn tmps).run prog W=.ok (.agg #[.bool l,.slice a1 n1 c1,.slice a2 n2 c2,.slice a3 n3 c3]) W:=by
 have e:(results fn tmps).run prog W=((asAddr (tmps.getD p undef)).run prog W).andThen fun a w1=>(loadVar 73 a).run prog w1:=by
  simp only[results,h];simp[Sem.run_bind,Result.andThen]
 rw[e,hp];simp[asAddr,Result.andThen,EU hV]
theorem AM{fn:Func}{p q u:Tmp}(h:fn.results=#[.cell p 73,.cell q 73,.tmp u])(tmps:Array Value)(g g':Nat)(W:World)(er:Value){l l':Bool}{a1 a2 a3 a1' a2' a3':Option Addr}{n1 c1 n2 c2 n3 c3 n1' c1' n2' c2' n3' c3':Nat}(hp:tmps.getD p undef=.pointer (some ⟨g,0,none⟩))(hq:tmps.getD q undef=.pointer (some ⟨g',0,none⟩))(hu:tmps.getD u undef=er)
  (hV:Nb W g l (.slice a1 n1 c1) (.slice a2 n2 c2) (.slice a3 n3 c3)) (hV':Nb W g' l' (.slice a1' n1' c1') (.slice a2' n2' c2') (.slice a3' n3' c3')) :
  (results fn tmps).run prog W=.ok (.tuple #[.agg #[.bool l,.slice a1 n1 c1,.slice a2 n2 c2,.slice a3 n3 c3],.agg #[.bool l',.slice a1' n1' c1',.slice a2' n2' c2',.slice a3' n3' c3'],er]) W:=by
 have hp':tmps[p]?.getD undef=.pointer (some ⟨g,0,none⟩):=by simpa using hp
 have hq':tmps[q]?.getD undef=.pointer (some ⟨g',0,none⟩):=by simpa using hq
 have hu':tmps[u]?.getD undef=er:=by simpa using hu
 simp only[results,h];simp[Sem.run_bind,Result.andThen,hp',hq',hu',asAddr,EU hV,EU hV']
theorem wrap_add(a b:Int):wrap64 (wrap64 a+wrap64 b)=wrap64 (a+b):=by unfold wrap64;omega
theorem Ol(f:Pr->Nat)(l:List Pr)(j:Nat)(h:j<l.length):((l.take (j+1)).map f).sum=((l.take j).map f).sum+f l[j]:=by
 rw[List.take_succ_eq_append_getElem h,List.map_append,List.sum_append];simp
theorem Lz(f:ByteArray->Nat)(l:List ByteArray)(j:Nat)(h:j<l.length):((l.take (j+1)).map f).sum=((l.take j).map f).sum+f l[j]:=by
 rw[List.take_succ_eq_append_getElem h,List.map_append,List.sum_append];simp
set_option maxRecDepth 100000 in
theorem DL(p:Pr)(w:World) :
  Calls prog 68 #[.agg #[.string p.k,.string p.v]] w fun e w'=>e=.returned (.int .i64 (wrap64 p.size))/\Kp none' w w':=by
 go_enter func68,ntmps68;go_wp2;go_ret;refine⟨reti ?_,Kp.alloc _ _ _⟩;unfold Pr.size;first|omega|(unfold wrap64;push_cast;omega)
set_option maxRecDepth 100000 in
theorem EK(k:ByteArray)(w:World) :
  Calls prog 70 #[.string k] w fun e w'=>e=.returned (.int .i64 (wrap64 (kSize k)))/\Kp none' w w':=by
 go_enter func70,ntmps70;go_wp2;go_ret;refine⟨reti ?_,Kp.refl _ _⟩;unfold kSize;first|omega|(unfold wrap64;push_cast;omega)
theorem PL(w:World)(p:Pr):(w.alloc (.cells #[.string p.k,.string p.v] 59)).cell? ⟨w.heap.size,0,none⟩=some (.string p.k)/\(w.alloc (.cells #[.string p.k,.string p.v] 59)).cell? ⟨w.heap.size,1,none⟩=some (.string p.v):=by
 have h:=heap_alloc_new w (.cells #[.string p.k,.string p.v] 59);constructor
 ·rw[cell_of_row _ w.heap.size 0 _ 59 (0,0) h];rfl
 ·rw[cell_of_row _ w.heap.size 1 _ 59 (0,0) h];rfl
set_option maxRecDepth 100000 in
theorem II(v:Value)(ps:List Pr)(B:Nat)(w:World)(hP:Prs B w v ps) :
  Calls prog 67 #[v,.func (.func 68) #[] #[]] w fun e w'=>e=.returned (.int .i64 (wrap64 ((ps.map Pr.size).sum:Nat)))/\Kp none' w w':=by
 obtain⟨a,c,rfl,hlc,hcm,ha⟩:=hP;unfold maxLen at hcm;have HA:Hid (∀i (h:i<ps.length),∃b off,a=some ⟨b,off,none⟩/\b<B/\w.cell? ⟨b,off+i*2,none⟩=some (.string ps[i].k)/\w.cell? ⟨b,off+i*2+1,none⟩=some (.string ps[i].v)):=ha;clear ha;go_enter func67,ntmps67;go_wp2;go_loopw [5,7,10] (fun t _ u wr=>∃j:Nat,j<=ps.length/\u=.int .i64 j/\t=.int .i64 (wrap64 (((ps.take j).map Pr.size).sum:Nat))/\Kp none' w wr) (fun _ _ u _=>ps.length - (intOf u).toNat)
 case atStart=>exact⟨0,Nat.zero_le _,rfl,by simp[wrap64],Kp.refl _ _⟩
 case round =>
  obtain⟨j,hj,rfl,rfl,hK⟩:=hrel;by_cases hlt:j<ps.length
  ·obtain⟨b,o,rfl,_,hc',hd'⟩:=HA.out j hlt;have hc:=hK.cell hc' (fun h=>h);have hd:=hK.cell hd' (fun h=>h);clear hc' hd';have hlt':(j:Int)<(ps.length:Int):=by omega
   have HT:Hid (((ps.take (j+1)).map Pr.size).sum=((ps.take j).map Pr.size).sum+ps[j].size):=Ol _ _ _ hlt;generalize ps[j]=y at *;generalize hs:((ps.take j).map Pr.size).sum=sm at *;go_wp2_with (go_at_call 68;refine(DL y _).mono ?_;rintro e w' ⟨rfl,hK'⟩);go_roundw
   case rel =>
    refine⟨j+1,by omega,by go_num,?_,(hK.thenN (Kp.alloc _ _ _)).thenN hK'⟩;rw[HT.out];exact congrArg (Value.int .i64) (by rw[wrap_add];congr 1)
   case measure=>simp[intOf];omega
  ·have hlt':¬(j:Int)<(ps.length:Int):=by omega
   have hje:j=ps.length:=by omega
   subst hje;go_wp2;go_ret;exact⟨rfl,hK⟩
set_option maxRecDepth 100000 in
theorem IL(v:Value)(ks:List ByteArray)(B:Nat)(w:World)(hS:Sl Value.string B w v ks) :
  Calls prog 69 #[v,.func (.func 70) #[] #[]] w fun e w'=>e=.returned (.int .i64 (wrap64 ((ks.map kSize).sum:Nat)))/\Kp none' w w':=by
 obtain⟨a,c,rfl,hlc,hcm,ha⟩:=hS;unfold maxLen at hcm;have HA:Hid (∀i (h:i<ks.length),∃b off,a=some ⟨b,off,none⟩/\b<B/\w.cell? ⟨b,off+i,none⟩=some (.string ks[i])):=ha;clear ha;go_enter func69,ntmps69;go_wp2;go_loopw [5,7,10] (fun t _ u wr=>∃j:Nat,j<=ks.length/\u=.int .i64 j/\t=.int .i64 (wrap64 (((ks.take j).map kSize).sum:Nat))/\Kp none' w wr) (fun _ _ u _=>ks.length - (intOf u).toNat)
 case atStart=>exact⟨0,Nat.zero_le _,rfl,by simp[wrap64],Kp.refl _ _⟩
 case round =>
  obtain⟨j,hj,rfl,rfl,hK⟩:=hrel;by_cases hlt:j<ks.length
  ·obtain⟨b,o,rfl,_,hc'⟩:=HA.out j hlt;have hc:=hK.cell hc' (fun h=>h);clear hc';have hlt':(j:Int)<(ks.length:Int):=by omega
   have HT:Hid (((ks.take (j+1)).map kSize).sum=((ks.take j).map kSize).sum+kSize ks[j]):=Lz _ _ _ hlt;generalize ks[j]=y at *;generalize hs:((ks.take j).map kSize).sum=sm at *;go_wp2_with (go_at_call 70;refine(EK y _).mono ?_;rintro e w' ⟨rfl,hK'⟩);go_roundw
   case rel =>
    refine⟨j+1,by omega,by go_num,?_,hK.thenN hK'⟩;rw[HT.out];exact congrArg (Value.int .i64) (by rw[wrap_add];congr 1)
   case measure=>simp[intOf];omega
  ·have hlt':¬(j:Int)<(ks.length:Int):=by omega
   have hje:j=ks.length:=by omega
   subst hje;go_wp2;go_ret;exact⟨rfl,hK⟩
set_option maxRecDepth 100000 in
theorem Cs(x:Value)(n:Nd)(B:Nat)(w:World)(hN:Nv B w x n) :
  Calls prog 48 #[x] w fun e w'=>e=.returned (.int .i64 (wrap64 n.size))/\Kp none' w w':=by
 obtain⟨⟨pv,kv,dv,rfl,hP,hS,hD⟩,hwf⟩:=hN;have hb:=Nb.new w n.leaf pv kv dv;obtain⟨lf,ps,ks,kd⟩:=n;dsimp only at *;have hK0:Kp none' w (w.alloc (.cells #[.bool lf,pv,kv,dv] 73)):=Kp.alloc _ _ _;have hP1:=hP.keptN hK0;have hS1:=hS.keptN hK0;cases lf with
 | true =>
  have hb0:=hb.c0;have hb1:=hb.c1;go_enter func48,ntmps48;go_wp2_with (go_at_call 67;refine(II pv ps B _ hP1).mono ?_;rintro e w' ⟨rfl,hK'⟩);go_ret;refine⟨reti ?_,hK0.thenN hK'⟩;have e:((⟨true,ps,ks,kd⟩:Nd).size:Int)=2+((ps.map Pr.size).sum:Nat):=by simp[Nd.size]
  rw[e];generalize (ps.map Pr.size).sum=q;unfold wrap64;omega
 | false =>
  have hb0:=hb.c0;have hb1:=hb.c2;go_enter func48,ntmps48;go_wp2_with (go_at_call 69;refine(IL kv ks B _ hS1).mono ?_;rintro e w' ⟨rfl,hK'⟩);go_ret;refine⟨reti ?_,hK0.thenN hK'⟩;have e:((⟨false,ps,ks,kd⟩:Nd).size:Int)=4+((ks.map kSize).sum:Nat):=by simp[Nd.size]
  rw[e];generalize (ks.map kSize).sum=q;unfold wrap64;omega
theorem Pt(a b:ByteArray):Op.bytesLess a.toList b.toList=lessB a b:=by unfold lessB;rw[ByteArray.toList_eq,ByteArray.toList_eq]
set_option maxRecDepth 100000 in
theorem Gw(x:Value)(n:Nd)(B:Nat)(k:ByteArray)(w:World)(hN:Nv B w x n) :
  Calls prog 47 #[x,.string k] w fun e w'=>e=.returned (.int .i64 (An n.ks k))/\Kp none' w w':=by
 obtain⟨⟨pv,kv,dv,rfl,hP,hS,hD⟩,hwf⟩:=hN;obtain⟨a,c,rfl,hlc,hcm,ha⟩:=hS;have hb:=Nb.new w n.leaf pv (.slice a n.ks.length c) dv;obtain⟨lf,ps,ks,kd⟩:=n;dsimp only at *;unfold maxLen at hcm;have HA:Hid (∀i (h:i<ks.length),∃b off,a=some ⟨b,off,none⟩/\b<B/\w.cell? ⟨b,off+i,none⟩=some (.string ks[i])):=ha;clear ha;have hK0:Kp none' w (w.alloc (.cells #[.bool lf,pv,.slice a ks.length c,dv] 73)):=Kp.alloc _ _ _;have hc2:=hb.c2;go_enter func47,ntmps47;go_wp2
 generalize w.alloc (.cells #[.bool lf,pv,.slice a ks.length c,dv] 73)=w0 at *;go_loopw [5,7,11] (fun t _ u wr=>∃j:Nat,j<=ks.length/\u=.int .i64 j/\t=.int .i64 (An (ks.take j) k)/\Kp none' w0 wr) (fun _ _ u _=>ks.length - (intOf u).toNat)
 case atStart=>exact⟨0,Nat.zero_le _,rfl,rfl,Kp.refl _ _⟩
 case round =>
  obtain⟨j,hj,rfl,rfl,hK⟩:=hrel;by_cases hlt:j<ks.length
  ·obtain⟨b,o,rfl,_,hc'⟩:=HA.out j hlt;have hc:=(hK0.thenN hK).cell hc' (fun h=>h);clear hc';have hlt':(j:Int)<(ks.length:Int):=by omega
   have HT:Hid (An (ks.take (j+1)) k=An (ks.take j) k+(if lessB k ks[j] then 0 else 1)):=by
    show _=_;rw[List.take_succ_eq_append_getElem hlt];unfold An;rw[List.filter_append,List.length_append];cases h:lessB k ks[j]<;>simp[h]
   have HC:Hid (An (ks.take j) k<=j):=by
    show _<=_;unfold An;refine Nat.le_trans (List.length_filter_le _ _) ?_;simp;omega
   generalize ks[j]=y at *;have hl:=Pt y k;have hq:=GL y k;cases hy:lessB k y with
   | true =>
    have h1:lessB y k=false:=AW hy;have h2:¬y=k:=fun e=>by rw[e,Az]at hy;cases hy
    rw[h1]at hl;rw[decide_eq_false h2]at hq;clear h1 h2;go_wp2;go_roundw
    case rel=>exact⟨j+1,by omega,by go_num,by rw[HT.out,hy];simp,hK⟩
    case measure=>simp[intOf];omega
   | false =>
    cases hy2:lessB y k with
    | true =>
     rw[hy2]at hl;clear hq;go_wp2;go_roundw
     case rel =>
      refine⟨j+1,by omega,by go_num,?_,hK⟩;rw[HT.out,hy];have:=HC.out;have e:((An (ks.take j) k+(if false=true then 0 else 1):Nat):Int)=(An (ks.take j) k:Int)+1:=by simp
      rw[e];generalize An (ks.take j) k=q at *;exact congrArg (Value.int .i64) (by unfold wrap64;omega)
     case measure=>simp[intOf];omega
    | false =>
     have h2:y=k:=Br hy2 hy;rw[hy2]at hl;rw[decide_eq_true h2]at hq;clear h2;go_wp2;go_roundw
     case rel =>
      refine⟨j+1,by omega,by go_num,?_,hK⟩;rw[HT.out,hy];have:=HC.out;have e:((An (ks.take j) k+(if false=true then 0 else 1):Nat):Int)=(An (ks.take j) k:Int)+1:=by simp
      rw[e];generalize An (ks.take j) k=q at *;exact congrArg (Value.int .i64) (by unfold wrap64;omega)
     case measure=>simp[intOf];omega
  ·have hlt':¬(j:Int)<(ks.length:Int):=by omega
   have hje:j=ks.length:=by omega
   subst hje;go_wp2;go_ret;exact⟨rfl,hK0.thenN hK⟩
set_option maxRecDepth 100000 in
theorem Fq(x:Value)(n:Nd)(B:Nat)(k:ByteArray)(w:World)(hN:Nv B w x n) :
  Calls prog 26 #[x,.string k] w fun e w'=>e=.returned (.tuple #[.int .i64 (findN n.ps k),.bool (hasN n.ps k)])/\Kp none' w w':=by
 obtain⟨⟨pv,kv,dv,rfl,hP,hS,hD⟩,hwf⟩:=hN;obtain⟨a,c,rfl,hlc,hcm,ha⟩:=hP;have hb:=Nb.new w n.leaf (.slice a n.ps.length c) kv dv;obtain⟨lf,ps,ks,kd⟩:=n;dsimp only at *;unfold maxLen at hcm;have HA:Hid (∀i (h:i<ps.length),∃b off,a=some ⟨b,off,none⟩/\b<B/\w.cell? ⟨b,off+i*2,none⟩=some (.string ps[i].k)/\w.cell? ⟨b,off+i*2+1,none⟩=some (.string ps[i].v)):=ha;clear ha;have hK0:Kp none' w (w.alloc (.cells #[.bool lf,.slice a ps.length c,kv,dv] 73)):=Kp.alloc _ _ _;have hc1:=hb.c1
 go_enter func26,ntmps26;go_wp2;generalize w.alloc (.cells #[.bool lf,.slice a ps.length c,kv,dv] 73)=w0 at *;go_loopw [6,8,12] (fun t _ u wr=>∃j:Nat,j<=ps.length/\u=.int .i64 j/\t=.int .i64 (findN (ps.take j) k)/\Kp none' w0 wr) (fun _ _ u _=>ps.length - (intOf u).toNat)
 case atStart=>exact⟨0,Nat.zero_le _,rfl,rfl,Kp.refl _ _⟩
 case round =>
  obtain⟨j,hj,rfl,rfl,hK⟩:=hrel;have hc1:=(hb.kept hK (fun h=>h)).c1;by_cases hlt:j<ps.length
  ·obtain⟨b,o,rfl,_,hc',hd'⟩:=HA.out j hlt;have hc:=(hK0.thenN hK).cell hc' (fun h=>h);have hd:=(hK0.thenN hK).cell hd' (fun h=>h);clear hc' hd';have hlt':(j:Int)<(ps.length:Int):=by omega
   have HT:Hid (findN (ps.take (j+1)) k=findN (ps.take j) k+(if lessB ps[j].k k then 1 else 0)):=by
    show _=_;rw[List.take_succ_eq_append_getElem hlt];unfold findN;rw[List.filter_append,List.length_append];cases h:lessB ps[j].k k<;>simp[h]
   have HC:Hid (findN (ps.take j) k<=j):=by
    show _<=_;unfold findN;refine Nat.le_trans (List.length_filter_le _ _) ?_;simp;omega
   generalize ps[j]=y at *;have hl:=Pt y.k k;have hKa:Kp none' wr (wr.alloc (.cells #[.string y.k,.string y.v] 59)):=Kp.alloc _ _ _;cases hy:lessB y.k k with
   | false =>
    rw[hy]at hl;go_wp2;go_roundw
    case rel=>exact⟨j+1,by omega,by go_num,by rw[HT.out,hy];simp,hK.thenN hKa⟩
    case measure=>simp[intOf];omega
   | true =>
    rw[hy]at hl;go_wp2;go_roundw
    case rel =>
     refine⟨j+1,by omega,by go_num,?_,hK.thenN hKa⟩;rw[HT.out,hy];have:=HC.out;have e:((findN (ps.take j) k+(if true=true then 1 else 0):Nat):Int)=(findN (ps.take j) k:Int)+1:=by simp
     rw[e];generalize findN (ps.take j) k=q at *;exact congrArg (Value.int .i64) (by unfold wrap64;omega)
    case measure=>simp[intOf];omega
  ·have hlt':¬(j:Int)<(ps.length:Int):=by omega
   have hje:j=ps.length:=by omega
   subst hje;rw[List.take_length]at *;have HF:Hid (hasN ps k=(match ps[findN ps k]? with|some p=>decide (p.k=k)|none=>false)):=by
    show _=_;unfold hasN;rfl
   by_cases hf:findN ps k<ps.length
   ·obtain⟨b,o,rfl,_,hc',_⟩:=HA.out _ hf;have hc:=(hK0.thenN hK).cell hc' (fun h=>h);clear hc';have hf':(findN ps k:Int)<(ps.length:Int):=by omega
    have HX:Hid (ps[findN ps k]?=some ps[findN ps k]):=List.getElem?_eq_getElem hf;generalize ps[findN ps k]=y at *;have HE:Hid (hasN ps k=(y.k.toList==k.toList)):=by
     show _=_;rw[HF.out,HX.out,GL]
    clear HF HX;generalize hq:findN ps k=q at *;have Hq:Hid (findN ps k=q):=hq;clear hq;go_upto_region 8 with fail;go_quiet (fail);go_wp2;go_ret2;rw[HE.out,Hq.out];exact⟨rfl,hK0.thenN (hK.thenN (Kp.drewN _ _ _))⟩
   ·have hf':¬(findN ps k:Int)<(ps.length:Int):=by omega
    have HX:Hid (ps[findN ps k]?=none):=List.getElem?_eq_none (by omega);have HE:Hid (hasN ps k=false):=by
     show _=_;rw[HF.out,HX.out]
    clear HF HX;generalize hq:findN ps k=q at *;have Hq:Hid (findN ps k=q):=hq;clear hq;go_upto_region 8 with fail;go_quiet (fail);go_wp2;go_ret2;rw[HE.out,Hq.out];exact⟨rfl,hK0.thenN (hK.thenN (Kp.drewN _ _ _))⟩
theorem Ff:∀l:List ByteArray,chainB l=true↔∀i (h:i+1<l.length),lessB l[i] l[i+1]=true
 | []=>by simp[chainB]
 | [a]=>by simp[chainB]
 | a::b::l=>by
  simp only[chainB,Bool.and_eq_true,Ff (b::l)]
  constructor
  ·rintro ⟨h1,h2⟩ i h
   rcases i with _|i
   ·exact h1
   ·exact h2 i (by simpa using h)
  ·intro h
   exact⟨h 0 (by simp),fun i hi=>h (i+1) (by simpa using hi)⟩
def okAt(l:List ByteArray)(i:Nat)(h:i<l.length):Prop:=okKey l[i]=true/\∀k (e:i=k+1),lessB (l[k]'(by omega)) l[i]=true
theorem FM(l:List ByteArray):ordN l=true↔∀i (h:i<l.length),okAt l i h:=by
 unfold ordN;rw[Bool.and_eq_true,List.all_eq_true,Ff];constructor
 ·rintro ⟨h1,h2⟩ i h;refine⟨h1 _ (List.getElem_mem h),fun k e=>?_⟩;subst e;exact h2 k h
 ·intro h;refine⟨fun x hx=>?_,fun i hi=>(h (i+1) hi).2 i rfl⟩;obtain⟨i,hi,rfl⟩:=List.getElem_of_mem hx;exact(h i hi).1
theorem FW:(prog.info? 9).map (fun i=>(i.zero,i.size,i.bytes))=some (some (.string ⟨#[]⟩),1,16):=by kernel_rfl
theorem IS(l:List Int):l.all okD=true↔∀i (h:i<l.length),1<=l[i]/\l[i]<=65535:=by
 rw[List.all_eq_true];constructor
 ·intro h i hi;simpa[okD]using h _ (List.getElem_mem hi)
 ·intro h x hx;obtain⟨i,hi,rfl⟩:=List.getElem_of_mem hx;simpa[okD]using h i hi
theorem MF(l:List Pr):l.all (fun p=>decide (p.v.size<=40))=true↔∀i (h:i<l.length),l[i].v.size<=40:=by
 rw[List.all_eq_true];constructor
 ·intro h i hi;simpa using h _ (List.getElem_mem hi)
 ·intro h x hx;obtain⟨i,hi,rfl⟩:=List.getElem_of_mem hx;simpa using h i hi
theorem Ow.mem{α:Type}{f:α->Value}{e:TypeId}{w:World}{base base':Nat}{v:Value}{l:List α}(h:Ow f e w base v l)(hb:base'<=base):Ow f e w base' v l:=by
 rcases h.2 with ⟨rfl,h0⟩|⟨g,cap,cur,rfl,hb',hg,h1,h2,h3,h4⟩
 ·exact⟨h.1,.inl ⟨rfl,h0⟩⟩
 ·exact⟨h.1,.inr ⟨g,cap,cur,rfl,Nat.le_trans hb hb',hg,h1,h2,h3,h4⟩⟩
def folB(a k:ByteArray):Bool:=lessB a k&&decide (k.size<=32)
def Bp(l:List ByteArray):Nat->ByteArray
 | 0=>⟨#[]⟩
 | j+1=>l.getD j ⟨#[]⟩
theorem JT(k:ByteArray):lessB ⟨#[]⟩ k=decide (1<=k.size):=by
 unfold lessB;have h:=AG k;cases e:k.data.toList with
 | nil=>rw[e]at h;simp at h;simp[Op.bytesLess,<-h]
 | cons x r=>rw[e]at h;simp at h;simp[Op.bytesLess,<-h]
theorem Lr{a k:ByteArray}(h:lessB a k=true):1<=k.size:=by
 unfold lessB at h;have h1:=AG k;cases e:k.data.toList with
 | nil=>rw[e]at h;simp[Op.bytesLess]at h
 | cons x r=>rw[e]at h1;simp at h1;omega
theorem H5(l:List ByteArray)(j:Nat)(h:j<l.length):folB (Bp l j) l[j]=true↔okAt l j h:=by
 unfold folB okAt okKey;cases j with
 | zero =>
  show (lessB ⟨#[]⟩ _&&_)=true↔_;rw[JT];simp
 | succ j =>
  show (lessB (l.getD j ⟨#[]⟩) _&&_)=true↔_;have e:l.getD j ⟨#[]⟩=l[j]'(by omega):=by rw[List.getD_eq_getElem?_getD,List.getElem?_eq_getElem (by omega)];rfl
  rw[e];simp only[Bool.and_eq_true,decide_eq_true_eq];constructor
  ·rintro ⟨h1,h2⟩;exact⟨⟨Lr h1,h2⟩,fun k e=>by cases e;exact h1⟩
  ·rintro ⟨h1,h2⟩;exact⟨h2 j rfl,h1.2⟩
set_option maxRecDepth 100000 in
theorem BC(a k:ByteArray)(w:World) :
  Calls prog 180 #[.string a,.string k] w fun e w'=>e=.returned (.bool (folB a k))/\w'=w:=by
 have e1:Op.bytesLess a.toList k.toList=lessB a k:=by unfold lessB;rw[ByteArray.toList_eq,ByteArray.toList_eq]
 cases h:lessB a k with
 | true =>
  rw[h]at e1;go_enter func180,ntmps180;go_wp2;go_ret;refine⟨?_,rfl⟩;unfold folB;rw[h];congr 2;simp;omega
 | false =>
  rw[h]at e1;go_enter func180,ntmps180;go_wp2;go_ret;refine⟨?_,rfl⟩;unfold folB;rw[h];rfl
set_option maxRecDepth 100000 in
theorem Ce(v:Value)(ks:List ByteArray)(B:Nat)(w:World)(hS:Sl Value.string B w v ks) :
  Calls prog 140 #[v] w fun e w'=>e=.returned (.bool (ordN ks))/\Kp none' w w':=by
 obtain⟨a,c,rfl,hlc,hcm,ha⟩:=hS;unfold maxLen at hcm;have HA:Hid (∀i (h:i<ks.length),∃b off,a=some ⟨b,off,none⟩/\b<B/\w.cell? ⟨b,off+i,none⟩=some (.string ks[i])):=ha;clear ha;go_enter func140,ntmps140;go_wp2;go_loopw [3,5,8] (fun t _ u wr=>∃j:Nat,j<=ks.length/\u=.int .i64 j/\t=.string (Bp ks j)/\Hid (∀i (h:i<ks.length),i<j->okAt ks i h)/\Kp none' w wr) (fun _ _ u _=>ks.length - (intOf u).toNat)
 case atStart=>exact⟨0,Nat.zero_le _,rfl,rfl,fun i h h'=>absurd h' (by omega),Kp.refl _ _⟩
 case round =>
  obtain⟨j,hj,rfl,rfl,HO,hK⟩:=hrel;by_cases hlt:j<ks.length
  ·obtain⟨b,o,rfl,_,hc'⟩:=HA.out j hlt;have hc:=hK.cell hc' (fun h=>h);clear hc';have hlt':(j:Int)<(ks.length:Int):=by omega
   have hfi:=H5 ks j hlt;cases hf:folB (Bp ks j) ks[j] with
   | true =>
    have HN:Hid (∀i (h:i<ks.length),i<j+1->okAt ks i h):=by
     intro i h hij;rcases Nat.lt_succ_iff_lt_or_eq.1 hij with h'|h'
     ·exact HO.out i h h'
     ·subst h';exact hfi.1 hf
    have HT:Hid (Bp ks (j+1)=ks[j]):=by
     show ks.getD j _=_;rw[List.getD_eq_getElem?_getD,List.getElem?_eq_getElem hlt];rfl
    clear hfi HO;generalize ks[j]=y at *;generalize Bp ks j=z at *;go_wp2_with (go_at_call 180;refine(BC z y _).mono ?_;rintro e w' ⟨rfl,rfl⟩;rw[hf]);go_roundw
    case rel=>exact⟨j+1,by omega,by go_num,by rw[HT.out],HN,hK⟩
    case measure=>simp[intOf];omega
   | false =>
    have HF:Hid (ordN ks=false):=by
     cases e:ordN ks with
     | false=>rfl
     | true=>have:=hfi.2 ((FM ks).1 e j hlt);rw[hf]at this;cases this
    clear hfi HO;generalize ks[j]=y at *;generalize Bp ks j=z at *;go_wp2_with (go_at_call 180;refine(BC z y _).mono ?_;rintro e w' ⟨rfl,rfl⟩;rw[hf]);go_ret;rw[HF.out];exact⟨rfl,hK⟩
  ·have hlt':¬(j:Int)<(ks.length:Int):=by omega
   have HF:Hid (ordN ks=true):=(FM ks).2 (fun i h=>HO.out i h (by omega));clear HO;go_wp2;go_ret;rw[HF.out];exact⟨rfl,hK⟩
def okPs(ps:List Pr):Bool:=ps.all (fun p=>decide (p.v.size<=40))&&ordN (ps.map Pr.k)
theorem Fu(ps:List Pr):okPs ps=true↔∀i (h:i<ps.length),folB (Bp (ps.map Pr.k) i) ps[i].k=true/\ps[i].v.size<=40:=by
 unfold okPs;rw[Bool.and_eq_true,MF,FM];constructor
 ·rintro ⟨h1,h2⟩ i h;have h3:=(H5 (ps.map Pr.k) i (by simpa using h)).2 (h2 i (by simpa using h));rw[List.getElem_map]at h3;exact⟨h3,h1 i h⟩
 ·intro h1;refine⟨fun i h=>(h1 i h).2,fun i h=>?_⟩;have h':i<ps.length:=by simpa using h
  apply (H5 (ps.map Pr.k) i h).1;rw[List.getElem_map];exact(h1 i h').1
set_option maxRecDepth 100000 in
theorem E9(v:Value)(ps:List Pr)(B:Nat)(w:World)(hP:Prs B w v ps)(hwp:∀x∈ps,x.k.size<=maxLen/\x.v.size<=maxLen) :
  Calls prog 139 #[v] w fun e w'=>e=.returned (.bool (okPs ps))/\Kp none' w w':=by
 obtain⟨a,c,rfl,hlc,hcm,ha⟩:=hP;unfold maxLen at hcm;have HA:Hid (∀i (h:i<ps.length),∃b off,a=some ⟨b,off,none⟩/\b<B/\w.cell? ⟨b,off+i*2,none⟩=some (.string ps[i].k)/\w.cell? ⟨b,off+i*2+1,none⟩=some (.string ps[i].v)):=ha;clear ha;go_enter func139,ntmps139;go_wp2
 go_loopw [3,5,8] (fun t _ u wr=>∃j:Nat,j<=ps.length/\u=.int .i64 j/\t=.string (Bp (ps.map Pr.k) j)/\Hid (∀i (h:i<ps.length),i<j->folB (Bp (ps.map Pr.k) i) ps[i].k=true/\ps[i].v.size<=40)/\Kp none' w wr) (fun _ _ u _=>ps.length - (intOf u).toNat)
 case atStart=>exact⟨0,Nat.zero_le _,rfl,rfl,fun i h h'=>absurd h' (by omega),Kp.refl _ _⟩
 case round =>
  obtain⟨j,hj,rfl,rfl,HO,hK⟩:=hrel;by_cases hlt:j<ps.length
  ·obtain⟨b,o,rfl,_,hc',hd'⟩:=HA.out j hlt;have hc:=hK.cell hc' (fun h=>h);have hd:=hK.cell hd' (fun h=>h);clear hc' hd';have hlt':(j:Int)<(ps.length:Int):=by omega
   have hKa:Kp none' wr (wr.alloc (.cells #[.string ps[j].k,.string ps[j].v] 59)):=Kp.alloc _ _ _;cases hf:folB (Bp (ps.map Pr.k) j) ps[j].k with
   | true =>
    by_cases hz:ps[j].v.size<=40
    ·have HN:Hid (∀i (h:i<ps.length),i<j+1->folB (Bp (ps.map Pr.k) i) ps[i].k=true/\ps[i].v.size<=40):=by
      intro i h hij;rcases Nat.lt_succ_iff_lt_or_eq.1 hij with h'|h'
      ·exact HO.out i h h'
      ·subst h';exact⟨hf,hz⟩
     have HT:Hid (Bp (ps.map Pr.k) (j+1)=ps[j].k):=by
      show (ps.map Pr.k).getD j _=_;rw[List.getD_eq_getElem?_getD,List.getElem?_map,List.getElem?_eq_getElem hlt];rfl
     have hy1:¬40<(ps[j].v.size:Int):=by omega
     clear HO hz;generalize ps[j]=y at *;generalize Bp (ps.map Pr.k) j=z at *;go_wp2_with (go_at_call 180;refine(BC z y.k _).mono ?_;rintro e w' ⟨rfl,rfl⟩;rw[hf]);go_roundw
     case rel=>exact⟨j+1,by omega,by go_num,by rw[HT.out],HN,hK.thenN hKa⟩
     case measure=>simp[intOf];omega
    ·have HF:Hid (okPs ps=false):=by
      cases e:okPs ps with
      | false=>rfl
      | true=>exact absurd ((Fu ps).1 e j hlt).2 hz
     have hy1:40<(ps[j].v.size:Int):=by omega
     clear HO hz;generalize ps[j]=y at *;generalize Bp (ps.map Pr.k) j=z at *;go_wp2_with (go_at_call 180;refine(BC z y.k _).mono ?_;rintro e w' ⟨rfl,rfl⟩;rw[hf]);go_ret;rw[HF.out];exact⟨rfl,hK.thenN hKa⟩
   | false =>
    have HF:Hid (okPs ps=false):=by
     cases e:okPs ps with
     | false=>rfl
     | true=>have:=((Fu ps).1 e j hlt).1;rw[hf]at this;cases this
    clear HO;generalize ps[j]=y at *;generalize Bp (ps.map Pr.k) j=z at *;go_wp2_with (go_at_call 180;refine(BC z y.k _).mono ?_;rintro e w' ⟨rfl,rfl⟩;rw[hf]);go_ret;rw[HF.out];exact⟨rfl,hK.thenN hKa⟩
  ·have hlt':¬(j:Int)<(ps.length:Int):=by omega
   have HF:Hid (okPs ps=true):=(Fu ps).2 (fun i h=>HO.out i h (by omega));clear HO;go_wp2;go_ret;rw[HF.out];exact⟨rfl,hK⟩
theorem IN(z:Int)(h:-9223372036854775808<=z/\z<9223372036854775808)(v:Int)(hv:v=IntKind.u64.wrap z)(hz:z≠0)(w:World) :
  Calls prog 181 #[.int .u64 v,.int .i64 2] w fun y w'=>y=.returned (.bool (okD z))/\w'=w:=by
 have e:v=(((IntKind.u64.wrap z).toNat:Nat):Int):=by rw[hv,IntKind.wrap_u64];omega
 rw[e];refine(NT _ 2 w (by rw[IntKind.wrap_u64];omega)).mono ?_;rintro y w' ⟨rfl,rfl⟩;refine⟨congrArg (fun b=>Ending.returned (Value.bool b)) ?_,rfl⟩;unfold fitsB okD;rw[decide_eq_decide,IntKind.wrap_u64,show 2 ^ (8*wid 2)=65536 from rfl];omega
set_option maxRecDepth 100000 in
theorem F3(v:Value)(kd:List Int)(B:Nat)(w:World)(hD:Sl (Value.int .i64) B w v kd)(hwd:∀z∈kd,-9223372036854775808<=z/\z<9223372036854775808) :
  Calls prog 141 #[v] w fun e w'=>e=.returned (.bool (kd.all okD))/\Kp none' w w':=by
 obtain⟨a,c,rfl,hlc,hcm,ha⟩:=hD;unfold maxLen at hcm;have HA:Hid (∀i (h:i<kd.length),∃b off,a=some ⟨b,off,none⟩/\b<B/\w.cell? ⟨b,off+i,none⟩=some (.int .i64 kd[i])):=ha;have HW:=hide hwd;clear ha hwd;go_enter func141,ntmps141;go_wp2;go_loopw [4,7] (fun _ u wr=>∃j:Nat,j<=kd.length/\u=.int .i64 j/\Hid (∀i (h:i<kd.length),i<j->1<=kd[i]/\kd[i]<=65535)/\Kp none' w wr) (fun _ u _=>kd.length - (intOf u).toNat)
 case atStart=>exact⟨0,Nat.zero_le _,rfl,fun i h h'=>absurd h' (by omega),Kp.refl _ _⟩
 case round =>
  obtain⟨j,hj,rfl,HO,hK⟩:=hrel;by_cases hlt:j<kd.length
  ·obtain⟨b,o,rfl,_,hc'⟩:=HA.out j hlt;have hc:=hK.cell hc' (fun h=>h);clear hc';have hlt':(j:Int)<(kd.length:Int):=by omega
   have HR:=hide (HW.out _ (List.getElem_mem hlt));by_cases hz:1<=kd[j]/\kd[j]<=65535
   ·have HN:Hid (∀i (h:i<kd.length),i<j+1->1<=kd[i]/\kd[i]<=65535):=by
     intro i h hij;rcases Nat.lt_succ_iff_lt_or_eq.1 hij with h'|h'
     ·exact HO.out i h h'
     ·subst h';exact hz
    have hz0:(kd[j]==0)=false:=by rw[beq_eq_false_iff_ne];omega
    have hok:okD kd[j]=true:=by unfold okD;rw[decide_eq_true_eq];exact hz
    have HZ:Hid (kd[j]≠0):=by show _≠_;omega
    clear hz HO;generalize kd[j]=y at *;go_wp2_with (go_at_call 181;refine(IN y HR.out _ (by first|rfl|(rw[IntKind.wrap_u64])) HZ.out _).mono ?_;rintro e w' ⟨rfl,rfl⟩;rw[hok]);go_roundw
    case rel=>exact⟨j+1,by omega,by go_num,HN,hK⟩
    case measure=>simp[intOf];omega
   ·have HF:Hid (kd.all okD=false):=by
     cases e:kd.all okD with
     | false=>rfl
     | true=>exact absurd ((IS kd).1 e j hlt) hz
    by_cases hy:kd[j]=0
    ·have hz0:(kd[j]==0)=true:=by rw[beq_iff_eq];exact hy
     clear hz hy HO;generalize kd[j]=y at *;go_wp2;go_ret;rw[HF.out];exact⟨rfl,hK⟩
    ·have hz0:(kd[j]==0)=false:=by rw[beq_eq_false_iff_ne];omega
     have hok:okD kd[j]=false:=by unfold okD;rw[decide_eq_false_iff_not];exact hz
     have HZ:Hid (kd[j]≠0):=hy;clear hz hy HO;generalize kd[j]=y at *;go_wp2_with (go_at_call 181;refine(IN y HR.out _ (by first|rfl|(rw[IntKind.wrap_u64])) HZ.out _).mono ?_;rintro e w' ⟨rfl,rfl⟩;rw[hok]);go_ret;rw[HF.out];exact⟨rfl,hK⟩
  ·have hlt':¬(j:Int)<(kd.length:Int):=by omega
   have HF:Hid (kd.all okD=true):=(IS kd).2 (fun i h=>HO.out i h (by omega));clear HO;go_wp2;go_ret;rw[HF.out];exact⟨rfl,hK⟩
theorem catN(a b:List UInt8):(⟨a.toArray⟩:ByteArray)++⟨b.toArray⟩=⟨(a++b).toArray⟩:=by
 apply ByteArray.ext;rw[ByteArray.data_append];simp
theorem OT(l:List Pr)(h:∀p∈l,p.k.size<=32/\p.v.size<=40):(l.map Pr.size).sum<=74*l.length:=by
 induction l with
 | nil=>simp
 | cons p l ih =>
  have h1:=h p List.mem_cons_self;have h2:=ih (fun q hq=>h q (List.mem_cons_of_mem _ hq));simp only[List.map_cons,List.sum_cons,List.length_cons];rw[show Pr.size p=2+p.k.size+p.v.size from rfl];omega
theorem MD(l:List ByteArray)(h:∀p∈l,p.size<=32):(l.map kSize).sum<=35*l.length:=by
 induction l with
 | nil=>simp
 | cons p l ih =>
  have h1:=h p List.mem_cons_self;have h2:=ih (fun q hq=>h q (List.mem_cons_of_mem _ hq));simp only[List.map_cons,List.sum_cons,List.length_cons];rw[show kSize p=3+p.size from rfl];omega
theorem Jx{n:Nd}(h:n.right=true)(hp:n.ps.length<=1099511627776)(hk:n.ks.length<=1099511627776):wrap64 (n.size:Int)=(n.size:Int):=by
 have:n.size<=4+74*1099511627776:=by
  unfold Nd.size;cases e:n.leaf with
  | true =>
   obtain⟨h1,_,_,h4⟩:=AR h e;have:=OT n.ps (fun p hp=>⟨(Be h4 p.k (List.mem_map_of_mem hp)).2,h1 p hp⟩);simp;omega
  | false =>
   obtain⟨_,_,_,h4⟩:=Aw h e;have:=MD n.ks (fun p hp=>(Be h4 p hp).2);simp;omega
 unfold wrap64;omega
theorem Fi:∀(l:List ByteArray) (m:List Int) (k:Nat) (h:k<l.length) (h':k<m.length),encKs (l.take (k+1)) m=encKs (l.take k) m++(strB l[k].data.toList++be m[k].toNat 2)
 | x::l,z::m,0,_,_=>by simp[encKs]
 | x::l,z::m,k+1,h,h'=>by
  have ih:=Fi l m k (by simpa using h) (by simpa using h')
  simp only[List.take_succ_cons,encKs,List.getElem_cons_succ,List.append_assoc]at ih |-
  rw[ih]
 | [],_,_,h,_=>absurd h (by simp)
 | _::_,[],_,_,h=>absurd h (by simp)
theorem BL{α:Type}(f:α->Nat)(l:List α)(j:Nat)(h:j<l.length):((l.take (j+1)).map f).sum=((l.take j).map f).sum+f l[j]:=by
 rw[List.take_succ_eq_append_getElem h,List.map_append,List.sum_append];simp
theorem EO{α:Type}(f:α->Nat)(l:List α)(j:Nat):((l.take j).map f).sum<=(l.map f).sum:=by
 conv=>rhs;rw[<-List.take_append_drop j l,List.map_append,List.sum_append]
 exact Nat.le_add_right _ _
set_option maxRecDepth 100000 in
theorem halfP(v:Value)(l:List Pr)(B:Nat)(w:World)(hP:Prs B w v l)(hl:1<l.length)(hs:(l.map Pr.size).sum<=4194304)(hlen:l.length<=4194304)(M:Int)(hM:M=((l.length - 1:Nat):Int))(at_:Nat)(hA:splG (fun j=>Pr.size (l.getD j ⟨⟨#[]⟩,⟨#[]⟩⟩)) (l.map Pr.size).sum (l.length - 1) l.length 1 (Pr.size (l.getD 0 ⟨⟨#[]⟩,⟨#[]⟩⟩))=at_) :
  Calls prog 215 #[v,.int .i64 M,.func (.func 68) #[] #[]] w fun e w'=>e=.returned (.int .i64 (at_:Int))/\Kp none' w w':=by
 have hP':=hP;obtain⟨a,c,rfl,hlc,hcm,ha⟩:=hP';unfold maxLen at hcm;have HA:=hide ha;clear ha;obtain⟨lim,HLIM⟩:∃lim,Hid (l.length - 1=lim):=⟨_,rfl⟩;rw[HLIM.out]at hM hA;subst hM;obtain⟨all,HALL⟩:∃q,Hid ((l.map Pr.size).sum=q):=⟨(l.map Pr.size).sum,hide rfl⟩;rw[HALL.out]at hs hA;have HSM:Hid (∀W:World,Kp none' w W->Calls prog 67 #[.slice a l.length c,.func (.func 68) #[] #[]] W fun e w'=>e=.returned (.int .i64 (all:Int))/\Kp none' W w'):=by
  intro W hk;have:=II _ l B W (hP.keptN hk);rw[HALL.out,show wrap64 (all:Int)=(all:Int) by unfold wrap64;omega]at this;exact this
 have HSPL:Hid (splG (fun j=>Pr.size (l.getD j ⟨⟨#[]⟩,⟨#[]⟩⟩)) all lim l.length 1 (((l.take 1).map Pr.size).sum)=at_):=by
  show _=_;have h0:0<l.length:=by omega
  have e:(((l.take 1).map Pr.size).sum)=Pr.size (l.getD 0 ⟨⟨#[]⟩,⟨#[]⟩⟩):=by
   rw[show (1:Nat)=0+1 from rfl,BL Pr.size l 0 h0,List.getD_eq_getElem?_getD,List.getElem?_eq_getElem h0];simp
  rw[e];exact hA
 have hl1:1<=lim:=by have:=HLIM.out;omega
 have hll:lim<=l.length:=by have:=HLIM.out;omega
 clear hA hP hl;go_enter func215,ntmps215;go_wp2_with (first
  | (go_at_call 67;refine(HSM.out _ (Kp.refl _ _)).mono ?_;rintro e w1 ⟨rfl,hK1⟩)
  | fail)
 go_loopw [8,9] (fun t u wr=>∃i part f:Nat,1<=i/\i<=lim/\u=.int .i64 i/\t=.int .i64 part/\Hid (part=((l.take (i - 1)).map Pr.size).sum)/\Hid (splG (fun j=>Pr.size (l.getD j ⟨⟨#[]⟩,⟨#[]⟩⟩)) all lim f i (((l.take i).map Pr.size).sum)=at_)/\Hid (lim<i+f)/\Kp none' w1 wr) (fun _ u _=>lim - (intOf u).toNat)
 case atStart=>exact⟨1,0,l.length,Nat.le_refl _,hl1,rfl,rfl,(by show _=_;simp),HSPL,(by show _<_;omega),Kp.refl _ _⟩
 case round =>
  obtain⟨i,part,f,hi1,hil,rfl,rfl,HP,HG,HF,hK⟩:=hrel;by_cases hlt:i<lim
  ·obtain⟨i0,HI0⟩:∃q:Nat,Hid (i=q+1):=⟨i - 1,by show _=_;omega⟩;have hi0:i0<l.length:=by have:=HI0.out;omega
   have hin:i<l.length:=by omega
   obtain⟨b,o,rfl,_,hc',hd'⟩:=HA.out i0 hi0;have hc:=(hK1.thenN hK).cell hc' (fun h=>h);have hd:=(hK1.thenN hK).cell hd' (fun h=>h);clear hc' hd';have hlt':(i:Int)<(lim:Int):=by omega
   have hw0:IntKind.i64.wrap ((i:Int) - 1)=(i0:Int):=by have:=HI0.out;rw[IntKind.wrap_i64];omega
   have hi0':(i0:Int)<(l.length:Int):=by omega
   have HT:Hid (((l.take i).map Pr.size).sum=part+Pr.size l[i0]):=by
    show _=_;have e1:i - 1=i0:=by have:=HI0.out;omega
    rw[HP.out,HI0.out,Nat.add_sub_cancel,BL Pr.size l i0 hi0]
   have HB:Hid (part+Pr.size l[i0]<=4194304):=by
    show _<=_;rw[<-HT.out];have:=EO Pr.size l i;have:=HALL.out;omega
   obtain⟨s,HS⟩:∃s,Hid (Pr.size l[i0]=s):=⟨Pr.size l[i0],hide rfl⟩;rw[HS.out]at HT HB;have HSZ:Hid (∀W:World,Calls prog 68 #[.agg #[.string l[i0].k,.string l[i0].v]] W fun e w'=>e=.returned (.int .i64 (s:Int))/\Kp none' W w'):=by
    intro W;have:=DL l[i0] W;rw[HS.out,show wrap64 (s:Int)=(s:Int) by have:=HB.out;unfold wrap64;omega]at this;exact this
   generalize l[i0]=y at *;obtain⟨p2,HP2⟩:∃q:Nat,Hid (part+s=q):=⟨_,rfl⟩;have hw1:wrap64 ((part:Int)+(s:Int))=(p2:Int):=by have:=HB.out;have:=HP2.out;unfold wrap64;omega
   have hw1':IntKind.i64.wrap ((part:Int)+(s:Int))=(p2:Int):=by have:=HB.out;have:=HP2.out;rw[IntKind.wrap_i64];omega
   obtain⟨p3,HP3⟩:∃q:Nat,Hid (2*p2=q):=⟨_,rfl⟩;have hw2:wrap64 (2*(p2:Int))=(p3:Int):=by have:=HB.out;have:=HP2.out;have:=HP3.out;unfold wrap64;omega
   have hw2':IntKind.i64.wrap (2*(p2:Int))=(p3:Int):=by have:=HB.out;have:=HP2.out;have:=HP3.out;rw[IntKind.wrap_i64];omega
   rw[HT.out,HP2.out]at HG;by_cases hge:all<=p3
   ·have hge':(all:Int)<=(p3:Int):=by omega
    have HR:Hid (i=at_):=by
     show _=_;rw[<-HG.out];cases f with
     | zero=>rfl
     | succ f=>rw[splG,if_neg (by have:=HP3.out;omega)]
    clear HG HP HT HB hge;go_wp2_with (first
     | (go_at_call 68;refine(HSZ.out _).mono ?_;rintro e w3 ⟨rfl,hK3⟩)
     | fail)
    go_ret;rw[<-HR.out];exact⟨rfl,hK1.thenN (hK.thenN hK3)⟩
   ·have hge':¬(all:Int)<=(p3:Int):=by omega
    obtain⟨f',Hf⟩:∃f',Hid (f=f'+1):=⟨f - 1,by have:=HF.out;show _=_;omega⟩;have HG2:Hid (splG (fun j=>Pr.size (l.getD j ⟨⟨#[]⟩,⟨#[]⟩⟩)) all lim f' (i+1) (((l.take (i+1)).map Pr.size).sum)=at_):=by
     show _=_;have e2:=HG.out;rw[Hf.out,splG,if_pos (by have:=HP3.out;omega)]at e2;rw[<-e2,BL Pr.size l i hin,HT.out,HP2.out,List.getD_eq_getElem?_getD,List.getElem?_eq_getElem hin];rfl
    have HPn:Hid (p2=((l.take (i+1 - 1)).map Pr.size).sum):=by
     show _=_;rw[Nat.add_sub_cancel,HT.out,HP2.out]
    have HFn:Hid (lim<i+1+f'):=by have:=HF.out;have:=Hf.out;show _<_;omega
    clear HG HP HT HB hge;go_wp2_with (first
     | (go_at_call 68;refine(HSZ.out _).mono ?_;rintro e w3 ⟨rfl,hK3⟩)
     | fail)
    go_roundw
    case rel=>exact⟨i+1,p2,f',by omega,by omega,by go_num,by first|rfl|rw[hw1]|rw[hw1'],HPn,HG2,HFn,hK.thenN hK3⟩
    case measure=>simp[intOf];omega
  ·have hlt':¬(i:Int)<(lim:Int):=by omega
   have HR:Hid (lim=at_):=by
    show _=_;rw[<-HG.out];cases f with
    | zero=>show lim=i;omega
    | succ f=>rw[splG,if_neg (by omega)];omega
   clear HG HP;go_wp2;go_ret;rw[<-HR.out];exact⟨rfl,hK1.thenN hK⟩
set_option maxRecDepth 100000 in
theorem halfK(v:Value)(l:List ByteArray)(B:Nat)(w:World)(hP:Sl Value.string B w v l)(hl:2<l.length)(hs:(l.map kSize).sum<=4194304)(hlen:l.length<=4194304)(M:Int)(hM:M=((l.length - 2:Nat):Int))(at_:Nat)(hA:splG (fun j=>kSize (l.getD j ⟨#[]⟩)) (l.map kSize).sum (l.length - 2) l.length 1 (kSize (l.getD 0 ⟨#[]⟩))=at_) :
  Calls prog 216 #[v,.int .i64 M,.func (.func 70) #[] #[]] w fun e w'=>e=.returned (.int .i64 (at_:Int))/\Kp none' w w':=by
 have hP':=hP;obtain⟨a,c,rfl,hlc,hcm,ha⟩:=hP';unfold maxLen at hcm;have HA:=hide ha;clear ha;obtain⟨lim,HLIM⟩:∃lim,Hid (l.length - 2=lim):=⟨_,rfl⟩;rw[HLIM.out]at hM hA;subst hM;obtain⟨all,HALL⟩:∃q,Hid ((l.map kSize).sum=q):=⟨(l.map kSize).sum,hide rfl⟩;rw[HALL.out]at hs hA;have HSM:Hid (∀W:World,Kp none' w W->Calls prog 69 #[.slice a l.length c,.func (.func 70) #[] #[]] W fun e w'=>e=.returned (.int .i64 (all:Int))/\Kp none' W w'):=by
  intro W hk;have:=IL _ l B W (hP.keptN hk);rw[HALL.out,show wrap64 (all:Int)=(all:Int) by unfold wrap64;omega]at this;exact this
 have HSPL:Hid (splG (fun j=>kSize (l.getD j ⟨#[]⟩)) all lim l.length 1 (((l.take 1).map kSize).sum)=at_):=by
  show _=_;have h0:0<l.length:=by omega
  have e:(((l.take 1).map kSize).sum)=kSize (l.getD 0 ⟨#[]⟩):=by
   rw[show (1:Nat)=0+1 from rfl,BL kSize l 0 h0,List.getD_eq_getElem?_getD,List.getElem?_eq_getElem h0];simp
  rw[e];exact hA
 have hl1:1<=lim:=by have:=HLIM.out;omega
 have hll:lim<=l.length:=by have:=HLIM.out;omega
 clear hA hP hl;go_enter func216,ntmps216;go_wp2_with (first
  | (go_at_call 69;refine(HSM.out _ (Kp.refl _ _)).mono ?_;rintro e w1 ⟨rfl,hK1⟩)
  | fail)
 go_loopw [8,9] (fun t u wr=>∃i part f:Nat,1<=i/\i<=lim/\u=.int .i64 i/\t=.int .i64 part/\Hid (part=((l.take (i - 1)).map kSize).sum)/\Hid (splG (fun j=>kSize (l.getD j ⟨#[]⟩)) all lim f i (((l.take i).map kSize).sum)=at_)/\Hid (lim<i+f)/\Kp none' w1 wr) (fun _ u _=>lim - (intOf u).toNat)
 case atStart=>exact⟨1,0,l.length,Nat.le_refl _,hl1,rfl,rfl,(by show _=_;simp),HSPL,(by show _<_;omega),Kp.refl _ _⟩
 case round =>
  obtain⟨i,part,f,hi1,hil,rfl,rfl,HP,HG,HF,hK⟩:=hrel;by_cases hlt:i<lim
  ·obtain⟨i0,HI0⟩:∃q:Nat,Hid (i=q+1):=⟨i - 1,by show _=_;omega⟩;have hi0:i0<l.length:=by have:=HI0.out;omega
   have hin:i<l.length:=by omega
   obtain⟨b,o,rfl,_,hc'⟩:=HA.out i0 hi0;have hc:=(hK1.thenN hK).cell hc' (fun h=>h);clear hc';have hlt':(i:Int)<(lim:Int):=by omega
   have hw0:IntKind.i64.wrap ((i:Int) - 1)=(i0:Int):=by have:=HI0.out;rw[IntKind.wrap_i64];omega
   have hi0':(i0:Int)<(l.length:Int):=by omega
   have HT:Hid (((l.take i).map kSize).sum=part+kSize l[i0]):=by
    show _=_;have e1:i - 1=i0:=by have:=HI0.out;omega
    rw[HP.out,HI0.out,Nat.add_sub_cancel,BL kSize l i0 hi0]
   have HB:Hid (part+kSize l[i0]<=4194304):=by
    show _<=_;rw[<-HT.out];have:=EO kSize l i;have:=HALL.out;omega
   obtain⟨s,HS⟩:∃s,Hid (kSize l[i0]=s):=⟨kSize l[i0],hide rfl⟩;rw[HS.out]at HT HB;have HSZ:Hid (∀W:World,Calls prog 70 #[.string l[i0]] W fun e w'=>e=.returned (.int .i64 (s:Int))/\Kp none' W w'):=by
    intro W;have:=EK l[i0] W;rw[HS.out,show wrap64 (s:Int)=(s:Int) by have:=HB.out;unfold wrap64;omega]at this;exact this
   generalize l[i0]=y at *;obtain⟨p2,HP2⟩:∃q:Nat,Hid (part+s=q):=⟨_,rfl⟩;have hw1:wrap64 ((part:Int)+(s:Int))=(p2:Int):=by have:=HB.out;have:=HP2.out;unfold wrap64;omega
   have hw1':IntKind.i64.wrap ((part:Int)+(s:Int))=(p2:Int):=by have:=HB.out;have:=HP2.out;rw[IntKind.wrap_i64];omega
   obtain⟨p3,HP3⟩:∃q:Nat,Hid (2*p2=q):=⟨_,rfl⟩;have hw2:wrap64 (2*(p2:Int))=(p3:Int):=by have:=HB.out;have:=HP2.out;have:=HP3.out;unfold wrap64;omega
   have hw2':IntKind.i64.wrap (2*(p2:Int))=(p3:Int):=by have:=HB.out;have:=HP2.out;have:=HP3.out;rw[IntKind.wrap_i64];omega
   rw[HT.out,HP2.out]at HG;by_cases hge:all<=p3
   ·have hge':(all:Int)<=(p3:Int):=by omega
    have HR:Hid (i=at_):=by
     show _=_;rw[<-HG.out];cases f with
     | zero=>rfl
     | succ f=>rw[splG,if_neg (by have:=HP3.out;omega)]
    clear HG HP HT HB hge;go_wp2_with (first
     | (go_at_call 70;refine(HSZ.out _).mono ?_;rintro e w3 ⟨rfl,hK3⟩)
     | fail)
    go_ret;rw[<-HR.out];exact⟨rfl,hK1.thenN (hK.thenN hK3)⟩
   ·have hge':¬(all:Int)<=(p3:Int):=by omega
    obtain⟨f',Hf⟩:∃f',Hid (f=f'+1):=⟨f - 1,by have:=HF.out;show _=_;omega⟩;have HG2:Hid (splG (fun j=>kSize (l.getD j ⟨#[]⟩)) all lim f' (i+1) (((l.take (i+1)).map kSize).sum)=at_):=by
     show _=_;have e2:=HG.out;rw[Hf.out,splG,if_pos (by have:=HP3.out;omega)]at e2;rw[<-e2,BL kSize l i hin,HT.out,HP2.out,List.getD_eq_getElem?_getD,List.getElem?_eq_getElem hin];rfl
    have HPn:Hid (p2=((l.take (i+1 - 1)).map kSize).sum):=by
     show _=_;rw[Nat.add_sub_cancel,HT.out,HP2.out]
    have HFn:Hid (lim<i+1+f'):=by have:=HF.out;have:=Hf.out;show _<_;omega
    clear HG HP HT HB hge;go_wp2_with (first
     | (go_at_call 70;refine(HSZ.out _).mono ?_;rintro e w3 ⟨rfl,hK3⟩)
     | fail)
    go_roundw
    case rel=>exact⟨i+1,p2,f',by omega,by omega,by go_num,by first|rfl|rw[hw1]|rw[hw1'],HPn,HG2,HFn,hK.thenN hK3⟩
    case measure=>simp[intOf];omega
  ·have hlt':¬(i:Int)<(lim:Int):=by omega
   have HR:Hid (lim=at_):=by
    show _=_;rw[<-HG.out];cases f with
    | zero=>show lim=i;omega
    | succ f=>rw[splG,if_neg (by omega)];omega
   clear HG HP;go_wp2;go_ret;rw[<-HR.out];exact⟨rfl,hK1.thenN hK⟩
end Go.Proofs.YtjojffepakclcaaGreatDoor
