/- Part of the proof: contracts over the turned program. -/
import Derived.Test.YtgcgacjhkhjhmaaGreatDoorX1
set_option linter.unusedVariables false
set_option maxHeartbeats 4000000
open Go.Proofs.Tryz
namespace Go.Proofs.YtgcgacjhkhjhmaaGreatDoor
def Fo:Nat->Type
 | 0=>List Pr
 | d+1=>List ByteArray × List (Int × Fo d)
def fnd:(d:Nat)->Fo d->Nd
 | 0,ps=>⟨true,ps,[],[]⟩
 | _+1,f=>⟨false,[],f.1,f.2.map Prod.fst⟩
def fpgs:(d:Nat)->Fo d->List Int
 | 0,_=>[]
 | d+1,f=>f.2.flatMap (fun t=>t.1::fpgs d t.2)
def fprs:(d:Nat)->Fo d->List Pr
 | 0,ps=>ps
 | d+1,f=>f.2.flatMap (fun t=>fprs d t.2)
def fne:(d:Nat)->Fo d->Prop
 | 0,ps=>ps≠([]:List Pr)
 | _+1,f=>f.1≠[]
def AH{α:Type}(P:α->ByteArray->ByteArray->Prop):List ByteArray->List α->ByteArray->ByteArray->Prop
 | [],[t],lo,hi=>P t lo hi
 | k::ks,t::ts,lo,hi=>P t lo k/\AH P ks ts k hi
 | _,_,_,_=>False
def Bw(ps:List Pr)(lo hi:ByteArray):Prop:=(∀p∈ps,okKey p.k=true/\p.v.size<=40/\inB p.k lo hi=true)/\Asc ps
def fOk:(d:Nat)->Fo d->ByteArray->ByteArray->Prop
 | 0,ps,lo,hi=>Bw ps lo hi
 | d+1,f,lo,hi=>(∀k∈f.1,okKey k=true)/\AH (fun (t:Int × Fo d) a b=>(1<=t.1/\t.1<=65535)/\fne d t.2/\(fnd d t.2).size<=256/\fOk d t.2 a b) f.1 f.2 lo hi
def tOk(d:Nat)(t:Int × Fo d)(a b:ByteArray):Prop:=(1<=t.1/\t.1<=65535)/\fne d t.2/\(fnd d t.2).size<=256/\fOk d t.2 a b
def fIn(V:Int->Option Nd):(d:Nat)->Fo d->Prop
 | 0,_=>True
 | d+1,f=>∀t∈f.2,V t.1=some (fnd d t.2)/\fIn V d t.2
def tIn(V:Int->Option Nd)(d:Nat)(t:Int × Fo d):Prop:=V t.1=some (fnd d t.2)/\fIn V d t.2
theorem Bm{V V':Int->Option Nd}:∀(d:Nat) (f:Fo d),fIn V d f->(∀z∈fpgs d f,V' z=V z)->fIn V' d f
 | 0,f,_,_=>trivial
 | d+1,f,h,hv=>fun t ht=>⟨by rw[hv t.1 (List.mem_flatMap.2 ⟨t,ht,List.mem_cons_self⟩)];exact(h t ht).1,Bm d t.2 (h t ht).2 (fun z hz=>hv z (List.mem_flatMap.2 ⟨t,ht,List.mem_cons_of_mem _ hz⟩))⟩
theorem BL{V V':Int->Option Nd}(d:Nat)(t:Int × Fo d)(h:tIn V d t)(hv:∀z∈t.1::fpgs d t.2,V' z=V z):tIn V' d t:=⟨by rw[hv t.1 List.mem_cons_self];exact h.1,Bm d t.2 h.2 (fun z hz=>hv z (List.mem_cons_of_mem _ hz))⟩
theorem Iv{V:Int->Option Nd}:∀(d:Nat) (f:Fo d),fIn V d f->∀z∈fpgs d f,∃n,V z=some n/\∀c∈n.kd,c∈fpgs d f
 | 0,f,_,z,hz=>by cases hz
 | d+1,f,h,z,hz=>by
  obtain⟨t,ht,hz⟩:=List.mem_flatMap.1 hz
  have hsub:∀c∈t.1::fpgs d t.2,c∈fpgs (d+1) f:=fun c hc=>List.mem_flatMap.2 ⟨t,ht,hc⟩
  rcases List.mem_cons.1 hz with e|e
  ·refine⟨fnd d t.2,by rw[e];exact(h t ht).1,fun c hc=>?_⟩
   cases d with
   | zero=>cases hc
   | succ d =>
    obtain⟨s,hs,rfl⟩:=List.mem_map.1 hc
    exact hsub _ (List.mem_cons_of_mem _ (List.mem_flatMap.2 ⟨s,hs,List.mem_cons_self⟩))
  ·obtain⟨n,hn,hk⟩:=Iv d t.2 (h t ht).2 z e
   exact⟨n,hn,fun c hc=>hsub c (List.mem_cons_of_mem _ (hk c hc))⟩
def leU(b b':ByteArray):Prop:=b'.size=0\/(b.size≠0/\lessB b' b=false)
theorem DM(b:ByteArray):leU b b:=by
 by_cases h:b.size=0
 ·exact .inl h
 ·exact .inr ⟨h,AD b⟩
theorem Da{a b c:ByteArray}(h:lessB a b=true)(h':lessB c b=false):lessB a c=true:=by
 cases e:lessB a c with
 | true=>rfl
 | false =>
  cases e':lessB c a with
  | true=>rw[AY e' h]at h';cases h'
  | false=>rw[BB e e']at h;rw[h]at h';cases h'
theorem O5{a b c:ByteArray}(h:lessB b a=false)(h':lessB b c=true):lessB a c=true:=by
 cases e:lessB a c with
 | true=>rfl
 | false =>
  cases e':lessB a b with
  | true=>rw[AY e' h']at e;cases e
  | false=>rw[BB e' h]at e;rw[h']at e;cases e
theorem P5{a b c:ByteArray}(h:lessB b a=false)(h':lessB c b=false):lessB c a=false:=by
 cases e:lessB c a with
 | false=>rfl
 | true=>rw[Da e h]at h';cases h'
theorem AR{k a b:ByteArray}:inB k a b=true↔lessB k a=false/\(b.size=0\/lessB k b=true):=by
 unfold inB;simp
theorem CL{k a b a' b':ByteArray}(h:inB k a b=true)(ha:lessB a a'=false)(hb:leU b b'):inB k a' b'=true:=by
 rw[AR]at h |-;refine⟨P5 ha h.1,?_⟩;rcases hb with hb|⟨h1,h2⟩
 ·exact .inl hb
 ·rcases h.2 with e|e
  ·exact absurd e h1
  ·exact .inr (Da e h2)
theorem Gm{α:Type}{P:α->ByteArray->ByteArray->Prop}(hP:∀t a b a' b',P t a b->lessB a a'=false->leU b b'->P t a' b'):∀(ks:List ByteArray) (ts:List α) (lo hi lo' hi':ByteArray),AH P ks ts lo hi->lessB lo lo'=false->leU hi hi'->AH P ks ts lo' hi'
 | [],[t],lo,hi,lo',hi',h,h1,h2=>hP t lo hi lo' hi' h h1 h2
 | k::ks,t::ts,lo,hi,lo',hi',h,h1,h2=>⟨hP t lo k lo' k h.1 h1 (DM k),Gm hP ks ts k hi k hi' h.2 (AD k) h2⟩
 | [],[],_,_,_,_,h,_,_=>h.elim
 | _::_,[],_,_,_,_,h,_,_=>h.elim
 | [],_::_::_,_,_,_,_,h,_,_=>h.elim
theorem Iw:∀(d:Nat) (f:Fo d) (a b a' b':ByteArray),fOk d f a b->lessB a a'=false->leU b b'->fOk d f a' b'
 | 0,f,a,b,a',b',h,h1,h2=>⟨fun p hp=>⟨(h.1 p hp).1,(h.1 p hp).2.1,CL (h.1 p hp).2.2 h1 h2⟩,h.2⟩
 | d+1,f,a,b,a',b',h,h1,h2=>⟨h.1,Gm (fun t x y x' y' ht e1 e2=>⟨ht.1,ht.2.1,ht.2.2.1,Iw d t.2 x y x' y' ht.2.2.2 e1 e2⟩) _ _ _ _ _ _ h.2 h1 h2⟩
theorem Jm(d:Nat)(t:Int × Fo d)(a b a' b':ByteArray)(h:tOk d t a b)(h1:lessB a a'=false)(h2:leU b b'):tOk d t a' b':=⟨h.1,h.2.1,h.2.2.1,Iw d t.2 a b a' b' h.2.2.2 h1 h2⟩
theorem Bb{α:Type}{P:α->ByteArray->ByteArray->Prop}:∀(ks:List ByteArray) (ts:List α) (lo hi:ByteArray),AH P ks ts lo hi->ts.length=ks.length+1
 | [],[t],lo,hi,h=>rfl
 | k::ks,t::ts,lo,hi,h=>by rw[List.length_cons,List.length_cons,Bb ks ts k hi h.2]
 | [],[],_,_,h=>h.elim
 | _::_,[],_,_,h=>h.elim
 | [],_::_::_,_,_,h=>h.elim
theorem DJ{α:Type}{P:α->ByteArray->ByteArray->Prop}:∀(kg:List ByteArray) (G:List α) (k:ByteArray) (ks:List ByteArray) (ts:List α) (lo hi:ByteArray),AH P kg G lo k->AH P ks ts k hi->AH P (kg++k::ks) (G++ts) lo hi
 | [],[t],k,ks,ts,lo,hi,h,h'=>⟨h,h'⟩
 | j::kg,t::G,k,ks,ts,lo,hi,h,h'=>⟨h.1,DJ kg G k ks ts j hi h.2 h'⟩
 | [],[],_,_,_,_,_,h,_=>h.elim
 | _::_,[],_,_,_,_,_,h,_=>h.elim
 | [],_::_::_,_,_,_,_,_,h,_=>h.elim
theorem Cv{α:Type}{P:α->ByteArray->ByteArray->Prop}:∀(G:List α) (ks:List ByteArray) (ts:List α) (lo hi:ByteArray),G≠[]->ts≠[]->AH P ks (G++ts) lo hi->AH P (ks.take (G.length - 1)) G lo (ks.getD (G.length - 1) hi)/\AH P (ks.drop G.length) ts (ks.getD (G.length - 1) hi) hi/\G.length<=ks.length
 | [],_,_,_,_,h,_,_=>absurd rfl h
 | [t],k::ks,ts,lo,hi,_,_,h=>⟨h.1,h.2,by simp⟩
 | [t],[],s::ts,lo,hi,_,_,h=>h.elim
 | [t],[],[],lo,hi,_,h',_=>absurd rfl h'
 | t::s::G,k::ks,ts,lo,hi,_,h',h=>by
  obtain⟨h1,h2,h3⟩:=Cv (s::G) ks ts k hi (by simp) h' h.2
  refine⟨⟨h.1,?_⟩,?_,by simp only[List.length_cons]at h3 |-;omega⟩
  ·simpa using h1
  ·simpa using h2
 | t::s::G,[],ts,lo,hi,_,_,h=>h.elim
def lowB(ks:List ByteArray)(lo:ByteArray)(i:Nat):ByteArray:=if i=0 then lo else ks.getD (i - 1) ⟨#[]⟩
theorem DK{α:Type}{P:α->ByteArray->ByteArray->Prop}(A G B:List α)(ks:List ByteArray)(lo hi:ByteArray)(hG:G≠[])(h:AH P ks (A++G++B) lo hi) :
  AH P ((ks.drop A.length).take (G.length - 1)) G (lowB ks lo A.length) (ks.getD (A.length+G.length - 1) hi) /\
  ∀kg' G',AH P kg' G' (lowB ks lo A.length) (ks.getD (A.length+G.length - 1) hi)->AH P (ks.take A.length++kg'++ks.drop (A.length+G.length - 1)) (A++G'++B) lo hi:=by
 have hlen:=Bb _ _ _ _ h;simp only[List.length_append]at hlen;have hg1:1<=G.length:=List.length_pos_iff.2 hG;have right:∀(ks:List ByteArray) (lo:ByteArray),ks.length+1=G.length+B.length->AH P ks (G++B) lo hi->AH P (ks.take (G.length - 1)) G lo (ks.getD (G.length - 1) hi)/\∀kg' G',AH P kg' G' lo (ks.getD (G.length - 1) hi)->AH P (kg'++ks.drop (G.length - 1)) (G'++B) lo hi:=by
  intro ks lo hl h;cases B with
  | nil =>
   rw[List.append_nil]at h;have e:ks.length=G.length - 1:=by simp at hl;omega
   rw[List.take_of_length_le (by omega),List.drop_eq_nil_of_le (by omega),List.getD_eq_getElem?_getD,List.getElem?_eq_none (by omega)];exact⟨h,fun kg' G' h'=>by rw[List.append_nil,List.append_nil];exact h'⟩
  | cons s B =>
   obtain⟨h1,h2,h3⟩:=Cv G ks (s::B) lo hi hG (by simp) h;refine⟨h1,fun kg' G' h'=>?_⟩;have hlt:G.length - 1<ks.length:=by omega
   have e:ks.drop (G.length - 1)=ks.getD (G.length - 1) hi::ks.drop G.length:=by
    rw[List.drop_eq_getElem_cons hlt,List.getD_eq_getElem?_getD,List.getElem?_eq_getElem hlt,show G.length - 1+1=G.length by omega];rfl
   rw[e];exact DJ kg' G' _ _ _ lo hi h' h2
 rw[List.append_assoc]at h;cases A with
 | nil =>
  rw[List.nil_append]at h;obtain⟨h1,h2⟩:=right ks lo (by simp at hlen;omega) h;simp only[List.length_nil,List.drop_zero,Nat.zero_add,List.take_zero,List.nil_append]at h1 h2 |-;exact⟨h1,fun kg' G' h'=>h2 kg' G' h'⟩
 | cons a A =>
  obtain⟨h1,h2,h3⟩:=Cv (a::A) ks (G++B) lo hi (by simp) (fun e=>hG (List.append_eq_nil_iff.1 e).1) h;have hn:(a::A).length - 1<ks.length:=by simp only[List.length_cons]at h3 |-;omega
  have elow:lowB ks lo (a::A).length=ks.getD ((a::A).length - 1) hi:=by
   unfold lowB;rw[if_neg (by simp),List.getD_eq_getElem?_getD,List.getD_eq_getElem?_getD,List.getElem?_eq_getElem hn];rfl
  have hdl:(ks.drop (a::A).length).length=ks.length - (a::A).length:=List.length_drop;obtain⟨r1,r2⟩:=right (ks.drop (a::A).length) (ks.getD ((a::A).length - 1) hi) (by rw[hdl];omega) h2;have eup:(ks.drop (a::A).length).getD (G.length - 1) hi=ks.getD ((a::A).length+G.length - 1) hi:=by
   rw[List.getD_eq_getElem?_getD,List.getD_eq_getElem?_getD,List.getElem?_drop,show (a::A).length+(G.length - 1)=(a::A).length+G.length - 1 by omega]
  rw[eup]at r1 r2;rw[elow];refine⟨r1,fun kg' G' h'=>?_⟩;have r3:=r2 kg' G' h';rw[List.drop_drop,show (a::A).length+(G.length - 1)=(a::A).length+G.length - 1 by omega]at r3;have e:ks.take (a::A).length=ks.take ((a::A).length - 1)++[ks.getD ((a::A).length - 1) hi]:=by
   have e1:(a::A).length=(a::A).length - 1+1:=by simp
   have e2:=List.take_succ_eq_append_getElem hn;rw[<-e1]at e2;rw[e2,List.getD_eq_getElem?_getD,List.getElem?_eq_getElem hn];rfl
  rw[e,List.append_assoc,List.append_assoc,List.append_assoc];exact DJ _ _ _ _ _ lo hi h1 r3
abbrev Rst:=ByteArray × Int
def sStr(r:Rst)(m:Int):Rst:=(strS r.1 r.2 m,strE r.1 r.2 m)
def gStr(r:Rst)(m:Int):ByteArray:=strR r.1 r.2 m
def sNum(r:Rst)(k:Int):Rst:=(rawS r.1 r.2 (wid k),rawE r.1 r.2 (wid k))
def gNum(r:Rst)(k:Int):Nat:=val (rawR r.1 r.2 (wid k)).data.toList
def ldS(r:Rst):Nat->Rst
 | 0=>r
 | j+1=>sStr (sStr (ldS r j) 32) 40
def ldP(r:Rst):Nat->List Pr
 | 0=>[]
 | j+1=>ldP r j++[⟨gStr (ldS r j) 32,gStr (sStr (ldS r j) 32) 40⟩]
def ndS(r:Rst):Nat->Rst
 | 0=>r
 | j+1=>sNum (sStr (ndS r j) 32) 2
def ndK(r:Rst):Nat->List ByteArray
 | 0=>[]
 | j+1=>ndK r j++[gStr (ndS r j) 32]
def ndD(r:Rst):Nat->List Int
 | 0=>[]
 | j+1=>ndD r j++[(gNum (sStr (ndS r j) 32) 2:Int)]
theorem G2(r:Rst):∀j,(ldP r j).length=j
 | 0=>rfl
 | j+1=>by rw[ldP,List.length_append,G2 r j];rfl
theorem G6(r:Rst):∀j,(ndK r j).length=j
 | 0=>rfl
 | j+1=>by rw[ndK,List.length_append,G6 r j];rfl
theorem G5(r:Rst):∀j,(ndD r j).length=j
 | 0=>rfl
 | j+1=>by rw[ndD,List.length_append,G5 r j];rfl
theorem Kq(s:ByteArray)(e m:Int)(h:e≠0):strE s e m=e:=by unfold strE;rw[if_pos h]
theorem Kh(s:ByteArray)(e k:Int)(h:e≠0):rawE s e k=e:=by unfold rawE;rw[if_pos h]
theorem CC(r:Rst)(m:Int)(h:r.2≠0):(sStr r m).2≠0:=by show strE _ _ _≠0;rw[Kq _ _ _ h];exact h
theorem FI(r:Rst)(k:Int)(h:r.2≠0):(sNum r k).2≠0:=by show rawE _ _ _≠0;rw[Kh _ _ _ h];exact h
theorem MA(s:ByteArray)(e m:Int):(strR s e m).size<=255:=by
 unfold strR;split
 ·rw[ByteArray.size_extract];have:strN s<256:=UInt8.toNat_lt _;omega
 ·exact Nat.zero_le _
theorem LU(r:Rst)(m:Int):(gStr r m).size<=255:=MA _ _ _
theorem Cp(s:ByteArray)(e m:Int):(strS s e m).size<=s.size:=by
 unfold strS;split
 ·rw[ByteArray.size_extract];omega
 ·exact Nat.le_refl _
theorem Dl(s:ByteArray)(e k:Int):(rawS s e k).size<=s.size:=by
 unfold rawS;split
 ·exact Nat.le_refl _
 ·rw[ByteArray.size_extract];omega
theorem Fk(r:Rst):∀j,(ldS r j).1.size<=r.1.size
 | 0=>Nat.le_refl _
 | j+1=>Nat.le_trans (Cp _ _ _) (Nat.le_trans (Cp _ _ _) (Fk r j))
theorem Fq(r:Rst):∀j,(ndS r j).1.size<=r.1.size
 | 0=>Nat.le_refl _
 | j+1=>Nat.le_trans (Dl _ _ _) (Nat.le_trans (Cp _ _ _) (Fq r j))
theorem EL(r:Rst):gNum r 2<65536:=by
 unfold gNum;have h1:=OH (rawR r.1 r.2 (wid 2)).data.toList;have h2:(rawR r.1 r.2 (wid 2)).data.toList.length<=2:=by
  rw[Av];have:=Ek r.1 r.2 (wid 2);have e:((wid 2:Nat):Int)=2:=rfl;omega
 exact Qd h1 (Nat.le_trans (Nat.pow_le_pow_right (by omega) h2) (by omega))
def pStrM(m:Nat)(l:List UInt8):Option (ByteArray × List UInt8):=match pStr l with
 | some (k,r)=>if k.size<=m then some (k,r) else none
 | none=>none
theorem FO(l:List UInt8)(m:Nat):match pStrM m l with
  | some (k,r)=>gStr (mkB l,0) m=k/\sStr (mkB l,0) m=(mkB r,0)
  | none=>(sStr (mkB l,0) m).2≠0:=by
 have hsz:=AB l;cases l with
 | nil =>
  show strE (mkB []) 0 m≠0;unfold strE;rw[if_neg (by omega),if_pos (by rw[AB];rfl)];omega
 | cons c r =>
  have hN:strN (mkB (c::r))=c.toNat:=rfl;unfold pStrM pStr;dsimp only;simp only[List.length_cons]at hsz;by_cases h1:c.toNat<=r.length
  ·rw[if_pos h1];dsimp only;have hk:(mkB (r.take c.toNat)).size=c.toNat:=by rw[AB,List.length_take];omega
   rw[hk];by_cases h2:c.toNat<=m
   ·rw[if_pos h2];have hok:strOk (mkB (c::r)) 0 (m:Int)=true:=by
     unfold strOk;rw[decide_eq_true_eq,hN];omega
    refine⟨?_,?_⟩
    ·show strR _ _ _=_;unfold strR;rw[if_pos hok,hN,DN];congr 1;show r.take _=_;congr 1;omega
    ·have e1:strS (mkB (c::r)) 0 (m:Int)=mkB (r.drop c.toNat):=by
      unfold strS;rw[if_pos hok,hN,DN];congr 1;rw[show 1+c.toNat=c.toNat+1 by omega,List.drop_succ_cons];exact List.take_of_length_le (by rw[List.length_drop];omega)
     have e2:strE (mkB (c::r)) 0 (m:Int)=0:=by
      unfold strE;rw[if_neg (by omega),if_neg (by omega),hN,if_neg (by omega),if_neg (by omega)]
     show (strS _ _ _,strE _ _ _)=_;rw[e1,e2]
   ·rw[if_neg h2];show strE (mkB (c::r)) 0 (m:Int)≠0;unfold strE;rw[if_neg (by omega),if_neg (by omega),hN,if_pos (by omega)];omega
  ·rw[if_neg h1];show strE (mkB (c::r)) 0 (m:Int)≠0;unfold strE;rw[if_neg (by omega),if_neg (by omega),hN];split
   ·omega
   ·rw[if_pos (by omega)];omega
theorem Ji(l:List UInt8):if 2<=l.length then gNum (mkB l,0) 2=val (l.take 2)/\sNum (mkB l,0) 2=(mkB (l.drop 2),0) else (sNum (mkB l,0) 2).2≠0:=by
 have hw:wid 2=2:=rfl;split
 ·rename_i h;have h1:=Ln (l.take 2) (l.drop 2);rw[List.take_append_drop,List.length_take,Nat.min_eq_left h]at h1;unfold gNum sNum;rw[hw];dsimp only;rw[h1.1,h1.2.1,h1.2.2,Ci];exact⟨rfl,rfl⟩
 ·rename_i h;show rawE (mkB l) 0 (wid 2:Nat)≠0;unfold rawE;rw[if_neg (by omega),if_pos (by rw[AB,hw];omega)];omega
def pPrsM:Nat->List UInt8->Option (List Pr × List UInt8)
 | 0,l=>some ([],l)
 | j+1,l=>match pPrsM j l with
  | none=>none
  | some (ps,r)=>match pStrM 32 r with
   | none=>none
   | some (k,r1)=>match pStrM 40 r1 with
    | none=>none
    | some (v,r2)=>some (ps++[⟨k,v⟩],r2)
theorem KZ(l:List UInt8):∀j,match pPrsM j l with
  | some (ps,r)=>ldP (mkB l,0) j=ps/\ldS (mkB l,0) j=(mkB r,0)
  | none=>(ldS (mkB l,0) j).2≠0
 | 0=>⟨rfl,rfl⟩
 | j+1=>by
  have ih:=KZ l j
  show match (match pPrsM j l with
   | none=>none
   | some (ps,r)=>match pStrM 32 r with
    | none=>none
    | some (k,r1)=>match pStrM 40 r1 with
     | none=>none
     | some (v,r2)=>some (ps++[(⟨k,v⟩:Pr)],r2)) with
   | some (ps,r)=>ldP (mkB l,0) j++[(⟨gStr (ldS (mkB l,0) j) 32,gStr (sStr (ldS (mkB l,0) j) 32) 40⟩:Pr)]=ps/\sStr (sStr (ldS (mkB l,0) j) 32) 40=(mkB r,0)
   | none=>(sStr (sStr (ldS (mkB l,0) j) 32) 40).2≠0
  cases h:pPrsM j l with
  | none =>
   rw[h]at ih
   exact CC _ _ (CC _ _ ih)
  | some x =>
   obtain⟨ps,r⟩:=x
   rw[h]at ih
   dsimp only at ih |-
   rw[ih.1,ih.2]
   have h1:=FO r 32
   cases e1:pStrM 32 r with
   | none =>
    rw[e1]at h1
    exact CC _ _ h1
   | some y =>
    obtain⟨k,r1⟩:=y
    rw[e1]at h1
    dsimp only at h1 |-
    rw[show ((32:Nat):Int)=32 from rfl]at h1
    rw[h1.1,h1.2]
    have h2:=FO r1 40
    cases e2:pStrM 40 r1 with
    | none =>
     rw[e2]at h2
     exact h2
    | some z =>
     obtain⟨v,r2⟩:=z
     rw[e2]at h2
     dsimp only at h2 |-
     rw[show ((40:Nat):Int)=40 from rfl]at h2
     rw[h2.1,h2.2]
     exact⟨rfl,rfl⟩
theorem Do{m:Nat}{l r:List UInt8}{k:ByteArray}(h:pStrM m l=some (k,r)):l=strB k.data.toList++r/\k.size<=m/\k.size<=255:=by
 unfold pStrM at h;split at h
 ·rename_i k' r' e;split at h
  ·rename_i hm;cases h
   unfold pStr at e;split at e
   ·rename_i c q;split at e
    ·rename_i hc;cases e
     have hk:(mkB (q.take c.toNat)).size=c.toNat:=by rw[AB,List.length_take];omega
     have h255:c.toNat<256:=UInt8.toNat_lt _;refine⟨?_,hm,by omega⟩;rw[Dw _ (by rw[Av];omega),Av,hk,Ci,List.cons_append,List.take_append_drop,UInt8.ofNat_toNat]
    ·cases e
   ·cases e
  ·cases h
 ·cases h
theorem Ei(m:Nat)(s:ByteArray)(r:List UInt8)(h:s.size<=m)(h':s.size<=255):pStrM m (strB s.data.toList++r)=some (s,r):=by
 unfold pStrM;rw[DV s r h'];dsimp only;rw[if_pos h]
theorem Dk(l:List Pr)(p:Pr):encPs (l++[p])=encPs l++encPr p:=by simp[encPs]
theorem FC(l:List UInt8):∀j ps r,pPrsM j l=some (ps,r)->ps.length=j/\l=encPs ps++r
 | 0,ps,r,h=>by
  cases h
  exact⟨rfl,rfl⟩
 | j+1,ps,r,h=>by
  unfold pPrsM at h
  split at h
  ·cases h
  ·rename_i ps0 r0 e0
   split at h
   ·cases h
   ·rename_i k r1 e1
    split at h
    ·cases h
    ·rename_i v r2 e2
     cases h
     obtain⟨i1,i2⟩:=FC l j ps0 r0 e0
     obtain⟨a1,a2,a3⟩:=Do e1
     obtain⟨b1,b2,b3⟩:=Do e2
     refine⟨by rw[List.length_append,i1];rfl,?_⟩
     rw[i2,a1,b1,Dk]
     unfold encPr
     simp only[List.append_assoc]
theorem Ft{α:Type}{l:List α}{j:Nat}(h:l.length=j+1):∃q p,l=q++[p]/\q.length=j:=by
 refine⟨l.take j,l[j]'(by omega),?_,by rw[List.length_take];omega⟩;rw[<-List.take_succ_eq_append_getElem,List.take_of_length_le (by omega)]
theorem Gu:∀(j:Nat) (ps:List Pr) (r:List UInt8),ps.length=j->(∀p∈ps,p.k.size<=32/\p.v.size<=40)->pPrsM j (encPs ps++r)=some (ps,r)
 | 0,ps,r,h,_=>by
  rw[List.length_eq_zero_iff.1 h]
  rfl
 | j+1,ps,r,h,hs=>by
  obtain⟨q,p,rfl,hq⟩:=Ft h
  have hp:=hs p (by simp)
  have e:encPs (q++[p])++r=encPs q++(strB p.k.data.toList++(strB p.v.data.toList++r)):=by
   rw[Dk];unfold encPr;simp only[List.append_assoc]
  rw[e];unfold pPrsM;rw[Gu j q _ hq (fun x hx=>hs x (by simp[hx]))];dsimp only;rw[Ei _ _ _ hp.1 (by omega)];dsimp only;rw[Ei _ _ _ hp.2 (by omega)]
def pKsM:Nat->List UInt8->Option (List ByteArray × List Int × List UInt8)
 | 0,l=>some ([],[],l)
 | j+1,l=>match pKsM j l with
  | none=>none
  | some (ks,ds,r)=>match pStrM 32 r with
   | none=>none
   | some (k,r1)=>if 2<=r1.length then some (ks++[k],ds++[(val (r1.take 2):Int)],r1.drop 2) else none
theorem La(l:List UInt8):∀j,match pKsM j l with
  | some (ks,ds,r)=>ndK (mkB l,0) j=ks/\ndD (mkB l,0) j=ds/\ndS (mkB l,0) j=(mkB r,0)
  | none=>(ndS (mkB l,0) j).2≠0
 | 0=>⟨rfl,rfl,rfl⟩
 | j+1=>by
  have ih:=La l j
  show match (match pKsM j l with
   | none=>none
   | some (ks,ds,r)=>match pStrM 32 r with
    | none=>none
    | some (k,r1)=>if 2<=r1.length then some (ks++[k],ds++[(val (r1.take 2):Int)],r1.drop 2) else none) with
   | some (ks,ds,r)=>ndK (mkB l,0) j++[gStr (ndS (mkB l,0) j) 32]=ks/\ndD (mkB l,0) j++[(gNum (sStr (ndS (mkB l,0) j) 32) 2:Int)]=ds/\sNum (sStr (ndS (mkB l,0) j) 32) 2=(mkB r,0)
   | none=>(sNum (sStr (ndS (mkB l,0) j) 32) 2).2≠0
  cases h:pKsM j l with
  | none =>
   rw[h]at ih
   exact FI _ _ (CC _ _ ih)
  | some x =>
   obtain⟨ks,ds,r⟩:=x
   rw[h]at ih
   dsimp only at ih |-
   rw[ih.1,ih.2.1,ih.2.2]
   have h1:=FO r 32
   cases e1:pStrM 32 r with
   | none =>
    rw[e1]at h1
    exact FI _ _ h1
   | some y =>
    obtain⟨k,r1⟩:=y
    rw[e1]at h1
    dsimp only at h1 |-
    rw[show ((32:Nat):Int)=32 from rfl]at h1
    rw[h1.1,h1.2]
    have h2:=Ji r1
    by_cases hl:2<=r1.length
    ·rw[if_pos hl]at h2 |-
     dsimp only
     rw[h2.1,h2.2]
     exact⟨rfl,rfl,rfl⟩
    ·rw[if_neg hl]at h2 |-
     exact h2
theorem KO(l:List UInt8)(h:l.length=2):be (val l) 2=l:=by
 match l,h with
 | [a,b],_ =>
  have ha:=UInt8.toNat_lt a;have hb:=UInt8.toNat_lt b;show [UInt8.ofNat (val [a,b] / 2 ^ (8*1)),UInt8.ofNat (val [a,b] / 2 ^ (8*0))]=[a,b];have e:val [a,b]=a.toNat*256+b.toNat:=by simp[val]
  rw[e];have e1:(a.toNat*256+b.toNat) / 2 ^ (8*1)=a.toNat:=by omega
  have e2:(a.toNat*256+b.toNat) / 2 ^ (8*0)=a.toNat*256+b.toNat:=by omega
  rw[e1,e2];have e3:UInt8.ofNat (a.toNat*256+b.toNat)=b:=by
   apply UInt8.toNat.inj;rw[UInt8.toNat_ofNat'];omega
  rw[e3,UInt8.ofNat_toNat]
theorem CK:∀(l:List ByteArray) (m:List Int) (k:ByteArray) (d:Int),m.length=l.length->encKs (l++[k]) (m++[d])=encKs l m++(strB k.data.toList++be d.toNat 2)
 | [],[],k,d,_=>by simp[encKs]
 | x::l,z::m,k,d,h=>by
  have ih:=CK l m k d (by simpa using h)
  simp only[List.cons_append,encKs,List.append_assoc]at ih |-
  rw[ih]
theorem Gt(l:List UInt8):∀j ks ds r,pKsM j l=some (ks,ds,r)->ks.length=j/\ds.length=j/\l=encKs ks ds++r
 | 0,ks,ds,r,h=>by
  cases h
  exact⟨rfl,rfl,rfl⟩
 | j+1,ks,ds,r,h=>by
  unfold pKsM at h
  split at h
  ·cases h
  ·rename_i ks0 ds0 r0 e0
   split at h
   ·cases h
   ·rename_i k r1 e1
    split at h
    ·rename_i hl
     cases h
     obtain⟨i1,i2,i3⟩:=Gt l j ks0 ds0 r0 e0
     obtain⟨a1,a2,a3⟩:=Do e1
     refine⟨by rw[List.length_append,i1];rfl,by rw[List.length_append,i2];rfl,?_⟩
     have e2:be ((val (r1.take 2):Int)).toNat 2=r1.take 2:=by
      rw[Int.toNat_natCast];exact KO _ (by rw[List.length_take];omega)
     rw[CK _ _ _ _ (by omega),e2,i3,a1];simp only[List.append_assoc,List.take_append_drop]
    ·cases h
theorem I0:∀(j:Nat) (ks:List ByteArray) (ds:List Int) (r:List UInt8),ks.length=j->ds.length=j->(∀k∈ks,k.size<=32)->(∀d∈ds,1<=d/\d<=65535)->pKsM j (encKs ks ds++r)=some (ks,ds,r)
 | 0,ks,ds,r,h,h',_,_=>by
  rw[List.length_eq_zero_iff.1 h,List.length_eq_zero_iff.1 h']
  rfl
 | j+1,ks,ds,r,h,h',hk,hd=>by
  obtain⟨q,p,rfl,hq⟩:=Ft h
  obtain⟨q',d,rfl,hq'⟩:=Ft h'
  have hp:=hk p (by simp)
  have h2:(be d.toNat 2).length=2:=B3 _ _
  have e:encKs (q++[p]) (q'++[d])++r=encKs q q'++(strB p.data.toList++(be d.toNat 2++r)):=by
   rw[CK _ _ _ _ (by omega)];simp only[List.append_assoc]
  have e1:(be d.toNat 2++r).take 2=be d.toNat 2:=by
   have:=List.take_left (l₁:=be d.toNat 2) (l₂:=r);rw[h2]at this;exact this
  have e2:(be d.toNat 2++r).drop 2=r:=by
   have:=List.drop_left (l₁:=be d.toNat 2) (l₂:=r);rw[h2]at this;exact this
  rw[e];unfold pKsM;rw[I0 j q q' _ hq hq' (fun x hx=>hk x (by simp[hx])) (fun x hx=>hd x (by simp[hx]))];dsimp only;rw[Ei _ _ _ hp (by omega)];dsimp only;rw[if_pos (by rw[List.length_append,h2];omega),e1,e2,EU d (hd d (by simp))]
theorem Jx(l:List UInt8)(h:∀x∈l,x=0):l=List.replicate l.length 0:=List.eq_replicate_iff.2 ⟨rfl,h⟩
theorem Cn(s:ByteArray)(n:Nd):readN s=some n↔n.writeE=0/\mkB n.page=s:=by
 constructor
 ·intro h;obtain⟨h1,h2⟩:=Bk h;refine⟨h1,?_⟩;unfold Nd.write at h2;rw[if_pos h1]at h2;exact h2
 ·rintro ⟨h1,h2⟩;have:=EB h1;unfold Nd.write at this;rw[if_pos h1,h2]at this;exact this
theorem G4{a b:List UInt8}(h:mkB a=mkB b):a=b:=by
 have:=congrArg (fun s:ByteArray=>s.data.toList) h;exact this
theorem GH{n:Nd}(hr:n.right=true)(h:n.body.length<=256):n.writeE=0:=by
 unfold Nd.writeE;rw[if_pos hr,if_neg (by rw[<-Dz hr];omega)]
theorem Ay{n:Nd}(h:n.writeE=0):n.right=true/\n.size<=256:=by
 unfold Nd.writeE at h;split at h
 ·rename_i hr;split at h
  ·cases h
  ·exact⟨hr,by omega⟩
 ·cases h
theorem Mm(c:UInt8)(l:List UInt8)(h:l.length=254):readN (mkB (1::c::l)) =
  if (ldS (mkB l,0) c.toNat).2=0/\(⟨true,ldP (mkB l,0) c.toNat,[],[]⟩:Nd).right=true/\(∀x∈(ldS (mkB l,0) c.toNat).1.data.toList,x=0) then some ⟨true,ldP (mkB l,0) c.toNat,[],[]⟩ else none:=by
 have hsp:=KZ l c.toNat;split
 ·rename_i hc;obtain⟨h1,h2,h3⟩:=hc;cases e:pPrsM c.toNat l with
  | none=>rw[e]at hsp;exact absurd h1 hsp
  | some x =>
   obtain⟨ps,r⟩:=x;rw[e]at hsp;dsimp only at hsp;rw[hsp.1]at h2 |-;rw[hsp.2]at h3;obtain⟨g1,g2⟩:=FC l _ _ _ e;have hz:=Jx r h3;rw[Cn];have hb:(⟨true,ps,[],[]⟩:Nd).body=1::c::encPs ps:=by
    show [1,UInt8.ofNat ps.length]++encPs ps=_;rw[g1,UInt8.ofNat_toNat];rfl
   have hlen:=congrArg List.length g2;rw[List.length_append,h]at hlen;refine⟨GH h2 (by rw[hb];simp only[List.length_cons];omega),?_⟩;unfold Nd.page;rw[hb];congr 1;show 1::c::(encPs ps++_)=_;rw[g2,show 256 - (1::c::encPs ps).length=r.length by simp only[List.length_cons];omega,<-hz]
 ·rename_i hc;cases e:readN (mkB (1::c::l)) with
  | none=>rfl
  | some m =>
   exfalso;obtain⟨h1,h2⟩:=(Cn _ _).1 e;have h3:=G4 h2;obtain⟨hr,hsz⟩:=Ay h1;cases hl:m.leaf with
   | false =>
    unfold Nd.page Nd.body at h3;rw[hl]at h3;simp only[Bool.false_eq_true,if_false,List.cons_append]at h3;have:=(List.cons.inj h3).1;cases this
   | true =>
    obtain⟨a1,a2,a3,a4⟩:=AI hr hl;have hps:=BR hr hl;have hlen:m.ps.length<=255:=by
     have:=FP m.ps (fun p hp=>(hps p hp).1.1);unfold Nd.size at hsz;rw[hl,if_pos rfl]at hsz;omega
    have hm:m=⟨true,m.ps,[],[]⟩:=by
     cases m
     dsimp only at *;subst a2 a3 hl;rfl
    have hpg:m.page=1::UInt8.ofNat m.ps.length::(encPs m.ps++List.replicate (256 - m.body.length) 0):=by
     unfold Nd.page;conv=>lhs;arg 1;unfold Nd.body
     rw[hl,if_pos rfl];rfl
    rw[hpg]at h3;have h4:=(List.cons.inj (List.cons.inj h3).2).1;have h5:=(List.cons.inj (List.cons.inj h3).2).2;have eb:c.toNat=m.ps.length:=by
     rw[<-h4,UInt8.toNat_ofNat'];exact Nat.mod_eq_of_lt (by omega)
    have hp:=Gu c.toNat m.ps (List.replicate (256 - m.body.length) 0) eb.symm (fun p hp=>⟨(hps p hp).1.2,(hps p hp).2⟩);rw[h5]at hp;rw[hp]at hsp;dsimp only at hsp;refine hc ⟨by rw[hsp.2],?_,?_⟩
    ·rw[hsp.1,<-hm];exact hr
    ·rw[hsp.2];intro x hx;exact(List.mem_replicate.1 hx).2
theorem Ki(c:UInt8)(l:List UInt8)(h:l.length=254):readN (mkB (2::c::l)) =
  if (ndS (sNum (mkB l,0) 2) c.toNat).2=0/\(⟨false,[],ndK (sNum (mkB l,0) 2) c.toNat,(gNum (mkB l,0) 2:Int)::ndD (sNum (mkB l,0) 2) c.toNat⟩:Nd).right=true/\(∀x∈(ndS (sNum (mkB l,0) 2) c.toNat).1.data.toList,x=0) then some ⟨false,[],ndK (sNum (mkB l,0) 2) c.toNat,(gNum (mkB l,0) 2:Int)::ndD (sNum (mkB l,0) 2) c.toNat⟩ else none:=by
 have hs2:=Ji l;rw[if_pos (by omega)]at hs2;rw[hs2.1,hs2.2];have hsp:=La (l.drop 2) c.toNat;split
 ·rename_i hc;obtain⟨h1,h2,h3⟩:=hc;cases e:pKsM c.toNat (l.drop 2) with
  | none=>rw[e]at hsp;exact absurd h1 hsp
  | some x =>
   obtain⟨ks,ds,r⟩:=x;rw[e]at hsp;dsimp only at hsp;rw[hsp.1,hsp.2.1]at h2 |-;rw[hsp.2.2]at h3;obtain⟨g1,g2,g3⟩:=Gt _ _ _ _ _ e;have hz:=Jx r h3;rw[Cn];have hb:(⟨false,[],ks,(val (l.take 2):Int)::ds⟩:Nd).body=2::c::(l.take 2++encKs ks ds):=by
    show [2,UInt8.ofNat ks.length]++be ((val (l.take 2):Int)).toNat 2++encKs ks ds=_;rw[g1,UInt8.ofNat_toNat,Int.toNat_natCast,KO _ (by rw[List.length_take];omega)];rfl
   have hlen:=congrArg List.length g3;rw[List.length_append,List.length_drop,h]at hlen;have htk:(l.take 2).length=2:=by rw[List.length_take];omega
   refine⟨GH h2 (by rw[hb];simp only[List.length_cons,List.length_append,htk];omega),?_⟩;unfold Nd.page;rw[hb];congr 1;show 2::c::((l.take 2++encKs ks ds)++_)=_;rw[show 256 - (2::c::(l.take 2++encKs ks ds)).length=r.length by simp only[List.length_cons,List.length_append,htk];omega,<-hz,List.append_assoc,<-g3,List.take_append_drop]
 ·rename_i hc;cases e:readN (mkB (2::c::l)) with
  | none=>rfl
  | some m =>
   exfalso;obtain⟨h1,h2⟩:=(Cn _ _).1 e;have h3:=G4 h2;obtain⟨hr,hsz⟩:=Ay h1;cases hl:m.leaf with
   | true =>
    unfold Nd.page Nd.body at h3;rw[hl,if_pos rfl]at h3;simp only[List.cons_append]at h3;have:=(List.cons.inj h3).1;cases this
   | false =>
    obtain⟨a1,a2,a3,a4⟩:=At hr hl;have hks:=Bj a4;have hlen:m.ks.length<=255:=by
     have:=D7 m.ks (fun k hk=>(hks k hk).1);unfold Nd.size at hsz;rw[hl]at hsz;simp only[Bool.false_eq_true,if_false]at hsz;omega
    obtain⟨d,ds,hkd⟩:∃d m',m.kd=d::m':=by
     cases hk:m.kd with
     | nil=>rw[hk]at a3;simp at a3
     | cons d m'=>exact⟨d,m',rfl⟩
    rw[hkd]at a1 a3;have hm:m=⟨false,[],m.ks,d::ds⟩:=by
     cases m
     dsimp only at *;subst a2 hl hkd;rfl
    have hpg:m.page=2::UInt8.ofNat m.ks.length::(be d.toNat 2++(encKs m.ks ds++List.replicate (256 - m.body.length) 0)):=by
     unfold Nd.page;conv=>lhs;arg 1;unfold Nd.body
     rw[hl,hkd];simp only[Bool.false_eq_true,if_false,List.headD_cons,List.tail_cons,List.append_assoc,List.cons_append,List.nil_append]
    rw[hpg]at h3;have h4:=(List.cons.inj (List.cons.inj h3).2).1;have h5:=(List.cons.inj (List.cons.inj h3).2).2;have eb:c.toNat=m.ks.length:=by
     rw[<-h4,UInt8.toNat_ofNat'];exact Nat.mod_eq_of_lt (by omega)
    have h2':(be d.toNat 2).length=2:=B3 _ _;have e1:l.take 2=be d.toNat 2:=by
     rw[<-h5];have:=List.take_left (l₁:=be d.toNat 2) (l₂:=encKs m.ks ds++List.replicate (256 - m.body.length) 0);rw[h2']at this;exact this
    have e2:l.drop 2=encKs m.ks ds++List.replicate (256 - m.body.length) 0:=by
     rw[<-h5];have:=List.drop_left (l₁:=be d.toNat 2) (l₂:=encKs m.ks ds++List.replicate (256 - m.body.length) 0);rw[h2']at this;exact this
    simp only[List.length_cons]at a3;have hp:=I0 c.toNat m.ks ds (List.replicate (256 - m.body.length) 0) eb.symm (by omega) (fun k hk=>(hks k hk).2) (fun z hz=>a1 z (List.mem_cons_of_mem _ hz));rw[e2]at hsp hc;rw[hp]at hsp;dsimp only at hsp;refine hc ⟨by rw[hsp.2.2],?_,?_⟩
    ·rw[hsp.1,hsp.2.1,e1,EU d (a1 d List.mem_cons_self),<-hm];exact hr
    ·rw[hsp.2.2];intro x hx;exact(List.mem_replicate.1 hx).2
theorem Mn(s:ByteArray)(h:s.size≠256\/∃a l,s=mkB (a::l)/\a≠1/\a≠2):readN s=none:=by
 cases e:readN s with
 | none=>rfl
 | some m =>
  exfalso;obtain⟨h1,h2⟩:=(Cn _ _).1 e;rcases h with h|⟨a,l,rfl,h3,h4⟩
  ·apply h;rw[<-h2,AB,CO h1]
  ·have h5:=G4 h2;unfold Nd.page Nd.body at h5;cases hl:m.leaf with
   | true =>
    rw[hl,if_pos rfl]at h5;simp only[List.cons_append]at h5;exact h3 (List.cons.inj h5).1.symm
   | false =>
    rw[hl]at h5;simp only[Bool.false_eq_true,if_false,List.cons_append]at h5;exact h4 (List.cons.inj h5).1.symm
end Go.Proofs.YtgcgacjhkhjhmaaGreatDoor
namespace Go.Proofs.YtgcgacjhkhjhmaaGreatDoor
open Go Go.RowKit
theorem Nb.fz{w:World}{b:Nat}{l:Bool}{pv kv dv:Value}(h:Nb w b l pv kv dv)(j:Nat):w.frozen? ⟨b,j,none⟩=false:=by
 unfold World.frozen?;rw[show w.heap[(⟨b,j,none⟩:Addr).block]?=_ from h];simp
theorem Nb.set0{w:World}{b:Nat}{l:Bool}{pv kv dv:Value}(h:Nb w b l pv kv dv)(x:Bool):Nb (w.setCell ⟨b,0,none⟩ (.bool x)) b x pv kv dv:=by
 unfold Nb;rw[heap_setCell_same w b 0 _ 35 _ h];rfl
theorem Nb.set1{w:World}{b:Nat}{l:Bool}{pv kv dv:Value}(h:Nb w b l pv kv dv)(x:Value):Nb (w.setCell ⟨b,1,none⟩ x) b l x kv dv:=by
 unfold Nb;rw[heap_setCell_same w b 1 _ 35 _ h];rfl
theorem Nb.set2{w:World}{b:Nat}{l:Bool}{pv kv dv:Value}(h:Nb w b l pv kv dv)(x:Value):Nb (w.setCell ⟨b,2,none⟩ x) b l pv x dv:=by
 unfold Nb;rw[heap_setCell_same w b 2 _ 35 _ h];rfl
theorem Nb.set3{w:World}{b:Nat}{l:Bool}{pv kv dv:Value}(h:Nb w b l pv kv dv)(x:Value):Nb (w.setCell ⟨b,3,none⟩ x) b l pv kv x:=by
 unfold Nb;rw[heap_setCell_same w b 3 _ 35 _ h];rfl
theorem Nb.put{w:World}{b:Nat}{l:Bool}{pv kv dv:Value}(h:Nb w b l pv kv dv)(l':Bool)(pv' kv' dv':Value) :
  Nb ((((w.setCell ⟨b,0,none⟩ (.bool l')).setCell ⟨b,1,none⟩ pv').setCell ⟨b,2,none⟩ kv').setCell ⟨b,3,none⟩ dv') b l' pv' kv' dv' /\
  Kp (only b) w ((((w.setCell ⟨b,0,none⟩ (.bool l')).setCell ⟨b,1,none⟩ pv').setCell ⟨b,2,none⟩ kv').setCell ⟨b,3,none⟩ dv') :=
 ⟨(((h.set0 l').set1 pv').set2 kv').set3 dv',(((Kp.setCell (S:=only b) _ _ _ _ rfl).then (Kp.setCell _ _ _ _ rfl)).then (Kp.setCell _ _ _ _ rfl)).then (Kp.setCell _ _ _ _ rfl)⟩
theorem ER{w:World}{g:Nat}{l:Bool}{a1 a2 a3:Option Addr}{n1 c1 n2 c2 n3 c3:Nat}(h:Nb w g l (.slice a1 n1 c1) (.slice a2 n2 c2) (.slice a3 n3 c3)):(loadVar 35 ⟨g,0,none⟩).run prog w=.ok (.agg #[.bool l,.slice a1 n1 c1,.slice a2 n2 c2,.slice a3 n3 c3]) w:=by
 have c0:=h.c0;have c1:=h.c1;have c2:=h.c2;have c3:=h.c3;go_simp
theorem As{fn:Func}{p:Tmp}(h:fn.results=#[.cell p 35])(tmps:Array Value)(g:Nat)(W:World){l:Bool}{a1 a2 a3:Option Addr}{n1 c1 n2 c2 n3 c3:Nat}(hp:tmps.getD p undef=.pointer (some ⟨g,0,none⟩))(hV:Nb W g l (.slice a1 n1 c1) (.slice a2 n2 c2) (.slice a3 n3 c3)) :
  (results fn tmps).run prog W=.ok (.agg #[.bool l,.slice a1 n1 c1,.slice a2 n2 c2,.slice a3 n3 c3]) W:=by
 have e:(results fn tmps).run prog W=((asAddr (tmps.getD p undef)).run prog W).andThen fun a w1=>(loadVar 35 a).run prog w1:=by
  simp only[results,h];simp[Sem.run_bind,Result.andThen]
 rw[e,hp];simp[asAddr,Result.andThen,ER hV]
theorem AL{fn:Func}{p q u:Tmp}(h:fn.results=#[.cell p 35,.cell q 35,.tmp u])(tmps:Array Value)(g g':Nat)(W:World)(er:Value){l l':Bool}{a1 a2 a3 a1' a2' a3':Option Addr}{n1 c1 n2 c2 n3 c3 n1' c1' n2' c2' n3' c3':Nat}(hp:tmps.getD p undef=.pointer (some ⟨g,0,none⟩))(hq:tmps.getD q undef=.pointer (some ⟨g',0,none⟩))(hu:tmps.getD u undef=er)
  (hV:Nb W g l (.slice a1 n1 c1) (.slice a2 n2 c2) (.slice a3 n3 c3)) (hV':Nb W g' l' (.slice a1' n1' c1') (.slice a2' n2' c2') (.slice a3' n3' c3')) :
  (results fn tmps).run prog W=.ok (.tuple #[.agg #[.bool l,.slice a1 n1 c1,.slice a2 n2 c2,.slice a3 n3 c3],.agg #[.bool l',.slice a1' n1' c1',.slice a2' n2' c2',.slice a3' n3' c3'],er]) W:=by
 have hp':tmps[p]?.getD undef=.pointer (some ⟨g,0,none⟩):=by simpa using hp
 have hq':tmps[q]?.getD undef=.pointer (some ⟨g',0,none⟩):=by simpa using hq
 have hu':tmps[u]?.getD undef=er:=by simpa using hu
 simp only[results,h];simp[Sem.run_bind,Result.andThen,hp',hq',hu',asAddr,ER hV,ER hV']
set_option maxRecDepth 100000 in
theorem DW(p:Pr)(w:World) :
  Calls prog 51 #[.agg #[.string p.k,.string p.v]] w fun e w'=>e=.returned (.int .i64 (wrap64 p.size))/\Kp none' w w':=by
 go_enter func51,ntmps51;go_wp2;go_ret;refine⟨reti ?_,Kp.alloc _ _ _⟩;unfold Pr.size;first|omega|(unfold wrap64;push_cast;omega)
set_option maxRecDepth 100000 in
theorem Ev(k:ByteArray)(w:World) :
  Calls prog 53 #[.string k] w fun e w'=>e=.returned (.int .i64 (wrap64 (kSize k)))/\Kp none' w w':=by
 go_enter func53,ntmps53;go_wp2;go_ret;refine⟨reti ?_,Kp.refl _ _⟩;unfold kSize;first|omega|(unfold wrap64;push_cast;omega)
theorem PT(w:World)(p:Pr):(w.alloc (.cells #[.string p.k,.string p.v] 92)).cell? ⟨w.heap.size,0,none⟩=some (.string p.k)/\(w.alloc (.cells #[.string p.k,.string p.v] 92)).cell? ⟨w.heap.size,1,none⟩=some (.string p.v):=by
 have h:=heap_alloc_new w (.cells #[.string p.k,.string p.v] 92);constructor
 ·rw[cell_of_row _ w.heap.size 0 _ 92 (0,0) h];rfl
 ·rw[cell_of_row _ w.heap.size 1 _ 92 (0,0) h];rfl
set_option maxRecDepth 100000 in
theorem Jk(v:Value)(ps:List Pr)(B:Nat)(w:World)(hP:Prs B w v ps) :
  Calls prog 50 #[v,.func (.func 51) #[] #[]] w fun e w'=>e=.returned (.int .i64 (wrap64 ((ps.map Pr.size).sum:Nat)))/\Kp none' w w':=by
 obtain⟨a,c,rfl,hlc,hcm,ha⟩:=hP;unfold maxLen at hcm;have HA:Hid (∀i (h:i<ps.length),∃b off,a=some ⟨b,off,none⟩/\b<B/\w.cell? ⟨b,off+i*2,none⟩=some (.string ps[i].k)/\w.cell? ⟨b,off+i*2+1,none⟩=some (.string ps[i].v)):=ha;clear ha;go_enter func50,ntmps50;go_wp2;go_loopw [5,7,10] (fun t _ u wr=>∃j:Nat,j<=ps.length/\u=.int .i64 j/\t=.int .i64 (wrap64 (((ps.take j).map Pr.size).sum:Nat))/\Kp none' w wr) (fun _ _ u _=>ps.length - (intOf u).toNat)
 case atStart=>exact⟨0,Nat.zero_le _,rfl,by simp[wrap64],Kp.refl _ _⟩
 case round =>
  obtain⟨j,hj,rfl,rfl,hK⟩:=hrel;by_cases hlt:j<ps.length
  ·obtain⟨b,o,rfl,_,hc',hd'⟩:=HA.out j hlt;have hc:=hK.cell hc' (fun h=>h);have hd:=hK.cell hd' (fun h=>h);clear hc' hd';have hlt':(j:Int)<(ps.length:Int):=by omega
   have HT:Hid (((ps.take (j+1)).map Pr.size).sum=((ps.take j).map Pr.size).sum+ps[j].size):=OA _ _ _ hlt;generalize ps[j]=y at *;generalize hs:((ps.take j).map Pr.size).sum=sm at *;go_wp2_with (go_at_call 51;refine(DW y _).mono ?_;rintro e w' ⟨rfl,hK'⟩);go_roundw
   case rel =>
    refine⟨j+1,by omega,by go_num,?_,(hK.thenN (Kp.alloc _ _ _)).thenN hK'⟩;rw[HT.out];exact congrArg (Value.int .i64) (by rw[wrap_add];congr 1)
   case measure=>simp[intOf];omega
  ·have hlt':¬(j:Int)<(ps.length:Int):=by omega
   have hje:j=ps.length:=by omega
   subst hje;go_wp2;go_ret;exact⟨rfl,hK⟩
set_option maxRecDepth 100000 in
theorem Jj(v:Value)(ks:List ByteArray)(B:Nat)(w:World)(hS:Sl Value.string B w v ks) :
  Calls prog 52 #[v,.func (.func 53) #[] #[]] w fun e w'=>e=.returned (.int .i64 (wrap64 ((ks.map kSize).sum:Nat)))/\Kp none' w w':=by
 obtain⟨a,c,rfl,hlc,hcm,ha⟩:=hS;unfold maxLen at hcm;have HA:Hid (∀i (h:i<ks.length),∃b off,a=some ⟨b,off,none⟩/\b<B/\w.cell? ⟨b,off+i,none⟩=some (.string ks[i])):=ha;clear ha;go_enter func52,ntmps52;go_wp2;go_loopw [5,7,10] (fun t _ u wr=>∃j:Nat,j<=ks.length/\u=.int .i64 j/\t=.int .i64 (wrap64 (((ks.take j).map kSize).sum:Nat))/\Kp none' w wr) (fun _ _ u _=>ks.length - (intOf u).toNat)
 case atStart=>exact⟨0,Nat.zero_le _,rfl,by simp[wrap64],Kp.refl _ _⟩
 case round =>
  obtain⟨j,hj,rfl,rfl,hK⟩:=hrel;by_cases hlt:j<ks.length
  ·obtain⟨b,o,rfl,_,hc'⟩:=HA.out j hlt;have hc:=hK.cell hc' (fun h=>h);clear hc';have hlt':(j:Int)<(ks.length:Int):=by omega
   have HT:Hid (((ks.take (j+1)).map kSize).sum=((ks.take j).map kSize).sum+kSize ks[j]):=MB _ _ _ hlt;generalize ks[j]=y at *;generalize hs:((ks.take j).map kSize).sum=sm at *;go_wp2_with (go_at_call 53;refine(Ev y _).mono ?_;rintro e w' ⟨rfl,hK'⟩);go_roundw
   case rel =>
    refine⟨j+1,by omega,by go_num,?_,hK.thenN hK'⟩;rw[HT.out];exact congrArg (Value.int .i64) (by rw[wrap_add];congr 1)
   case measure=>simp[intOf];omega
  ·have hlt':¬(j:Int)<(ks.length:Int):=by omega
   have hje:j=ks.length:=by omega
   subst hje;go_wp2;go_ret;exact⟨rfl,hK⟩
set_option maxRecDepth 100000 in
theorem Cj(x:Value)(n:Nd)(B:Nat)(w:World)(hN:Nv B w x n) :
  Calls prog 27 #[x] w fun e w'=>e=.returned (.int .i64 (wrap64 n.size))/\Kp none' w w':=by
 obtain⟨⟨pv,kv,dv,rfl,hP,hS,hD⟩,hwf⟩:=hN;have hb:=Nb.new w n.leaf pv kv dv;obtain⟨lf,ps,ks,kd⟩:=n;dsimp only at *;have hK0:Kp none' w (w.alloc (.cells #[.bool lf,pv,kv,dv] 35)):=Kp.alloc _ _ _;have hP1:=hP.keptN hK0;have hS1:=hS.keptN hK0;cases lf with
 | true =>
  have hb0:=hb.c0;have hb1:=hb.c1;go_enter func27,ntmps27;go_wp2_with (go_at_call 50;refine(Jk pv ps B _ hP1).mono ?_;rintro e w' ⟨rfl,hK'⟩);go_ret;refine⟨reti ?_,hK0.thenN hK'⟩;have e:((⟨true,ps,ks,kd⟩:Nd).size:Int)=2+((ps.map Pr.size).sum:Nat):=by simp[Nd.size]
  rw[e];generalize (ps.map Pr.size).sum=q;unfold wrap64;omega
 | false =>
  have hb0:=hb.c0;have hb1:=hb.c2;go_enter func27,ntmps27;go_wp2_with (go_at_call 52;refine(Jj kv ks B _ hS1).mono ?_;rintro e w' ⟨rfl,hK'⟩);go_ret;refine⟨reti ?_,hK0.thenN hK'⟩;have e:((⟨false,ps,ks,kd⟩:Nd).size:Int)=4+((ks.map kSize).sum:Nat):=by simp[Nd.size]
  rw[e];generalize (ks.map kSize).sum=q;unfold wrap64;omega
theorem PF(a b:ByteArray):Op.bytesLess a.toList b.toList=lessB a b:=by unfold lessB;rw[ByteArray.toList_eq,ByteArray.toList_eq]
set_option maxRecDepth 100000 in
theorem Gb(x:Value)(n:Nd)(B:Nat)(k:ByteArray)(w:World)(hN:Nv B w x n) :
  Calls prog 69 #[x,.string k] w fun e w'=>e=.returned (.int .i64 (An n.ks k))/\Kp none' w w':=by
 obtain⟨⟨pv,kv,dv,rfl,hP,hS,hD⟩,hwf⟩:=hN;obtain⟨a,c,rfl,hlc,hcm,ha⟩:=hS;have hb:=Nb.new w n.leaf pv (.slice a n.ks.length c) dv;obtain⟨lf,ps,ks,kd⟩:=n;dsimp only at *;unfold maxLen at hcm;have HA:Hid (∀i (h:i<ks.length),∃b off,a=some ⟨b,off,none⟩/\b<B/\w.cell? ⟨b,off+i,none⟩=some (.string ks[i])):=ha;clear ha;have hK0:Kp none' w (w.alloc (.cells #[.bool lf,pv,.slice a ks.length c,dv] 35)):=Kp.alloc _ _ _;have hc2:=hb.c2;go_enter func69,ntmps69;go_wp2
 generalize w.alloc (.cells #[.bool lf,pv,.slice a ks.length c,dv] 35)=w0 at *;go_loopw [5,7,11] (fun t _ u wr=>∃j:Nat,j<=ks.length/\u=.int .i64 j/\t=.int .i64 (An (ks.take j) k)/\Kp none' w0 wr) (fun _ _ u _=>ks.length - (intOf u).toNat)
 case atStart=>exact⟨0,Nat.zero_le _,rfl,rfl,Kp.refl _ _⟩
 case round =>
  obtain⟨j,hj,rfl,rfl,hK⟩:=hrel;by_cases hlt:j<ks.length
  ·obtain⟨b,o,rfl,_,hc'⟩:=HA.out j hlt;have hc:=(hK0.thenN hK).cell hc' (fun h=>h);clear hc';have hlt':(j:Int)<(ks.length:Int):=by omega
   have HT:Hid (An (ks.take (j+1)) k=An (ks.take j) k+(if lessB k ks[j] then 0 else 1)):=by
    show _=_;rw[List.take_succ_eq_append_getElem hlt];unfold An;rw[List.filter_append,List.length_append];cases h:lessB k ks[j]<;>simp[h]
   have HC:Hid (An (ks.take j) k<=j):=by
    show _<=_;unfold An;refine Nat.le_trans (List.length_filter_le _ _) ?_;simp;omega
   generalize ks[j]=y at *;have hl:=PF y k;have hq:=Kv y k;cases hy:lessB k y with
   | true =>
    have h1:lessB y k=false:=AU hy;have h2:¬y=k:=fun e=>by rw[e,AD]at hy;cases hy
    rw[h1]at hl;rw[decide_eq_false h2]at hq;clear h1 h2;go_wp2;go_roundw
    case rel=>exact⟨j+1,by omega,by go_num,by rw[HT.out,hy];simp,hK⟩
    case measure=>simp[intOf];omega
   | false =>
    cases hy2:lessB y k with
    | true =>
     rw[hy2]at hl;clear hq;go_wp2;go_roundw
     case rel =>
      refine⟨j+1,by omega,by go_num,?_,hK⟩;rw[HT.out,hy];have:=HC.out;have e:((An (ks.take j) k+(if false=true then 0 else 1):Nat):Int)=(An (ks.take j) k:Int)+1:=by simp
      rw[e];generalize An (ks.take j) k=q at *;exact congrArg (Value.int .i64) (by unfold wrap64;omega)
     case measure=>simp[intOf];omega
    | false =>
     have h2:y=k:=BB hy2 hy;rw[hy2]at hl;rw[decide_eq_true h2]at hq;clear h2;go_wp2;go_roundw
     case rel =>
      refine⟨j+1,by omega,by go_num,?_,hK⟩;rw[HT.out,hy];have:=HC.out;have e:((An (ks.take j) k+(if false=true then 0 else 1):Nat):Int)=(An (ks.take j) k:Int)+1:=by simp
      rw[e];generalize An (ks.take j) k=q at *;exact congrArg (Value.int .i64) (by unfold wrap64;omega)
     case measure=>simp[intOf];omega
  ·have hlt':¬(j:Int)<(ks.length:Int):=by omega
   have hje:j=ks.length:=by omega
   subst hje;go_wp2;go_ret;exact⟨rfl,hK0.thenN hK⟩
set_option maxRecDepth 100000 in
theorem E8(x:Value)(n:Nd)(B:Nat)(k:ByteArray)(w:World)(hN:Nv B w x n) :
  Calls prog 36 #[x,.string k] w fun e w'=>e=.returned (.tuple #[.int .i64 (findN n.ps k),.bool (hasN n.ps k)])/\Kp none' w w':=by
 obtain⟨⟨pv,kv,dv,rfl,hP,hS,hD⟩,hwf⟩:=hN;obtain⟨a,c,rfl,hlc,hcm,ha⟩:=hP;have hb:=Nb.new w n.leaf (.slice a n.ps.length c) kv dv;obtain⟨lf,ps,ks,kd⟩:=n;dsimp only at *;unfold maxLen at hcm;have HA:Hid (∀i (h:i<ps.length),∃b off,a=some ⟨b,off,none⟩/\b<B/\w.cell? ⟨b,off+i*2,none⟩=some (.string ps[i].k)/\w.cell? ⟨b,off+i*2+1,none⟩=some (.string ps[i].v)):=ha;clear ha;have hK0:Kp none' w (w.alloc (.cells #[.bool lf,.slice a ps.length c,kv,dv] 35)):=Kp.alloc _ _ _;have hc1:=hb.c1
 go_enter func36,ntmps36;go_wp2;generalize w.alloc (.cells #[.bool lf,.slice a ps.length c,kv,dv] 35)=w0 at *;go_loopw [6,8,12] (fun t _ u wr=>∃j:Nat,j<=ps.length/\u=.int .i64 j/\t=.int .i64 (findN (ps.take j) k)/\Kp none' w0 wr) (fun _ _ u _=>ps.length - (intOf u).toNat)
 case atStart=>exact⟨0,Nat.zero_le _,rfl,rfl,Kp.refl _ _⟩
 case round =>
  obtain⟨j,hj,rfl,rfl,hK⟩:=hrel;have hc1:=(hb.kept hK (fun h=>h)).c1;by_cases hlt:j<ps.length
  ·obtain⟨b,o,rfl,_,hc',hd'⟩:=HA.out j hlt;have hc:=(hK0.thenN hK).cell hc' (fun h=>h);have hd:=(hK0.thenN hK).cell hd' (fun h=>h);clear hc' hd';have hlt':(j:Int)<(ps.length:Int):=by omega
   have HT:Hid (findN (ps.take (j+1)) k=findN (ps.take j) k+(if lessB ps[j].k k then 1 else 0)):=by
    show _=_;rw[List.take_succ_eq_append_getElem hlt];unfold findN;rw[List.filter_append,List.length_append];cases h:lessB ps[j].k k<;>simp[h]
   have HC:Hid (findN (ps.take j) k<=j):=by
    show _<=_;unfold findN;refine Nat.le_trans (List.length_filter_le _ _) ?_;simp;omega
   generalize ps[j]=y at *;have hl:=PF y.k k;have hKa:Kp none' wr (wr.alloc (.cells #[.string y.k,.string y.v] 92)):=Kp.alloc _ _ _;cases hy:lessB y.k k with
   | false =>
    rw[hy]at hl;go_wp2;go_roundw
    case rel=>exact⟨j+1,by omega,by go_num,by rw[HT.out,hy];simp,hK.thenN hKa⟩
    case measure=>simp[intOf];omega
   | true =>
    rw[hy]at hl;go_wp2;go_roundw
    case rel =>
     refine⟨j+1,by omega,by go_num,?_,hK.thenN hKa⟩;rw[HT.out,hy];have:=HC.out;have e:((findN (ps.take j) k+(if true=true then 1 else 0):Nat):Int)=(findN (ps.take j) k:Int)+1:=by simp
     rw[e];generalize findN (ps.take j) k=q at *;exact congrArg (Value.int .i64) (by unfold wrap64;omega)
    case measure=>simp[intOf];omega
  ·have hlt':¬(j:Int)<(ps.length:Int):=by omega
   have hje:j=ps.length:=by omega
   subst hje;rw[List.take_length]at *;have HF:Hid (hasN ps k=(match ps[findN ps k]? with|some p=>decide (p.k=k)|none=>false)):=by
    show _=_;unfold hasN;rfl
   by_cases hf:findN ps k<ps.length
   ·obtain⟨b,o,rfl,_,hc',_⟩:=HA.out _ hf;have hc:=(hK0.thenN hK).cell hc' (fun h=>h);clear hc';have hf':(findN ps k:Int)<(ps.length:Int):=by omega
    have HX:Hid (ps[findN ps k]?=some ps[findN ps k]):=List.getElem?_eq_getElem hf;generalize ps[findN ps k]=y at *;have HE:Hid (hasN ps k=(y.k.toList==k.toList)):=by
     show _=_;rw[HF.out,HX.out,Kv]
    clear HF HX;generalize hq:findN ps k=q at *;have Hq:Hid (findN ps k=q):=hq;clear hq;go_upto_region 8 with fail;go_quiet (fail);go_wp2;go_ret2;rw[HE.out,Hq.out];exact⟨rfl,hK0.thenN (hK.thenN (Kp.drewN _ _ _))⟩
   ·have hf':¬(findN ps k:Int)<(ps.length:Int):=by omega
    have HX:Hid (ps[findN ps k]?=none):=List.getElem?_eq_none (by omega);have HE:Hid (hasN ps k=false):=by
     show _=_;rw[HF.out,HX.out]
    clear HF HX;generalize hq:findN ps k=q at *;have Hq:Hid (findN ps k=q):=hq;clear hq;go_upto_region 8 with fail;go_quiet (fail);go_wp2;go_ret2;rw[HE.out,Hq.out];exact⟨rfl,hK0.thenN (hK.thenN (Kp.drewN _ _ _))⟩
theorem Fd:(prog.info? 9).map (fun i=>(i.zero,i.size,i.bytes))=some (some (.string ⟨#[]⟩),1,16):=by kernel_rfl
theorem If(l:List Int):l.all okD=true↔∀i (h:i<l.length),1<=l[i]/\l[i]<=65535:=by
 rw[List.all_eq_true];constructor
 ·intro h i hi;simpa[okD]using h _ (List.getElem_mem hi)
 ·intro h x hx;obtain⟨i,hi,rfl⟩:=List.getElem_of_mem hx;simpa[okD]using h i hi
theorem MK(l:List Pr):l.all (fun p=>decide (p.v.size<=40))=true↔∀i (h:i<l.length),l[i].v.size<=40:=by
 rw[List.all_eq_true];constructor
 ·intro h i hi;simpa using h _ (List.getElem_mem hi)
 ·intro h x hx;obtain⟨i,hi,rfl⟩:=List.getElem_of_mem hx;simpa using h i hi
theorem Ow.mem{α:Type}{f:α->Value}{e:TypeId}{w:World}{base base':Nat}{v:Value}{l:List α}(h:Ow f e w base v l)(hb:base'<=base):Ow f e w base' v l:=by
 rcases h.2 with ⟨rfl,h0⟩|⟨g,cap,cur,rfl,hb',hg,h1,h2,h3,h4⟩
 ·exact⟨h.1,.inl ⟨rfl,h0⟩⟩
 ·exact⟨h.1,.inr ⟨g,cap,cur,rfl,Nat.le_trans hb hb',hg,h1,h2,h3,h4⟩⟩
def folB(a k:ByteArray):Bool:=lessB a k&&decide (k.size<=32)
def Bp(l:List ByteArray):Nat->ByteArray
 | 0=>⟨#[]⟩
 | j+1=>l.getD j ⟨#[]⟩
theorem J6(k:ByteArray):lessB ⟨#[]⟩ k=decide (1<=k.size):=by
 unfold lessB;have h:=Av k;cases e:k.data.toList with
 | nil=>rw[e]at h;simp at h;simp[Op.bytesLess,<-h]
 | cons x r=>rw[e]at h;simp at h;simp[Op.bytesLess,<-h]
theorem L0{a k:ByteArray}(h:lessB a k=true):1<=k.size:=by
 unfold lessB at h;have h1:=Av k;cases e:k.data.toList with
 | nil=>rw[e]at h;simp[Op.bytesLess]at h
 | cons x r=>rw[e]at h1;simp at h1;omega
theorem GQ(l:List ByteArray)(j:Nat)(h:j<l.length):folB (Bp l j) l[j]=true↔okAt l j h:=by
 unfold folB okAt okKey;cases j with
 | zero =>
  show (lessB ⟨#[]⟩ _&&_)=true↔_;rw[J6];simp
 | succ j =>
  show (lessB (l.getD j ⟨#[]⟩) _&&_)=true↔_;have e:l.getD j ⟨#[]⟩=l[j]'(by omega):=by rw[List.getD_eq_getElem?_getD,List.getElem?_eq_getElem (by omega)];rfl
  rw[e];simp only[Bool.and_eq_true,decide_eq_true_eq];constructor
  ·rintro ⟨h1,h2⟩;exact⟨⟨L0 h1,h2⟩,fun k e=>by cases e;exact h1⟩
  ·rintro ⟨h1,h2⟩;exact⟨h2 j rfl,h1.2⟩
set_option maxRecDepth 100000 in
theorem BA(a k:ByteArray)(w:World) :
  Calls prog 84 #[.string a,.string k] w fun e w'=>e=.returned (.bool (folB a k))/\w'=w:=by
 have e1:Op.bytesLess a.toList k.toList=lessB a k:=by unfold lessB;rw[ByteArray.toList_eq,ByteArray.toList_eq]
 cases h:lessB a k with
 | true =>
  rw[h]at e1;go_enter func84,ntmps84;go_wp2;go_ret;refine⟨?_,rfl⟩;unfold folB;rw[h];congr 2;simp;omega
 | false =>
  rw[h]at e1;go_enter func84,ntmps84;go_wp2;go_ret;refine⟨?_,rfl⟩;unfold folB;rw[h];rfl
set_option maxRecDepth 100000 in
theorem B4(v:Value)(ks:List ByteArray)(B:Nat)(w:World)(hS:Sl Value.string B w v ks) :
  Calls prog 48 #[v] w fun e w'=>e=.returned (.bool (ordN ks))/\Kp none' w w':=by
 obtain⟨a,c,rfl,hlc,hcm,ha⟩:=hS;unfold maxLen at hcm;have HA:Hid (∀i (h:i<ks.length),∃b off,a=some ⟨b,off,none⟩/\b<B/\w.cell? ⟨b,off+i,none⟩=some (.string ks[i])):=ha;clear ha;go_enter func48,ntmps48;go_wp2;go_loopw [3,5,8] (fun t _ u wr=>∃j:Nat,j<=ks.length/\u=.int .i64 j/\t=.string (Bp ks j)/\Hid (∀i (h:i<ks.length),i<j->okAt ks i h)/\Kp none' w wr) (fun _ _ u _=>ks.length - (intOf u).toNat)
 case atStart=>exact⟨0,Nat.zero_le _,rfl,rfl,fun i h h'=>absurd h' (by omega),Kp.refl _ _⟩
 case round =>
  obtain⟨j,hj,rfl,rfl,HO,hK⟩:=hrel;by_cases hlt:j<ks.length
  ·obtain⟨b,o,rfl,_,hc'⟩:=HA.out j hlt;have hc:=hK.cell hc' (fun h=>h);clear hc';have hlt':(j:Int)<(ks.length:Int):=by omega
   have hfi:=GQ ks j hlt;cases hf:folB (Bp ks j) ks[j] with
   | true =>
    have HN:Hid (∀i (h:i<ks.length),i<j+1->okAt ks i h):=by
     intro i h hij;rcases Nat.lt_succ_iff_lt_or_eq.1 hij with h'|h'
     ·exact HO.out i h h'
     ·subst h';exact hfi.1 hf
    have HT:Hid (Bp ks (j+1)=ks[j]):=by
     show ks.getD j _=_;rw[List.getD_eq_getElem?_getD,List.getElem?_eq_getElem hlt];rfl
    clear hfi HO;generalize ks[j]=y at *;generalize Bp ks j=z at *;go_wp2_with (go_at_call 84;refine(BA z y _).mono ?_;rintro e w' ⟨rfl,rfl⟩;rw[hf]);go_roundw
    case rel=>exact⟨j+1,by omega,by go_num,by rw[HT.out],HN,hK⟩
    case measure=>simp[intOf];omega
   | false =>
    have HF:Hid (ordN ks=false):=by
     cases e:ordN ks with
     | false=>rfl
     | true=>have:=hfi.2 ((FA ks).1 e j hlt);rw[hf]at this;cases this
    clear hfi HO;generalize ks[j]=y at *;generalize Bp ks j=z at *;go_wp2_with (go_at_call 84;refine(BA z y _).mono ?_;rintro e w' ⟨rfl,rfl⟩;rw[hf]);go_ret;rw[HF.out];exact⟨rfl,hK⟩
  ·have hlt':¬(j:Int)<(ks.length:Int):=by omega
   have HF:Hid (ordN ks=true):=(FA ks).2 (fun i h=>HO.out i h (by omega));clear HO;go_wp2;go_ret;rw[HF.out];exact⟨rfl,hK⟩
def okPs(ps:List Pr):Bool:=ps.all (fun p=>decide (p.v.size<=40))&&ordN (ps.map Pr.k)
theorem Fx(ps:List Pr):okPs ps=true↔∀i (h:i<ps.length),folB (Bp (ps.map Pr.k) i) ps[i].k=true/\ps[i].v.size<=40:=by
 unfold okPs;rw[Bool.and_eq_true,MK,FA];constructor
 ·rintro ⟨h1,h2⟩ i h;have h3:=(GQ (ps.map Pr.k) i (by simpa using h)).2 (h2 i (by simpa using h));rw[List.getElem_map]at h3;exact⟨h3,h1 i h⟩
 ·intro h1;refine⟨fun i h=>(h1 i h).2,fun i h=>?_⟩;have h':i<ps.length:=by simpa using h
  apply (GQ (ps.map Pr.k) i h).1;rw[List.getElem_map];exact(h1 i h').1
set_option maxRecDepth 100000 in
theorem FD(v:Value)(ps:List Pr)(B:Nat)(w:World)(hP:Prs B w v ps)(hwp:∀x∈ps,x.k.size<=maxLen/\x.v.size<=maxLen) :
  Calls prog 47 #[v] w fun e w'=>e=.returned (.bool (okPs ps))/\Kp none' w w':=by
 obtain⟨a,c,rfl,hlc,hcm,ha⟩:=hP;unfold maxLen at hcm;have HA:Hid (∀i (h:i<ps.length),∃b off,a=some ⟨b,off,none⟩/\b<B/\w.cell? ⟨b,off+i*2,none⟩=some (.string ps[i].k)/\w.cell? ⟨b,off+i*2+1,none⟩=some (.string ps[i].v)):=ha;clear ha;go_enter func47,ntmps47;go_wp2
 go_loopw [3,5,8] (fun t _ u wr=>∃j:Nat,j<=ps.length/\u=.int .i64 j/\t=.string (Bp (ps.map Pr.k) j)/\Hid (∀i (h:i<ps.length),i<j->folB (Bp (ps.map Pr.k) i) ps[i].k=true/\ps[i].v.size<=40)/\Kp none' w wr) (fun _ _ u _=>ps.length - (intOf u).toNat)
 case atStart=>exact⟨0,Nat.zero_le _,rfl,rfl,fun i h h'=>absurd h' (by omega),Kp.refl _ _⟩
 case round =>
  obtain⟨j,hj,rfl,rfl,HO,hK⟩:=hrel;by_cases hlt:j<ps.length
  ·obtain⟨b,o,rfl,_,hc',hd'⟩:=HA.out j hlt;have hc:=hK.cell hc' (fun h=>h);have hd:=hK.cell hd' (fun h=>h);clear hc' hd';have hlt':(j:Int)<(ps.length:Int):=by omega
   have hKa:Kp none' wr (wr.alloc (.cells #[.string ps[j].k,.string ps[j].v] 92)):=Kp.alloc _ _ _;cases hf:folB (Bp (ps.map Pr.k) j) ps[j].k with
   | true =>
    by_cases hz:ps[j].v.size<=40
    ·have HN:Hid (∀i (h:i<ps.length),i<j+1->folB (Bp (ps.map Pr.k) i) ps[i].k=true/\ps[i].v.size<=40):=by
      intro i h hij;rcases Nat.lt_succ_iff_lt_or_eq.1 hij with h'|h'
      ·exact HO.out i h h'
      ·subst h';exact⟨hf,hz⟩
     have HT:Hid (Bp (ps.map Pr.k) (j+1)=ps[j].k):=by
      show (ps.map Pr.k).getD j _=_;rw[List.getD_eq_getElem?_getD,List.getElem?_map,List.getElem?_eq_getElem hlt];rfl
     have hy1:¬40<(ps[j].v.size:Int):=by omega
     clear HO hz;generalize ps[j]=y at *;generalize Bp (ps.map Pr.k) j=z at *;go_wp2_with (go_at_call 84;refine(BA z y.k _).mono ?_;rintro e w' ⟨rfl,rfl⟩;rw[hf]);go_roundw
     case rel=>exact⟨j+1,by omega,by go_num,by rw[HT.out],HN,hK.thenN hKa⟩
     case measure=>simp[intOf];omega
    ·have HF:Hid (okPs ps=false):=by
      cases e:okPs ps with
      | false=>rfl
      | true=>exact absurd ((Fx ps).1 e j hlt).2 hz
     have hy1:40<(ps[j].v.size:Int):=by omega
     clear HO hz;generalize ps[j]=y at *;generalize Bp (ps.map Pr.k) j=z at *;go_wp2_with (go_at_call 84;refine(BA z y.k _).mono ?_;rintro e w' ⟨rfl,rfl⟩;rw[hf]);go_ret;rw[HF.out];exact⟨rfl,hK.thenN hKa⟩
   | false =>
    have HF:Hid (okPs ps=false):=by
     cases e:okPs ps with
     | false=>rfl
     | true=>have:=((Fx ps).1 e j hlt).1;rw[hf]at this;cases this
    clear HO;generalize ps[j]=y at *;generalize Bp (ps.map Pr.k) j=z at *;go_wp2_with (go_at_call 84;refine(BA z y.k _).mono ?_;rintro e w' ⟨rfl,rfl⟩;rw[hf]);go_ret;rw[HF.out];exact⟨rfl,hK.thenN hKa⟩
  ·have hlt':¬(j:Int)<(ps.length:Int):=by omega
   have HF:Hid (okPs ps=true):=(Fx ps).2 (fun i h=>HO.out i h (by omega));clear HO;go_wp2;go_ret;rw[HF.out];exact⟨rfl,hK⟩
theorem Iz(z:Int)(h:-9223372036854775808<=z/\z<9223372036854775808)(v:Int)(hv:v=IntKind.u64.wrap z)(hz:z≠0)(w:World) :
  Calls prog 85 #[.int .u64 v,.int .i64 2] w fun y w'=>y=.returned (.bool (okD z))/\w'=w:=by
 have e:v=(((IntKind.u64.wrap z).toNat:Nat):Int):=by rw[hv,IntKind.wrap_u64];omega
 rw[e];refine(Ng _ 2 w (by rw[IntKind.wrap_u64];omega)).mono ?_;rintro y w' ⟨rfl,rfl⟩;refine⟨congrArg (fun b=>Ending.returned (Value.bool b)) ?_,rfl⟩;unfold fitsB okD;rw[decide_eq_decide,IntKind.wrap_u64,show 2 ^ (8*wid 2)=65536 from rfl];omega
set_option maxRecDepth 100000 in
theorem FU(v:Value)(kd:List Int)(B:Nat)(w:World)(hD:Sl (Value.int .i64) B w v kd)(hwd:∀z∈kd,-9223372036854775808<=z/\z<9223372036854775808) :
  Calls prog 49 #[v] w fun e w'=>e=.returned (.bool (kd.all okD))/\Kp none' w w':=by
 obtain⟨a,c,rfl,hlc,hcm,ha⟩:=hD;unfold maxLen at hcm;have HA:Hid (∀i (h:i<kd.length),∃b off,a=some ⟨b,off,none⟩/\b<B/\w.cell? ⟨b,off+i,none⟩=some (.int .i64 kd[i])):=ha;have HW:=hide hwd;clear ha hwd;go_enter func49,ntmps49;go_wp2;go_loopw [4,7] (fun _ u wr=>∃j:Nat,j<=kd.length/\u=.int .i64 j/\Hid (∀i (h:i<kd.length),i<j->1<=kd[i]/\kd[i]<=65535)/\Kp none' w wr) (fun _ u _=>kd.length - (intOf u).toNat)
 case atStart=>exact⟨0,Nat.zero_le _,rfl,fun i h h'=>absurd h' (by omega),Kp.refl _ _⟩
 case round =>
  obtain⟨j,hj,rfl,HO,hK⟩:=hrel;by_cases hlt:j<kd.length
  ·obtain⟨b,o,rfl,_,hc'⟩:=HA.out j hlt;have hc:=hK.cell hc' (fun h=>h);clear hc';have hlt':(j:Int)<(kd.length:Int):=by omega
   have HR:=hide (HW.out _ (List.getElem_mem hlt));by_cases hz:1<=kd[j]/\kd[j]<=65535
   ·have HN:Hid (∀i (h:i<kd.length),i<j+1->1<=kd[i]/\kd[i]<=65535):=by
     intro i h hij;rcases Nat.lt_succ_iff_lt_or_eq.1 hij with h'|h'
     ·exact HO.out i h h'
     ·subst h';exact hz
    have hz0:(kd[j]==0)=false:=by rw[beq_eq_false_iff_ne];omega
    have hok:okD kd[j]=true:=by unfold okD;rw[decide_eq_true_eq];exact hz
    have HZ:Hid (kd[j]≠0):=by show _≠_;omega
    clear hz HO;generalize kd[j]=y at *;go_wp2_with (go_at_call 85;refine(Iz y HR.out _ (by first|rfl|(rw[IntKind.wrap_u64])) HZ.out _).mono ?_;rintro e w' ⟨rfl,rfl⟩;rw[hok]);go_roundw
    case rel=>exact⟨j+1,by omega,by go_num,HN,hK⟩
    case measure=>simp[intOf];omega
   ·have HF:Hid (kd.all okD=false):=by
     cases e:kd.all okD with
     | false=>rfl
     | true=>exact absurd ((If kd).1 e j hlt) hz
    by_cases hy:kd[j]=0
    ·have hz0:(kd[j]==0)=true:=by rw[beq_iff_eq];exact hy
     clear hz hy HO;generalize kd[j]=y at *;go_wp2;go_ret;rw[HF.out];exact⟨rfl,hK⟩
    ·have hz0:(kd[j]==0)=false:=by rw[beq_eq_false_iff_ne];omega
     have hok:okD kd[j]=false:=by unfold okD;rw[decide_eq_false_iff_not];exact hz
     have HZ:Hid (kd[j]≠0):=hy;clear hz hy HO;generalize kd[j]=y at *;go_wp2_with (go_at_call 85;refine(Iz y HR.out _ (by first|rfl|(rw[IntKind.wrap_u64])) HZ.out _).mono ?_;rintro e w' ⟨rfl,rfl⟩;rw[hok]);go_ret;rw[HF.out];exact⟨rfl,hK⟩
  ·have hlt':¬(j:Int)<(kd.length:Int):=by omega
   have HF:Hid (kd.all okD=true):=(If kd).2 (fun i h=>HO.out i h (by omega));clear HO;go_wp2;go_ret;rw[HF.out];exact⟨rfl,hK⟩
theorem catN(a b:List UInt8):(⟨a.toArray⟩:ByteArray)++⟨b.toArray⟩=⟨(a++b).toArray⟩:=by
 apply ByteArray.ext;rw[ByteArray.data_append];simp
theorem Pq(l:List Pr)(h:∀p∈l,p.k.size<=32/\p.v.size<=40):(l.map Pr.size).sum<=74*l.length:=by
 induction l with
 | nil=>simp
 | cons p l ih =>
  have h1:=h p List.mem_cons_self;have h2:=ih (fun q hq=>h q (List.mem_cons_of_mem _ hq));simp only[List.map_cons,List.sum_cons,List.length_cons];rw[show Pr.size p=2+p.k.size+p.v.size from rfl];omega
theorem NB(l:List ByteArray)(h:∀p∈l,p.size<=32):(l.map kSize).sum<=35*l.length:=by
 induction l with
 | nil=>simp
 | cons p l ih =>
  have h1:=h p List.mem_cons_self;have h2:=ih (fun q hq=>h q (List.mem_cons_of_mem _ hq));simp only[List.map_cons,List.sum_cons,List.length_cons];rw[show kSize p=3+p.size from rfl];omega
theorem Kj{n:Nd}(h:n.right=true)(hp:n.ps.length<=1099511627776)(hk:n.ks.length<=1099511627776):wrap64 (n.size:Int)=(n.size:Int):=by
 have:n.size<=4+74*1099511627776:=by
  unfold Nd.size;cases e:n.leaf with
  | true =>
   obtain⟨h1,_,_,h4⟩:=AI h e;have:=Pq n.ps (fun p hp=>⟨(Bj h4 p.k (List.mem_map_of_mem hp)).2,h1 p hp⟩);simp;omega
  | false =>
   obtain⟨_,_,_,h4⟩:=At h e;have:=NB n.ks (fun p hp=>(Bj h4 p hp).2);simp;omega
 unfold wrap64;omega
theorem E7:∀(l:List ByteArray) (m:List Int) (k:Nat) (h:k<l.length) (h':k<m.length),encKs (l.take (k+1)) m=encKs (l.take k) m++(strB l[k].data.toList++be m[k].toNat 2)
 | x::l,z::m,0,_,_=>by simp[encKs]
 | x::l,z::m,k+1,h,h'=>by
  have ih:=E7 l m k (by simpa using h) (by simpa using h')
  simp only[List.take_succ_cons,encKs,List.getElem_cons_succ,List.append_assoc]at ih |-
  rw[ih]
 | [],_,_,h,_=>absurd h (by simp)
 | _::_,[],_,_,h=>absurd h (by simp)
end Go.Proofs.YtgcgacjhkhjhmaaGreatDoor
